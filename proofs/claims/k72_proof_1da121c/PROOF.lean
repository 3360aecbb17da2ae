import PyProof.Rows.All
import Wide.All
import OpenK.AllK
import Wide.FinOn
import HandS.ForMost
import HandS.Wide
import HandS.IsInst
import HandS.Deep
import HandS.Strs
import HandS.ForExc
import PyProof.ReprRoads
import PyProof.CallFns
import KE.KExcIs
import HandS.Exc
import KE.KExcSuper
import HandS.ExcCtx
import HandS.HotCalls
import PyProof.NeKinds
import PyProof.SumWalkG
import PyProof.WalksMore
import PyProof.Rows.SumAny
import KE.GoesMore
import KE.GoesZip
import HandS.Zip
import HandS.NoneIn
import HandS.Evl
import HandS.More
import HandS.Style
import HandS.Property
import HandS.OwnEq
import PySem.Challenge.RW_filledonce_k72_values
set_option Elab.async false
set_option linter.all false
set_option maxRecDepth 100000
set_option maxHeartbeats 2000000
/-! own binary operators over the hand layer -/
namespace FoOps
open PySem PySem.W PyProof.Rows
section
variable {prog : Program} {w : World} {A : Around} {E : Value → Shared → Prop} {s : Shared} {K : Frag} {x C L f : Addr} {h₀ : Heap} {m : Str → Option Value} {ox : Obj} {od : Option Obj}
theorem tup_add : fillsNumberSlot (.type "tuple") "add" = pure false := by
  unfold fillsNumberSlot
  simp only [typeLookup_type, builtinLookup_eq_fast]
  kernel_rfl
theorem tup_sub : fillsNumberSlot (.type "tuple") "sub" = pure false := by
  unfold fillsNumberSlot
  simp only [typeLookup_type, builtinLookup_eq_fast]
  kernel_rfl
theorem binop_KT {op : Operator} {b : Value} {T : String} {Q : Value → Shared → Prop} (X : K.In s.heap) (I : InstAt s.heap x ox C od) (hT : s.TypeIs b T)
    (hfl : fillsNumberSlot (.type T) op.info.2 = pure false) (hc : selfFirst K C = true)
    (hs : findIn K (.ref C) (PySem.dunder op.info.2) = some (some (.ref f))) (hf : isFn K (.ref f) = true)
    (h : wpAny (model prog w) A (call (.ref f) [.ref x, b]) (PySem.W.CmpBack Q) E s) : wpAny (model prog w) A (binaryOp op (.ref x) b) Q E s := by
  obtain ⟨cd, hcd, hm⟩ := any_some hc
  obtain ⟨rest, hm⟩ : ∃ rest, cd.mro = .ref C :: rest := by
    cases q : cd.mro with
    | nil => rw [q] at hm; cases hm
    | cons a r => rw [q] at hm; exact ⟨r, by rw [List.head?_cons] at hm; cases (beq_iff_eq.mp hm); rfl⟩
  unfold binaryOp
  refine wpAny_holding (wpAny_bind ?_)
  unfold binaryOp1
  refine wpAny_bind (I.type.here (wpAny_bind (wpAny_typeOf hT (wpAny_bind ((fills_K X hcd hm hs).here ?_)))))
  have e : (Value.ref C == Value.type T) = false := by simp
  simp only [e, Bool.false_eq_true, if_false]
  refine wpAny_bind (wpAny_of_eq hfl ?_)
  simp only [Bool.and_false, Bool.false_eq_true, if_false, Bool.false_and, if_true]
  refine wpAny_bind (wpAny_pure ?_)
  simp only [Bool.false_eq_true, if_false]
  refine wpAny_bind (m := tryMethod (.ref x) _ b) ?_
  unfold tryMethod
  refine wpAny_bind (special_fn X I hs (beq_iff_eq.mp hf) (wpAny_mono h (fun v s' hv => ?_) fun _ _ e => e))
  cases v <;> first | exact hv.elim | exact wpAny_pure (wpAny_pure (wpAny_pure hv))
end
end FoOps

namespace L2
open PySem PySem.Spec PyProof.Rows
/-- an own class whose operator nm is the def at f -/
structure OwnOp (K : PySem.W.Frag) (C : Addr) (op : Operator) (f : Addr) : Prop where
  sf : PySem.W.selfFirst K C = true
  at_ : PySem.W.findIn K (.ref C) (PySem.dunder op.info.2) = some (some (.ref f))
  fn : PySem.W.isFn K (.ref f) = true
/-- a op b, a an instance of the class at C, b one too or a tracked tuple -/
def rOwnOp (C : Addr) (sp : Sp) (E : XK) : R2 := fun x y H Q => ∃ a dx fs, x = .ref a ∧ H a = some (.ins C dx fs) ∧
  ((∃ b dy gs, y = .ref b ∧ H b = some (.ins C dy gs)) ∨ ∃ b xs, y = .ref b ∧ H b = some (.tup xs)) ∧ sp [x, y] H Q E
section
variable {X : Cx} {CX : CXT} {k : Nat} {f C : Addr} {fd : FuncData} {ps : List Str} {sp : Sp} {E : XK}
theorem not_ni {z : V} {v : Value} (r : RelV z v) : v ≠ .notImplemented := by
  intro e
  subst e
  cases z <;> first | (cases r; done) | (obtain ⟨_, r⟩ := r; cases r)
theorem cmpBack_of {Q : Value → Shared → Prop} {v : Value} {s : Shared} (hn : v ≠ .notImplemented) (h : Q v s) : PySem.W.CmpBack Q v s := by
  cases v <;> first | exact h | exact absurd rfl hn
theorem op_own {op : Operator} (O : OwnOp X.K C op f) (hfl : fillsNumberSlot (.type "tuple") op.info.2 = pure false) (F : FnOk X.prog X.w X.K X.mg X.base CX k f fd ps sp) (hr : Room k X.A) (hb : Binds X.K fd ps []) (hx : Passes CX X E) :
    OpR X (binaryOp op) (rOwnOp C sp E) := by
  intro pins s σ H x y v u Q I rx ry h
  obtain ⟨a, dx, fs, rfl, ha, hy, q⟩ := h
  obtain rfl : v = Value.ref a := rx
  obtain ⟨mA, J, _⟩ := ins_get I.hok ha
  obtain ⟨od, J, _⟩ := J.look
  obtain ⟨m, hF⟩ := I.fr
  have run : wpAny (model X.prog X.w) X.A (call (.ref f) [.ref a, u]) (PySem.W.CmpBack (EP X pins σ Q)) X.xe s := by
    refine wpAny_mono (run_fn (us := [.ref a, u]) (vs := [.ref a, y]) F hr hb .nil hx I (.cons rfl (.cons ry .nil)) q) (fun r s' z => ?_) fun _ _ z => z
    obtain ⟨z1, H1, I1, rz, qz⟩ := z
    exact cmpBack_of (not_ni rz) ⟨z1, H1, I1, rz, qz⟩
  rcases hy with ⟨b, dy, gs, rfl, hb'⟩ | ⟨b, xs, rfl, hb'⟩
  · obtain rfl : u = Value.ref b := ry
    obtain ⟨mB, J', _⟩ := ins_get I.hok hb'
    obtain ⟨od', J', _⟩ := J'.look
    exact PySem.W.binop_K hF I.ok.mod.kin J J'.type O.sf O.at_ O.fn run
  · obtain rfl : u = Value.ref b := ry
    obtain ⟨_, _, _, o, h1, h2, _⟩ := (show ObjOk X.prog X.w H s.heap b (.tup xs) from I.hok b _ hb')
    exact FoOps.binop_KT I.kIn J ⟨o, h1, h2⟩ hfl O.sf O.at_ O.fn run
end
end L2
set_option Elab.async false
set_option linter.all false
set_option maxRecDepth 100000
set_option maxHeartbeats 2000000
/-! != by an own __eq__, t.index of data -/
namespace FoOps
open PySem PySem.W PyProof.Rows
theorem slot_ne : Slot "object" "__ne__" "object.__ne__" :=
  .of (owner := "object") (n := "__ne__") (by rw [typeLookup_type, builtinLookup_eq_fast]; kernel_rfl) (by decide +kernel) (by decide +kernel) (by decide +kernel)
    (by first | exact .inl (by decide +kernel) | exact .inr (by decide +kernel)) (by rw [isSubtype_type]; kernel_rfl)
section
variable {prog : Program} {w : World} {A : Around} {E : Value → Shared → Prop} {s : Shared} {K : Frag} {x C f : Addr} {ox : Obj} {od : Option Obj} {b : Value}
theorem ne_entry {Q : Fin → Shared → Prop} (X : K.In s.heap) (I : InstAt s.heap x ox C od) (hu : A.units < cLine) (hs : findIn K (.ref C) "__eq__" = some (some (.ref f))) (hf : isFn K (.ref f) = true)
    (h : wpAny (model prog w) A (call (.ref f) [.ref x, b]) (fun v s' => ∃ k, v = .bool k ∧ Q (.done (.ret (.bool (!k)))) s') E s) :
    wpAny (model prog w) A (Builtin.«object.__ne__» ⟨[.ref x, b], []⟩) Q E s := by
  unfold Builtin.«object.__ne__»
  repeat (first
    | with_reducible refine wpAny_cRoomFor hu ?_
    | (refine wpAny_bind (m := callSpecialIfBound? (.ref x) (Str.ofString "__eq__") [b])
        (PySem.W.ifBound_K X I hs hf (wpAny_mono h (fun r s' hr => by
          obtain ⟨k, rfl, hq⟩ := hr
          repeat (first | exact hq | exact wpAny_pure hq | exact wpAny_truthy_bool hq | (refine wpAny_bind (m := truthy (.bool _)) (wpAny_truthy_bool ?_)) | wp_step)) fun _ _ e => e)))
    | wp_step)
theorem ne_own {Q : Value → Shared → Prop} (X : K.In s.heap) (I : InstAt s.heap x ox C od) (hb : Looks (model prog w) s.heap (typeOf b) (.ref C)) (hu : A.units + 1 < cLine)
    (hne : findIn K (.ref C) "__ne__" = some (some (.builtin "object.__ne__"))) (hs : findIn K (.ref C) "__eq__" = some (some (.ref f))) (hf : isFn K (.ref f) = true) (hm : mroIn K C (.type "object") = some true)
    (h : wpAny (model prog w) A.in1 (call (.ref f) [.ref x, b]) (fun v s' => ∃ k, v = .bool k ∧ Q (.bool (!k)) s') E s) : wpAny (model prog w) A (richCompare .NotEq (.ref x) b) Q E s := by
  have sub : Looks (model prog w) s.heap (isInstance (.ref x) (.type "object")) true := I.type.andThen (looks_mroIn X hm)
  have one : wpAny (model prog w) A (tryCompare (.ref x) "__ne__" b) (fun r s' => ∃ v, r = some v ∧ Q v s') E s := by
    unfold tryCompare
    refine wpAny_bind ?_
    simp only [callSpecialIfBound?, bindSpecialIfBound?]
    refine wpAny_holding (wpAny_bind (wpAny_bind (wpAny_bind (I.type.here ((looks_findIn X hne).here ?_)))))
    refine wpAny_bind (wpAny_askSetting (wpAny_ite ?_))
    have fin : wpAny (model prog w) A (call (.builtin "object.__ne__") [.ref x, b]) (fun v s' => ∃ k, v = .bool k ∧ Q (.bool k) s') E s := by
      refine wpAny_call (codeAny_call_builtin slot_ne.plain F.cmpEntry_ne (check_slot F.cmpKind_ne F.cmpSplit_ne sub (F.cmpArgs_ne _ _) ?_))
      refine ne_entry (A := A.in1) X I hu hs hf (wpAny_mono h (fun v s' hv => ?_) fun _ _ z => z)
      obtain ⟨k, rfl, q⟩ := hv
      exact ⟨k, rfl, !k, rfl, q⟩
    have fin2 : wpAny (model prog w) A (call (.builtin "object.__ne__") ([.ref x] ++ [b]) >>= fun v => pure (some v)) (fun a s₁ => wpAny (model prog w) A (match a with | some .notImplemented | none => pure none | some v => pure (some v)) (fun r s' => ∃ v, r = some v ∧ Q v s') E s₁) E s := by
      refine wpAny_bind (wpAny_mono fin (fun v s' hv => ?_) fun _ _ z => z)
      obtain ⟨k, rfl, q⟩ := hv
      exact wpAny_pure (wpAny_pure ⟨_, rfl, q⟩)
    have hbind : bindSpecial (.builtin "object.__ne__") (.ref x) = pure (.builtin "object.__ne__", [.ref x]) := slot_ne.bind _
    split
    · exact wpAny_bind (wpAny_of_eq hbind (wpAny_pure (by exact fin2)))
    · exact wpAny_tryCatch (wpAny_bind (wpAny_of_eq hbind (wpAny_pure (by exact fin2))))
  unfold richCompare
  simp only [oneThing_ref]
  refine wpAny_holding (wpAny_bind (wpAny_cRoomFor (by omega) ?_))
  refine wpAny_bind (I.type.here (wpAny_bind (hb.here ?_)))
  simp only [bne_self_eq_false, Bool.false_eq_true, if_false]
  refine wpAny_bind (wpAny_pure ?_)
  simp only [Bool.false_eq_true, if_false]
  refine wpAny_bind (wpAny_mono one (fun r s' z => ?_) fun _ _ e => e)
  obtain ⟨v, rfl, hq⟩ := z
  exact wpAny_pure hq
end
end FoOps
namespace L2
open PySem PySem.Spec PyProof.Rows
/-- an own class with an own __eq__ at f, and no __ne__ -/
structure OwnEqC (K : PySem.W.Frag) (C f : Addr) : Prop where
  eq : PySem.W.findIn K (.ref C) "__eq__" = some (some (.ref f))
  fn : PySem.W.isFn K (.ref f) = true
  ne : PySem.W.findIn K (.ref C) "__ne__" = some (some (.builtin "object.__ne__"))
  mo : PySem.W.mroIn K C (.type "object") = some true
  nt : PySem.W.notFirst K C (.type "tuple") = true
def rOwnEq (C : Addr) (sp : Sp) (E : XK) : R2 := fun x y H Q => ∃ a dx fs, x = .ref a ∧ H a = some (.ins C dx fs) ∧
  ((∃ b dy gs, y = .ref b ∧ H b = some (.ins C dy gs)) ∨ ∃ b xs, y = .ref b ∧ H b = some (.tup xs)) ∧ sp [x, y] H Q E
def rOwnNe (C : Addr) (sp : Sp) (E : XK) : R2 := fun x y H Q => ∃ a dx fs b dy gs, x = .ref a ∧ H a = some (.ins C dx fs) ∧ y = .ref b ∧ H b = some (.ins C dy gs) ∧
  sp [x, y] H (fun v H' => ∃ k, v = .bl k ∧ Q (.bl (!k)) H') E
section
variable {X : Cx} {CX : CXT} {k : Nat} {f C : Addr} {fd : FuncData} {ps : List Str} {sp : Sp} {E : XK}
theorem op_ownEq (O : OwnEqC X.K C f) (F : FnOk X.prog X.w X.K X.mg X.base CX k f fd ps sp) (hr : Room k X.A) (hb : Binds X.K fd ps []) (hx : Passes CX X E) :
    OpR X (compareOp .Eq) (rOwnEq C sp E) := by
  intro pins s σ H x y v u Q I rx ry h
  obtain ⟨a, dx, fs, rfl, ha, hy, q⟩ := h
  obtain rfl : v = Value.ref a := rx
  obtain ⟨mA, J, _⟩ := ins_get I.hok ha
  obtain ⟨od, J, _⟩ := J.look
  obtain ⟨m, hF⟩ := I.fr
  have run : wpAny (model X.prog X.w) X.A (call (.ref f) [.ref a, u]) (PySem.W.CmpBack (EP X pins σ Q)) X.xe s := by
    refine wpAny_mono (run_fn (us := [.ref a, u]) (vs := [.ref a, y]) F hr hb .nil hx I (.cons rfl (.cons ry .nil)) q) (fun r s' z => ?_) fun _ _ z => z
    obtain ⟨z1, H1, I1, rz, qz⟩ := z
    exact cmpBack_of (not_ni rz) ⟨z1, H1, I1, rz, qz⟩
  show wpAny (model X.prog X.w) X.A (richCompare .Eq (.ref a) u) (EP X pins σ Q) X.xe s
  rcases hy with ⟨b, dy, gs, rfl, hb'⟩ | ⟨b, xs, rfl, hb'⟩
  · obtain rfl : u = Value.ref b := ry
    obtain ⟨mB, J', _⟩ := ins_get I.hok hb'
    obtain ⟨od', J', _⟩ := J'.look
    exact PySem.W.cmp_K (op := .Eq) (tb := .ref C) hr.units0 hF I.ok.mod.kin J J'.type (by simp [PySem.W.notFirst]) O.eq O.fn run
  · obtain rfl : u = Value.ref b := ry
    obtain ⟨_, _, _, o, h1, h2, _⟩ := (show ObjOk X.prog X.w H s.heap b (.tup xs) from I.hok b _ hb')
    have lk : PySem.W.Looks (model X.prog X.w) s.heap (typeOf (.ref b)) (.type "tuple") := fun A Q E s' k q => wpAny_typeOf ⟨o, k _ _ h1, h2⟩ q
    exact PySem.W.cmp_K (op := .Eq) (tb := .type "tuple") hr.units0 hF I.ok.mod.kin J lk O.nt O.eq O.fn run
theorem op_ownNe (O : OwnEqC X.K C f) (F : FnOk X.prog X.w X.K X.mg X.base CX k f fd ps sp) (hr : Room (k + 1) X.A) (hb : Binds X.K fd ps []) (hx : Passes CX X E) :
    OpR X (compareOp .NotEq) (rOwnNe C sp E) := by
  intro pins s σ H x y v u Q I rx ry h
  obtain ⟨a, dx, fs, b, dy, gs, rfl, ha, rfl, hb', q⟩ := h
  obtain rfl : v = Value.ref a := rx
  obtain rfl : u = Value.ref b := ry
  obtain ⟨mA, J, _⟩ := ins_get I.hok ha
  obtain ⟨od, J, _⟩ := J.look
  obtain ⟨mB, J', _⟩ := ins_get I.hok hb'
  obtain ⟨od', J', _⟩ := J'.look
  show wpAny (model X.prog X.w) X.A (richCompare .NotEq (.ref a) (.ref b)) (EP X pins σ Q) X.xe s
  refine FoOps.ne_own I.kIn J J'.type (hu_of hr) O.ne O.eq O.fn O.mo ?_
  have hl := F.len _ _ _ _ q
  have r2 : Vals [V.ref a, V.ref b] [Value.ref a, Value.ref b] := .cons rfl (.cons rfl .nil)
  refine wpAny_call (codeAny_mono (F.run X.A.in1 X.stack s H ⟨[.ref a, .ref b], []⟩ [.ref a, .ref b] [.ref a, .ref b] _ E hr.in1 I.env0.in1 (by
    have := hb s [.ref a, .ref b] I.kIn (by simpa using hl)
    simpa using this) r2 q) fun r s' hq => ?_)
  cases r with
  | error e => exact hx pins σ H s e s' I hq
  | ok fl =>
    cases fl with
    | ret w =>
      obtain ⟨z, H', I', rz, kk, ez, ex⟩ := I.after hq
      subst ez
      cases rz
      exact ⟨kk, rfl, .bl (!kk), H', I', rfl, ex⟩
    | next => exact False.elim hq
    | brk => exact False.elim hq
    | cont => exact False.elim hq
/-- two lists of the very same objects -/
def rNeRefs : R2 := fun x y H Q => ∃ (a b : Addr) (rs : List Addr), x = .ref a ∧ y = .ref b ∧ H a = some (.lst (rs.map V.ref)) ∧ H b = some (.lst (rs.map V.ref)) ∧ Q (.bl false) H
theorem vals_refs : ∀ {rs : List Addr} {us : List Value}, Vals (rs.map V.ref) us → us = rs.map Value.ref
  | [], _, h => by
    cases h
    rfl
  | r :: rs, _, h => by
    cases h with
    | cons h1 h2 =>
      have e1 := vals_refs h2
      cases h1
      rw [e1]
      rfl
theorem op_neRefs (hu : X.A.units < cLine) : OpR X (compareOp .NotEq) rNeRefs := by
  intro pins s σ H x y v u Q I rx ry h
  obtain ⟨a, b, rs, rfl, rfl, ha, hb, q⟩ := h
  obtain rfl : v = Value.ref a := rx
  obtain rfl : u = Value.ref b := ry
  obtain ⟨_, its, n1, r1, e1⟩ := (show ObjOk X.prog X.w H s.heap a (.lst (rs.map V.ref)) from I.hok a _ ha)
  obtain ⟨_, its2, n2, r2, e2⟩ := (show ObjOk X.prog X.w H s.heap b (.lst (rs.map V.ref)) from I.hok b _ hb)
  have q1 := vals_refs r1
  have q2 := vals_refs r2
  subst q1
  subst q2
  have hl1 : s.heap.IsList a (rs.map Value.ref).toArray := ⟨_, e1, rfl, _, rfl⟩
  have hl2 : s.heap.IsList b (rs.map Value.ref).toArray := ⟨_, e2, rfl, _, rfl⟩
  have k := PySem.SeqAt.RcNeAt.lists (A := X.A) (s := s) (e := fun _ => true) hl1 hl2 rfl hu (fun j h1 h2 => PySem.SeqAt.EqAt.same _)
  have e : (!(List.range (rs.map Value.ref).toArray.size).all fun _ => true) = false := by simp
  rw [e] at k
  exact k X.prog X.w X.xe _ ⟨.bl false, H, I, rfl, q⟩
/-- t.index(x) of data: the first place of an equal one -/
def rTIndexD (K : PySem.W.Frag) : V → List V → Hp → VK → Prop := fun x xs H Q => ∃ (a : Addr) (y : V) (d : PyData) (ds : List PyData) (j : Nat) (z : PyData), x = V.ref a ∧ xs = [y] ∧ Dp K H (V.ref a) (.tuple ds) ∧ Dp K H y d ∧
  SeqAt.shaped (.tuple ds) = true ∧ SeqAt.shaped d = true ∧ ds[j]? = some z ∧ PyData.eqv z d = true ∧ (∀ (m : Nat) (z' : PyData), m < j → ds[m]? = some z' → PyData.eqv z' d = false) ∧ Q (.int (j : Nat)) H
theorem mt_tindexD (hu : X.A.units + 65 < cLine) : MtR X "tuple.index" (rTIndexD X.K) := by
  intro pins s σ H x xs v us Q I rx rxs h
  obtain ⟨a, y, d, ds, j, z, rfl, rfl, hl, hy, sl, sd, hz, hzj, hno, q⟩ := h
  cases rx
  cases rxs with
  | cons ry rt =>
    rename_i uy ut
    cases rt
    obtain ⟨bs, r1⟩ := Dp.reads I d y uy hy ry
    have hxs : PyData.canLayAll0 ds = true := SeqAt.canLay_of_shaped sl
    have hroom : X.A.units + 1 + min (PyData.depthAll ds) d.depth < cLine := room_in_shaped sd hu
    cases hl with
    | tup hs ha =>
      obtain ⟨its, rv, pl, hlen⟩ := I.tuple hs
      obtain ⟨⟨cls, dd, dt, sls⟩, ho, hc, n, hd⟩ := pl
      simp only at hc hd
      subst hc
      subst hd
      obtain ⟨as, h4⟩ := Dp.readsAll I ds _ its ha rv
      have hn : its.length = ds.length := SeqAt.ReadsAll.length ds its as h4
      have hmap : its.map (SeqAt.readOf s.heap) = ds := SeqAt.readsAll_map ds its as hxs h4
      obtain ⟨hjd, _⟩ := List.getElem?_eq_some_iff.mp hz
      have hjl : j < its.length := by omega
      have hj : j < its.toArray.size := by simpa using hjl
      have at_ : ∀ (m : Nat) (hm : m < its.toArray.size) (z' : PyData), ds[m]? = some z' → SeqAt.readOf s.heap its.toArray[m] = z' := by
        intro m hm z' hz'
        have hml : m < its.length := by simpa using hm
        rw [← hmap, List.getElem?_map, List.getElem?_eq_getElem hml] at hz'
        have e1 : SeqAt.readOf s.heap its[m] = z' := Option.some.inj (show some (SeqAt.readOf s.heap its[m]) = some z' from hz')
        simpa using e1
      refine call_meets PySem.F.slot_tuple_index ⟨_, ho, rfl⟩ PySem.F.entry_tuple_index (PySem.F.args_tuple_index_2 _ _)
        (TI.tuple_indexAt a its.toArray n dd sls uy (fun u => PyData.eqv (SeqAt.readOf s.heap u) d) j hj ?_ ?_) ⟨ho, SeqAt.items_eqAt (vs := its.toArray) (show ReadsAll s.heap its.toArray.toList ds as from h4) r1 hxs (SeqAt.canLay_of_shaped sd) hroom, ?_⟩
      · show PyData.eqv (SeqAt.readOf s.heap its.toArray[j]) d = true
        rw [at_ j hj z hz]
        exact hzj
      · intro m hm hmj
        have hmd : m < ds.length := by omega
        have hz' : ds[m]? = some ds[m] := List.getElem?_eq_getElem hmd
        show PyData.eqv (SeqAt.readOf s.heap its.toArray[m]) d = false
        rw [at_ m hm _ hz']
        exact hno m _ hmj hz'
      · exact ⟨.int (j : Nat), H, I.tok _, ⟨_, rfl⟩, q⟩
end
end L2
set_option Elab.async false
set_option linter.all false
set_option maxRecDepth 100000
set_option maxHeartbeats 2000000
/-! defs that are called where no guard stands (so that repr of lists and tuples can be told) -/
namespace L2
open PySem PySem.Spec PyProof.Rows
/-- the promise of a def, where nothing is being shown around it -/
structure FnG (P : Program) (w : World) (K : PySem.W.Frag) (mg : Str → Option Value) (base : Heap) (CX : CXT) (k : Nat) (f : Addr) (fd : FuncData) (ps : List Str) (sp : Sp) : Prop where
  len : ∀ vs H Q E, sp vs H Q E → vs.length = ps.length
  run : ∀ (A : Around), A.guards = some [] → ∀ (outer : List Env) (s : Shared) (H : Hp) (args : Args) (us : List Value) (vs : List V) (Q : VK) (E : XK), Room k A → Env0 P w K mg base A outer s H → BindsTo s fd args (ps.zip us) → Vals vs us → sp vs H Q E →
    codeAny (model P w) A (.call (.ref f) args) (CR CX outer P w H s Q E) s
section
variable {P : Program} {w : World} {K : PySem.W.Frag} {mg : Str → Option Value} {base : Heap}
/-- by its body -/
theorem Fun.okG {x qual : Str} {st : Stmt} {f : Addr} {fd : FuncData} {N ps : List Str} {k : Nat} {sp : Sp} (F : Fun K x qual st f fd) (S : FnScope N ps (defScope st)) (len : ∀ vs H Q E, sp vs H Q E → vs.length = ps.length)
    (walk : ∀ (cdv : Value) (A : Around) (outer : List Env) (s : Shared) (H : Hp) (vs : List V) (Q : VK) (E : XK), A.guards = some [] → Room k (A.deeper (envOfC qual (defScope st) s.heap.objs.size f cdv)) → sp vs H Q E →
      ∃ t, PSs (cxOf CX0 P w K mg base N qual (defScope st) f cdv A outer s H E).nox (defBody st) t ∧ t { nx := fun _ H' => Q .non H', rt := Q } (start N vs) H) : FnG P w K mg base CX0 (k + 1) f fd ps sp := by
  obtain ⟨oc, od, kV, doc, pm, an, cdv, ct, osl, rfl, lk, hcd⟩ := F.ex
  constructor
  · exact len
  intro A hgd outer s H args us vs Q E room env bind rel want
  have inB : ∀ b o, base.get? b = some o → s.heap.get? b = some o := fun b o z => (env.bs b o z).1
  have inK := env.mod.kin.keeps inB
  have kinds : ∀ y ∈ ps.zip us, (defScope st).names.lookup y.1 = some .local ∨ ((defScope st).names.lookup y.1 = some .cell ∧ ((cellsFrom (s.heap.objs.size + 1) (defScope st).names []).lookup y.1).isSome = true) := by
    rintro ⟨n, v⟩ hy
    exact (S.par n (List.of_mem_zip hy).1).imp id fun q => ⟨q, PySem.W.cellsFrom_some _ _ _ (.inl q)⟩
  refine codeAny_call_function room.depth (inK _ _ lk) rfl S.co S.gen rfl (PySem.W.codeRec_of inK hcd) (bind _ _ _ _ (wpAny_newFunctionEnv_cells S.kind kinds ?_))
  rintro _ rfl s1 entry
  refine ⟨(env.mod.nolimit.keeps inB).keeps entry.toInCall.keep, codeAny_func ?_⟩
  obtain ⟨t, body, told⟩ := walk cdv A outer s H vs Q E hgd (room.deeper _) want
  have start0 := inv_start (CX := CX0) (E := E) S room.hd env (len _ _ _ _ want) rel entry
  refine wpAny_mono (body.nox.run [] s1 (start N vs) H _ start0 told) ?_ fun _ _ z => z
  intro fl s' z
  cases fl with
  | ret u =>
    obtain ⟨v, σ', H', J, rv, q⟩ := z
    exact ⟨v, H', J.os, J.bare, J.base, J.hok, rv, q⟩
  | next =>
    obtain ⟨σ', H', J, q⟩ := z
    exact ⟨.non, H', J.os, J.bare, J.base, J.hok, rfl, q⟩
  | brk => exact z.elim fun _ z => z.elim fun _ z => z.2.elim
  | cont => exact z.elim fun _ z => z.elim fun _ z => z.2.elim
end
section
variable {X : Cx} {CX : CXT} {k : Nat} {f : Addr} {fd : FuncData} {ps : List Str} {sp : Sp} {E : XK} {x : Str} {p pos : Pos} {e : Expr} {es : List Expr} {t : TA}
/-- f(e, ..) of such a def -/
theorem pe_callG (F : FnG X.prog X.w X.K X.mg X.base CX k f fd ps sp) (hgd : X.A.guards = some []) (hr : Room k X.A) (hg : Gl X x) (hm : X.mg x = some (.ref f)) (hk : PySem.W.keepIn X.K (.ref f) = true) (hb : Binds X.K fd ps []) (hx : Passes CX X E)
    (ha : PA X (e :: es) t) (hdb : (x == ("__debug__" : Str)) = false := by decide) (he : starEach (e :: es) X.env = (false, eval e X.env) :: starEach es X.env := by rfl) (hpl : (backTo pos (starEach es X.env)).any (·.1) = false := by rfl) :
    PE X (.Call (.Name x p) (e :: es) [] pos) (tCall sp [] E t) := by
  constructor
  intro pins s σ H Q I h
  refine wpAny_Call_Name_kw (ld_glob I hg hm (PySem.W.callWith_K (h₀ := X.base) I.ok.mod.kin hk (thn (ha.run pos pins s σ H _ I h) ?_) he hpl) hdb)
  rintro us s1 ⟨vs, H1, I1, rel, want⟩
  refine ⟨I1.kIn, ?_⟩
  rw [List.append_nil] at want
  have ln : us.length = ps.length := rel.length.symm.trans (F.len _ _ _ _ want)
  have bnd := hb s1 us I1.kIn (by rw [List.append_nil]; exact ln)
  rw [List.append_nil] at bnd
  refine wpAny_call (codeAny_mono (F.run X.A hgd X.stack s1 H1 ⟨us, []⟩ us vs Q E hr I1.env0 bnd rel want) ?_)
  intro r s' z
  rcases r with e | (u | _ | _ | _)
  · exact hx pins σ H1 s1 e s' I1 z
  all_goals first | exact I1.after z | exact False.elim z
end
end L2
namespace L2
open PySem PySem.Spec PyProof.Rows
/-- the end of a law whose def is such a one -/
theorem walk_ofG {l : PySem.W.OpenLaw} {n k : Nat} {q : Program} {loose : List Str} {XP : (Str → Option Value) → Heap → Prop} {YP : World → Heap → Prop} {d : DefRec} {K : Params → PySem.W.Frag} {sp : World → Sp} {x : Str}
    (hn : l.most = some n) (hn2 : n ≤ sizeLine) (hdf : d.params.defaults = []) (hr : Room k callerA) (hY : ∀ (w : World) (h : Heap), YP w h → (K w.params).In h)
    (F : ∀ (w : World) (mg : Str → Option Value) (fa : Addr) (h : Heap), (K w.params).In h → h.Ns mainGlobals mg → mg d.name = some (.ref fa) →
      ∃ fd : FuncData, (∀ (s : Shared) (u : Value), BindsTo s fd ⟨[u], []⟩ [(x, u)]) ∧ ∀ base : Heap, (K w.params).In base → base.Ns mainGlobals mg → FnG l.prog w (K w.params) mg base CX0 k fa fd [x] (sp w))
    (hsp : ∀ (w : World) (H : Hp) (a : Addr) (ns : List Int), ns.length ≤ n → SqL (K w.params) H a (ns.map V.int) → sp w [.ref a] H (fun v _ => v = .bl true) E0) :
    PySem.W.WalkO q loose XP YP l.row.toRowW d [] (fun f vs => PySem.call f vs) := by
  refine Att.attach_call hn hdf fun w s₀ s₁ mg mb fa o pm cd doc a vs ns G Y _ _ _ hmg hobj hints hlen hg => ?_
  have inK := hY w _ Y
  obtain ⟨fd, bind, told⟩ := F w mg fa _ inK G.T.g hmg
  have rel := vals_ints hints
  have long : ns.length ≤ sizeLine := Nat.le_trans hlen hn2
  -- any abstract heap that knows at most the script, as it lies
  have key : ∀ H : Hp, (∀ b u, H b = some u → b = a ∧ (K w.params).lookup a = none ∧ u = .frz { cls := .type "list", data := .seq vs.toArray } (.lst (ns.map V.int))) → SqL (K w.params) H a (ns.map V.int) → HOk l.prog w H s₁.heap →
      codeAny (model l.prog w) callerA (.call (.ref fa) ⟨[.ref a], []⟩) (fun r s' => r = .ok (.ret (.bool true)) ∧ OldK s₁.heap s'.heap ∧ s'.os = s₁.os ∧ AllBare s'.gens) s₁ := by
    intro H only sq ok
    have keepN : ∀ {b : Addr} {m : Str → Option Value}, s₁.heap.Ns b m → (hidT s₁.heap H).Ns b m := by
      rintro b m ⟨ob, es, ep, h1, h2, r⟩
      refine ⟨ob, es, ep, hidT_get h1 ?_, h2, r⟩
      cases hH : H b with
      | none => rfl
      | some u =>
        obtain ⟨rfl, _, _⟩ := only b u hH
        rw [hobj] at h1
        cases h1
        cases h2
    have kIn' : (K w.params).In (hidT s₁.heap H) := fun b ob z => hidT_get (inK b ob z) (by
      cases hH : H b with
      | none => rfl
      | some u =>
        obtain ⟨rfl, hno, _⟩ := only b u hH
        rw [hno] at z
        cases z)
    obtain ⟨mc, c1, c2⟩ := G.T.nolimit
    have env : Env0 l.prog w (K w.params) mg (hidT s₁.heap H) callerA [] s₁ H := by
      refine ⟨rfl, ⟨kIn', keepN G.T.g, ⟨mb, keepN G.T.b, G.T.builtins⟩, ⟨mc, keepN c1, c2⟩⟩, fun b ob z => of_hidT z, Nat.le_of_eq (hidT_size _ _), trivial, fun b hb => ?_, ok, .of_eq hg⟩
      have hb' : b ∈ ([] : List Addr) := hb
      cases hb'
    refine codeAny_mono ((told _ kIn' (keepN G.T.g)).run callerA rfl [] s₁ H ⟨[.ref a], []⟩ [.ref a] [.ref a] _ _ hr env (bind s₁ (.ref a)) (.cons rfl .nil) (hsp w H a ns hlen sq)) ?_
    intro r s' z
    cases r with
    | error e => exact False.elim z
    | ok fl =>
      cases fl with
      | next => exact False.elim z
      | brk => exact False.elim z
      | cont => exact False.elim z
      | ret u =>
        obtain ⟨v, H', os, bare, un, ok', rv, ev⟩ := z
        have ev' : v = .bl true := ev
        subst ev'
        obtain rfl : u = Value.bool true := rv
        refine ⟨rfl, OldK.of_keep fun b ob hb => ?_, os, bare⟩
        cases hH : H b with
        | none =>
          refine un.keep b ob hb hH (fun hm => ?_) (by simp)
          have hm' : b ∈ ([] : List Addr) := hm
          cases hm'
        | some u =>
          obtain ⟨rfl, _, rfl⟩ := only b u hH
          obtain ⟨e1, _⟩ := ok b _ hH
          obtain ⟨e2, _⟩ := ok' b _ (un.frzs b _ _ hH)
          rw [hb] at e1
          cases e1
          exact e2
  by_cases hk : (K w.params).lookup a = none
  · refine key (fun b => if b = a then some (.frz { cls := .type "list", data := .seq vs.toArray } (.lst (ns.map V.int))) else none) (fun b u z => ?_) (.inl (.inr ⟨_, if_pos rfl⟩)) (fun b u z => ?_)
    · try dsimp only at z
      by_cases hb : b = a
      · rw [if_pos hb] at z
        exact ⟨hb, hk, (Option.some.inj z).symm⟩
      · rw [if_neg hb] at z
        cases z
    · try dsimp only at z
      by_cases hb : b = a
      · rw [if_pos hb] at z
        cases z
        subst hb
        exact ⟨hobj, by rw [List.length_map]; exact long, vs, _, rel, hobj⟩
      · rw [if_neg hb] at z
        cases z
  · obtain ⟨ob, hob⟩ := Option.ne_none_iff_exists'.mp hk
    have same := inK a ob hob
    rw [hobj] at same
    cases same
    refine key (fun _ => none) (fun b u z => by cases z) (.inr ⟨_, vs.toArray, _, hob, rfl, rfl, rfl, ?_, by simpa using rel⟩) (fun b u z => by cases z)
    rw [List.size_toArray, hints.length]
    exact long
end L2
set_option Elab.async false
set_option linter.all false
set_option maxRecDepth 100000
set_option maxHeartbeats 2000000
/-! repr of data, where no guard stands -/
namespace L2
open PySem PySem.Spec PyProof.Rows
def rReprD (K : PySem.W.Frag) : List V → Hp → VK → Prop := fun xs H Q => ∃ x d, xs = [x] ∧ Dp K H x d ∧ d.showable = true ∧ d.hasDict = false ∧ d.depth ≤ 60 ∧ d.shown.length ≤ sizeLine ∧ Q (.str d.shown) H
theorem call_reprD {X : Cx} (hgd : X.A.guards = some []) (hu : X.A.units + 64 < cLine) : CallR X (.builtin "repr") (rReprD X.K) := by
  intro pins s σ H xs us Q I r h
  obtain ⟨x, d, rfl, hd, hs, hnd, hdp, hz, q⟩ := h
  obtain ⟨u, rfl, rx⟩ := vals1 r
  obtain ⟨as, rd⟩ := Dp.reads I d x u hd rx
  cases hd with
  | non =>
    obtain rfl : u = Value.none := rx
    exact PySem.P.repr_of_none ⟨.str "None", H, I.tok _, ⟨_, rfl⟩, q⟩
  | bl b =>
    obtain rfl : u = Value.bool b := rx
    exact PySem.P.repr_of_bool ⟨.str _, H, I.tok _, ⟨_, rfl⟩, q⟩
  | int i =>
    obtain ⟨t, rfl⟩ := rx
    exact PySem.P.repr_of_int (by simpa [PyData.showable] using hs) ⟨.str (toString i), H, I.tok _, ⟨_, rfl⟩, q⟩
  | str y =>
    obtain ⟨t, rfl⟩ := rx
    exact PySem.P.repr_of_str ⟨.str (reprText y), H, I.tok _, ⟨_, rfl⟩, q⟩ hz
  | @lst a ys ds h1 h2 =>
    obtain rfl : u = Value.ref a := rx
    exact repr_of_reads' rd hs (fun z => by rw [hnd] at z; cases z) hgd (by omega) (fun _ _ z => z) (fun h' v tk k => ⟨.str _, H, I.kept k, ⟨_, rfl⟩, q⟩) hz
  | @tup a ys ds h1 h2 =>
    obtain rfl : u = Value.ref a := rx
    exact repr_of_reads' rd hs (fun z => by rw [hnd] at z; cases z) hgd (by omega) (fun _ _ z => z) (fun h' v tk k => ⟨.str _, H, I.kept k, ⟨_, rfl⟩, q⟩) hz
end L2
namespace L2
open PySem PySem.Spec PyProof.Rows
/-- what an own error class says, so that isinstance asks its instances rightly -/
structure XIsC (K : PySem.W.Frag) (D : Addr) : Prop where
  hg : PySem.W.findIn K (.ref D) "__getattribute__" = some (some (.builtin "BaseException.__getattribute__"))
  hk : PySem.W.findIn K (.ref D) "__getattr__" = some none
  hs : PySem.W.subIn K (.ref D) (.type "BaseException") = some true
  hd : PySem.W.hasDictIn K D = true
  ha : PySem.W.findIn K (.ref D) "__class__" = some (some (.builtin "object.__class__"))
  hn : PySem.W.specialIn K (.builtin "object.__class__") "__get__" = some (some (.builtin "getset_descriptor.__get__"))
  ht : PySem.W.takesIn K (.builtin "object.__class__") = some true
  hm : PySem.W.mroIn K D (.type "object") = some true
end L2
namespace L2
open PySem PySem.Spec PyProof.Rows
/-- isinstance(e, c), e the error that the suite holds (at a; its class cls, its dict d) -/
def rIsX (K : PySem.W.Frag) (a : Addr) (cls : Value) (d : Option Addr) : List V → Hp → VK → Prop := fun xs H Q => ∃ (D dd : Addr) (fs : List (Str × V)) (c : V) (cv : Value) (b : Bool), xs = [.ref a, c] ∧ cls = .ref D ∧ d = some dd ∧ H dd = some (.xd fs) ∧ ClsV c cv ∧ XIsC K D ∧
  PySem.W.kitOne K (.ref D) cv = some b ∧ Q (.bl b) H
theorem call_isX {X : Cx} {a : Addr} {oe : Obj} {cls : Value} {d : Option Addr} {pn : List (Addr × Obj)} (hz : Zc cls d oe) (hf : ∃ vs, oe.data = .fields vs) : CallR (X.suite a ((a, oe) :: pn)) (.builtin "isinstance") (rIsX X.K a cls d) := by
  intro pins s σ H xs us Q I r h
  obtain ⟨D, dd, fs, c, cv, b, rfl, rfl, rfl, hdd, hcv, T, e, q⟩ := h
  obtain ⟨u1, u2, rfl, r1, r2⟩ := vals2 r
  obtain rfl : u1 = Value.ref a := r1
  obtain rfl := hcv.eq r2
  obtain ⟨ha, _⟩ := I.pin (a, oe) (List.mem_append_left _ List.mem_cons_self)
  obtain ⟨vs, hd⟩ := hf
  obtain ⟨mA, hns, _⟩ := (show ObjOk X.prog X.w H s.heap dd (.xd fs) from I.hok dd _ hdd)
  obtain ⟨od, ho, _⟩ := lookIn_ns hns
  have J : PySem.W.InstAt s.heap a oe D (some od) := ⟨ha, hz.1, by unfold PySem.W.notCls; rw [hd] <;> rfl, by rw [hz.2]; exact ho⟩
  have hcl : (PySem.W.clsIn X.K D).isSome = true := by
    obtain ⟨cd, hc, _⟩ := PySem.W.any_some T.hd
    rw [hc]
    rfl
  exact PySem.W.kia_one (PySem.W.kitx_exc hcl T.hg T.hk T.hs T.ha T.hn T.ht T.hm) I.kIn J e (fun z => nomatch z) fun tk => ⟨.bl b, H, I.kept (t' := tk) fun _ _ z => z, rfl, q⟩
end L2
set_option Elab.async false
set_option linter.all false
set_option maxRecDepth 100000
set_option maxHeartbeats 2000000
/-! an own error over ValueError (perhaps over others between), whose __init__ says super().__init__(text) and keeps one field -/
namespace FoX
open PySem PySem.W PySem.Calls PyProof.Rows PySem.HandSPX
theorem one_sz (v : Value) : [v].length ≤ sizeLine := by
  rw [sizeLine_eq]
  exact (by decide : 1 ≤ 16777216)
section
variable {prog : Program} {w : World} {A : Around} {E : Value → Shared → Prop} {h : Heap} {g : Array GenState} {d : Drawn} {t : Nat} {os : OsState}
/-- the bound built-in __init__ called -/
theorem mw_call {nm q : Str} {C N u e t0 : Addr} {bs bm : List Value} {hdct : Bool} {sn : List Str} {sub : List Value} {ab : Bool} {col : Option Bool} {dd : Option Addr} {k0 k1 k2 k3 k5 : Option Value} {rest : List Value} {Q : Value → Shared → Prop}
    (hC : h.get? C = some (excClassObj nm q C N bs bm hdct sn sub ab col dd k0 k1 k2 k3 k5 "ValueError.__new__")) (he : h.get? e = some (HandSPX.excO C t0)) (hu : h.get? u = some (kxs_mw "ValueError.__init__" e)) (hz : rest.length ≤ sizeLine)
    (hq : ∀ h' t1, (∀ b o, b ≠ e → h.get? b = some o → h'.get? b = some o) → h'.get? e = some (HandSPX.excO C t1) → Q .none ⟨h', g, d, t, os⟩) :
    wpAny (model prog w) A (call (.ref u) rest) Q E ⟨h, g, d, t, os⟩ := by
  refine wpAny_call (codeAny_of_tree ?_)
  show wpAny (model prog w) A.in1 (callAny (.ref u) ⟨rest, []⟩) _ _ _
  simp only [callAny]
  refine wpAny_bind (wpAny_load hu ?_)
  have tb : (Value.type "method-wrapper" == Value.type "method" || Value.type "method-wrapper" == Value.type "builtin_function_or_method" || Value.type "method-wrapper" == Value.type "method-wrapper") = true := by decide
  simp only [kxs_mw, tb, if_true]
  refine KFB.if_so (by decide) (wpAny_bind (check_bound_init F.excBase_ValueError.toExcCallFacts hC he rfl ?_))
  refine wpAny_bind (wpAny_pure (wpAny_pure ⟨plainId_quiet F.excBase_ValueError.init.plain _, codeAny_builtin F.excBase_ValueError.initEntry ?_⟩))
  exact exc_init_tree (cls := .ref C) (t0 := t0) (dv := none) (c2 := .none) (c3 := .none) (b4 := .bool false) he hz fun h' k e' _ => hq h' _ k e'
end
end FoX
set_option Elab.async false
set_option linter.all false
set_option maxRecDepth 100000
set_option maxHeartbeats 2000000
namespace FoX_thing
open PySem PySem.W PySem.Calls PyProof.Rows PySem.HandSPX FoX
/-- the text of such an __init__ -/
def xB (msg : Str) (a1 a2 a3 a4 a5 a6 q1 q2 q3 q4 : Pos) (j : Nat) : List Stmt :=
  [.Expr (.Call (.Attribute (.Call (.Name "super" a1) [] [] a2) "__init__" a3) [.Constant (.str msg) j a4] [] a5) a6, .Assign [.Attribute (.Name "self" q1) (Str.ofString "thing") q2] (.Name (Str.ofString "thing") q3) q4]
def xS : Scope := { kind := .function, names := [(Str.ofString "self", .local), ((Str.ofString "thing"), .local), (Str.ofString "__class__", .free), (Str.ofString "super", .globalImplicit)], isGenerator := false, isCoroutine := false, more := [] }
def xA (p1 p2 : Pos) : Arguments := { posonlyargs := [], args := [{ arg := "self", annotation := none, pos := p1 }, { arg := (Str.ofString "thing"), annotation := none, pos := p2 }], vararg := none, kwonlyargs := [], kw_defaults := [], kwarg := none, defaults := [] }
/-- what the written part says of the class at C and its __init__ at fI -/
structure XTxt (P : Program) (K : Frag) (mg : Str → Option Value) (C fI : Addr) : Prop where
  cls : ∃ nm q N bs bm sn sub ab col dd k0 k1 k2 k3 k5, K.lookup C = some (excClassObj nm q C N bs bm true sn sub ab col dd k0 k1 k2 k3 k5 "ValueError.__new__") ∧ refsVE bm = true
  sa : findIn K (.ref C) "__setattr__" = some (some (.builtin "object.__setattr__"))
  ga : findIn K (.ref C) "__getattribute__" = some (some (.builtin "BaseException.__getattribute__"))
  gg : findIn K (.ref C) "__getattr__" = some none
  noN : findIn K (.ref C) (Str.ofString "thing") = some none
  iC : findIn K (.ref C) "__init__" = some (some (.ref fI))
  tC : typeIn K (.ref fI) = some (.type "function")
  kC : keepIn K (.ref C) = true
  exC : subIn K (.ref C) (.type "BaseException") = some true
  tyC : typeIn K (.ref C) = some (.type "type")
  hdC : hasDictIn K C = true
  sup : ks_superIn K C C "__init__" = some (some (.builtin "ValueError.__init__"))
  tp : nsIn K cStatics "thirdparty.any" = some none
  zs : mg "super" = none
  ve : subIn K (.ref C) (.type "ValueError") = some true
  mr : mroIn K C (.ref C) = some true
  top : (P.main.scope.names.lookup ("super" : Str)).isSome = false
  fn : ∃ (qual msg : Str) (oc : Value) (od : Option Addr) (doc pm kV : Value) (an : Option Addr) (cc cda : Addr) (ct : Value) (osl : Array (Option Value)) (p1 p2 a1 a2 a3 a4 a5 a6 q1 q2 q3 q4 : Pos) (j : Nat) (ccl cl : Value) (cdd cld : Option Addr) (vs : Array Value) (ccs csl : Array (Option Value)) (file : Str) (tf : Tok),
    K.lookup fI = some ⟨oc, od, .func (ksFn "__init__" qual (xA p1 p2) (xB msg a1 a2 a3 a4 a5 a6 q1 q2 q3 q4 j) xS .none kV doc pm an (.ref cda) ct cc), osl⟩ ∧ codeIn K (.ref cda) qual = true ∧
    K.lookup cda = some ⟨ccl, cdd, .fields vs, ccs⟩ ∧ vs[2]? = some (.str file tf) ∧ ((P.main.file : Str) == file) = true ∧ (a3.endLine == a5.line) = true ∧ K.lookup cc = some ⟨cl, cld, .cell (some (.ref C)), csl⟩
theorem xcel : ∀ y ∈ xS.names, y.2 ≠ .cell := by decide
/-- the call of super's method, its tree -/
theorem x_tree (msg : Str) (a1 a2 a3 a4 a5 : Pos) (j : Nat) (env : Env) (hl : (a3.endLine == a5.line) = true) : eval (.Call (.Attribute (.Call (.Name "super" a1) [] [] a2) "__init__" a3) [.Constant (.str msg) j a4] [] a5) env = (do
      let ov ← attributeBase (.Call (.Name "super" a1) [] [] a2) "__init__" env (eval (.Call (.Name "super" a1) [] [] a2) env)
      standAt a3.atName
      let (f, first) ← holding [ov] (getMethod ov "__init__" (do return (← importBound (.Call (.Name "super" a1) [] [] a2) env).getD true))
      callWith a5 f first (backTo a5 (starEach [.Constant (.str msg) j a4] env)) []) := by
  rw [arm_eval_Call]
  unfold methodCall methodCallPos
  simp only [hl, Bool.or_true, if_true]
  rfl
/-- what __init__ leaves of a fresh error at x -/
structure XEnd (h h' : Heap) (x C dx : Addr) (v : Value) : Prop where
  keep : ∀ b o, b ≠ x → h.get? b = some o → h'.get? b = some o
  obj : ∃ t1 : Addr, h'.get? x = some { cls := .ref C, dict := some dx, data := .fields #[.ref t1, .none, .none, .none, .bool false, .none] }
  dbig : h.objs.size ≤ dx
  dne : dx ≠ x
  ns : h'.Ns1 dx (fun y => if y = (Str.ofString "thing") then some v else none)
section
variable {prog : Program} {w : World} {A : Around} {E : Value → Shared → Prop} {R : Result → Shared → Prop} {s : Shared} {K : Frag} {mg : Str → Option Value} {C fI : Addr}
theorem x_init (T : XTxt prog K mg C fI) {x t0 : Addr} {v : Value} (X : K.In s.heap) (hg : s.heap.Ns mainGlobals mg) (hbl : ∃ mb, s.heap.Ns builtinsNs mb ∧ ∀ y : Str, y ≠ "__name__" → mb y = bootBuiltins y) (hlim : s.heap.NoLimit)
    (hx : s.heap.get? x = some (HandSPX.excO C t0)) (hnx : K.lookup x = none) (hroom : A.depth < recursionLimit) (hq : ∀ h' tk dx, XEnd s.heap h' x C dx v → R (.ok (.ret .none)) { s with heap := h', toks := tk }) :
    codeAny (model prog w) A (.call (.ref fI) ⟨[.ref x, v], []⟩) R s := by
  obtain ⟨qual, msg, oc, od, doc, pm, kV, an, cc, cda, ct, osl, p1, p2, a1, a2, a3, a4, a5, a6, q1, q2, q3, q4, j, ccl, cl, cdd, cld, vs, ccs, csl, file, tf, ho, hcd, hcode, hvs, hfile, hline, hcell⟩ := T.fn
  obtain ⟨nm, q, N, bs, bm, sn, sub, ab, col, dd, k0, k1, k2, k3, k5, hC, hbm⟩ := T.cls
  have hcl : clsIn K C = some { name := nm, bases := bs, mro := .ref C :: bm, ns := N, qualname := q, hasDict := true, slotNames := sn, subclasses := sub, abstract := ab, collection := col, hasDel := false } := by unfold clsIn; rw [hC] <;> rfl
  obtain ⟨hp, g, d, tk, os⟩ := s
  refine ks_codeAny_call_defAt (fd := ksFn "__init__" qual (xA p1 p2) (xB msg a1 a2 a3 a4 a5 a6 q1 q2 q3 q4 j) xS .none kV doc pm an (.ref cda) ct cc) (body := xB msg a1 a2 a3 a4 a5 a6 q1 q2 q3 q4 j) (binds := [(Str.ofString "self", .ref x), ((Str.ofString "thing"), v)]) hroom (X _ _ ho) rfl hlim (codeRec_of X hcd) rfl (BindsTo.of_eq rfl) xcel ?_ (fun h₁ hns k => ?_) rfl rfl rfl
  · intro y hy
    rcases List.mem_cons.mp hy with rfl | hy
    · exact rfl
    · rcases List.mem_cons.mp hy with rfl | hy
      · exact rfl
      · cases hy
  have X₁ : K.In h₁ := X.keeps k
  have hx₁ : h₁.get? x = some (HandSPX.excO C t0) := k _ _ hx
  have I₁ : InstAt h₁ x (HandSPX.excO C t0) C none := ⟨hx₁, rfl, rfl, trivial⟩
  have vself : (fun y : Str => List.lookup y (List.reverse [((Str.ofString "self"), Value.ref x), ((Str.ofString "thing"), v)])) (Str.ofString "self") = some (.ref x) := by
    have e : ((Str.ofString "self") == (Str.ofString "thing")) = false := by decide +kernel
    simp [List.lookup, e]
  have vfld : (fun y : Str => List.lookup y (List.reverse [((Str.ofString "self"), Value.ref x), ((Str.ofString "thing"), v)])) (Str.ofString "thing") = some v := by
    simp [List.lookup]
  obtain ⟨mb, hb1, hb2⟩ := hbl
  -- super().__init__(text)
  refine ks_wpAt_execs_cons (ks_wpAt_Expr_any (ks_wpAt_MethodCall ?_ (x_tree msg a1 a2 a3 a4 a5 j _ hline)) rfl rfl)
  refine ks_wpAt_super_base (f := fI) (fd := ksFn "__init__" qual (xA p1 p2) (xB msg a1 a2 a3 a4 a5 a6 q1 q2 q3 q4 j) xS .none kV doc pm an (.ref cda) ct cc) (ar := { arg := "self", annotation := none, pos := p1 }) rfl rfl rfl rfl (X₁ _ _ ho) rfl rfl rfl (X₁ _ _ hcode) rfl hvs hfile T.top ?_
  refine ks_loadName_global rfl rfl (loadGlobal_builtin (hg.keeps k) T.zs (hb1.keeps k) ((hb2 _ (by decide +kernel)).trans (by decide +kernel)) ⟨rfl, ?_⟩)
  refine wpAny_loadName_free rfl rfl rfl ⟨_, X₁ _ _ hcell, rfl⟩ ?_
  refine wpAny_loadName_local rfl rfl hns vself ?_
  obtain ⟨oD, hD1, hD2⟩ : ∃ oD, h₁.get? C = some oD ∧ oD.data = .cls { name := nm, bases := bs, mro := .ref C :: bm, ns := N, qualname := q, hasDict := true, slotNames := sn, subclasses := sub, abstract := ab, collection := col, hasDel := false } := ⟨_, X₁ _ _ hC, rfl⟩
  refine ks_wpAny_isType_cls hD1 hD2 ⟨rfl, ?_⟩
  refine ks_wpAny_call_super hD1 hD2 hx₁ rfl (fun c e => by cases e) (looks_mroIn X₁ T.mr) (fun h₂ e₂ k₂ => ?_)
  have X₂ : K.In h₂ := X₁.keeps k₂
  have hx₂ : h₂.get? x = some (HandSPX.excO C t0) := k₂ _ _ hx₁
  have I₂ : InstAt h₂ x (HandSPX.excO C t0) C none := ⟨hx₂, rfl, rfl, trivial⟩
  have hsup := T.sup
  unfold ks_superIn at hsup
  rw [hcl] at hsup
  have hmro : Looks (model prog w) h₂ (mroOf (.ref C)) (.ref C :: bm) := (looks_clsIn X₂ hcl).andThen .now
  refine kxs_getMethod kxs_ValueError e₂ (looks_opaque X₂ T.tp) hmro rfl X₂ hsup (I₂.type.andThen (looks_subIn X₂ T.ve)) (ks_ne X₂ I₂ hcl) rfl ?_
  -- the wrapper called
  have hk₃ : ∀ b o, h₂.get? b = some o → (h₂.push (kxs_mw "ValueError.__init__" x)).get? b = some o := fun b o e => Heap.get?_push_of_some _ e
  have hu₃ : (h₂.push (kxs_mw "ValueError.__init__" x)).get? h₂.objs.size = some (kxs_mw "ValueError.__init__" x) := Heap.get?_push_at rfl rfl
  refine kxs_callWith (i := "ValueError.__init__") (x := x) rfl (evalArgs_plain (Calls.spliced_cons (Calls.Constant_str (pos := a4) (k := j) (Calls.spliced_nil ⟨hu₃, ?_⟩))))
  refine mw_call (X₂.keeps hk₃ _ _ hC) (hk₃ _ _ hx₂) hu₃ (one_sz _) (fun h₄ t1 k₄ hx₄ => ?_)
  have kall : ∀ b o, b ≠ x → hp.get? b = some o → h₄.get? b = some o := fun b o hb e => k₄ b o hb (hk₃ b o (k₂ b o (k b o e)))
  have xC : x ≠ C := ks_ne X₂ I₂ hcl
  have X₄ : K.In h₄ := fun b o e => kall b o (fun z => by rw [z, hnx] at e; cases e) (X b o e)
  have hL : hp.objs.size ≠ x := Nat.ne_of_gt (Heap.lt_size hx)
  have hns₄ : h₄.Ns hp.objs.size (fun y => List.lookup y (List.reverse [((Str.ofString "self"), Value.ref x), ((Str.ofString "thing"), v)])) := by
    obtain ⟨oL, es, ep, hoL, r⟩ := hns
    exact ⟨oL, es, ep, k₄ _ _ hL (hk₃ _ _ (k₂ _ _ hoL)), r⟩
  -- self.field = field
  refine wpAt_of_wpAny ?_
  refine wpAny_execs_cons (plainObj_wpAny_Assign_Attribute ?_)
  refine wpAny_Name (wpAny_loadName_local rfl rfl hns₄ vfld (wpAny_Name (wpAny_loadName_local rfl rfl hns₄ vself ?_) (by decide))) (by decide)
  refine set_plain X₄ (ox := HandSPX.excO C t1) (od := none) ⟨hx₄, rfl, rfl, trivial⟩ T.sa ?_
  refine exc_osa X₄ hx₄ hcl (show refsVE (.ref C :: bm) = true from hbm) rfl T.noN (fun h₅ tk₅ dx k₅ dn dne hx₅ hn₅ => ?_)
  refine wpAny_execs_nil (hq h₅ tk₅ dx ⟨fun b o hb e => k₅ b o hb (kall b o hb e), ⟨t1, hx₅⟩, ?_, dne, hn₅⟩)
  have z1 : hp.objs.size < h₄.objs.size := hns₄.lt
  exact Nat.le_of_lt (Nat.lt_of_lt_of_le z1 dn)
/-- a made error -/
structure XMade (h h' : Heap) (e C d : Addr) (v : Value) : Prop where
  keep : ∀ b o, h.get? b = some o → h'.get? b = some o
  new : h.objs.size ≤ e
  obj : ∃ oe vs, h'.get? e = some oe ∧ oe.cls = .ref C ∧ oe.dict = some d ∧ oe.data = .fields vs ∧ vs[1]? = some .none ∧ vs[2]? = some .none
  dbig : h.objs.size ≤ d
  dne : d ≠ e
  ns : h'.Ns1 d (fun y => if y = (Str.ofString "thing") then some v else none)
theorem x_made (T : XTxt prog K mg C fI) {v : Value} (X : K.In s.heap) (hg : s.heap.Ns mainGlobals mg) (hbl : ∃ mb, s.heap.Ns builtinsNs mb ∧ ∀ y : Str, y ≠ "__name__" → mb y = bootBuiltins y) (hlim : s.heap.NoLimit) (hroom : A.depth + 1 < recursionLimit)
    (hq : ∀ h' tk e d, XMade s.heap h' e C d v → R (.ok (.ret (.ref e))) { s with heap := h', toks := tk }) : codeAny (model prog w) A (.call (.ref C) ⟨[v], []⟩) R s := by
  obtain ⟨nm, q, N, bs, bm, sn, sub, ab, col, dd, k0, k1, k2, k3, k5, hC, hbm⟩ := T.cls
  obtain ⟨hp, g, dr, tk, os⟩ := s
  have k : ∀ b o, hp.get? b = some o → ((hp.push (kdv_tup [v])).push (HandSPX.excO C hp.objs.size)).get? b = some o := fun b o e => Heap.get?_push_of_some _ (Heap.get?_push_of_some _ e)
  have hget : ((hp.push (kdv_tup [v])).push (HandSPX.excO C hp.objs.size)).get? (hp.objs.size + 1) = some (HandSPX.excO C hp.objs.size) := by heap_get
  have hnx : K.lookup (hp.objs.size + 1) = none := by
    cases e : K.lookup (hp.objs.size + 1) with
    | none => rfl
    | some o => exact absurd (Nat.lt_of_succ_lt (Heap.lt_size (X _ _ e))) (Nat.lt_irrefl _)
  refine call_own F.excBase_ValueError (fun Y => refsVE_contains Y bm hbm) (X _ _ hC) (looks_findIn X T.iC) (fun self => bind_fn X self T.tC) (one_sz v) ?_
  obtain ⟨mb, hb1, hb2⟩ := hbl
  refine x_init (s := ⟨(hp.push (kdv_tup [v])).push (HandSPX.excO C hp.objs.size), g, dr, tk, os⟩) T (X.keeps k) (hg.keeps k) ⟨mb, hb1.keeps k, hb2⟩ (hlim.keeps k) hget hnx ?_ fun h' tk' dx ⟨k', ⟨t1, hx⟩, dn, dne, hns⟩ => ?_
  · show A.depth + 1 < recursionLimit
    exact hroom
  · have old : ∀ b o, hp.get? b = some o → h'.get? b = some o := fun b o e => k' b o (Nat.ne_of_lt (Nat.lt_succ_of_lt (Heap.lt_size e))) (k b o e)
    have z : hp.objs.size + 1 + 1 ≤ dx := by
      first
        | (simpa only [Heap.size_push] using dn)
        | exact dn
        | (have q := dn; rw [Heap.size_push, Heap.size_push] at q; exact q)
    exact ⟨rfl, hq h' tk' (hp.objs.size + 1) dx ⟨old, Nat.le_succ _, ⟨_, _, hx, rfl, rfl, rfl, rfl, rfl⟩, Nat.le_trans (Nat.le_trans (Nat.le_succ _) (Nat.le_succ _)) z, dne, hns⟩⟩
end
end FoX_thing
namespace L2
open PySem PySem.Spec PyProof.Rows
theorem relO_thing {v : V} {v' : Value} (r : RelV v v') (f : Str) : RelO (List.lookup f [((Str.ofString "thing"), v)]) (if f = (Str.ofString "thing") then some v' else none) := by
  by_cases hw : f = (Str.ofString "thing")
  · subst hw
    rw [if_pos rfl]
    have q : List.lookup (Str.ofString "thing") [((Str.ofString "thing"), v)] = some v := by simp [List.lookup]
    rw [q]
    exact r
  · rw [if_neg hw]
    have qw : (f == (Str.ofString "thing")) = false := by simpa using hw
    have q2 : List.lookup f [((Str.ofString "thing"), v)] = none := by simp [List.lookup, qw]
    rw [q2]
    trivial
section
variable {X : Cx} {C fI : Addr} {nm : Str}
/-- Name(e) -/
def tMkX_thing (C : Addr) (ta : TA) : St → Hp → XK → Prop := fun σ H Q => ta σ H fun vs H1 => ∃ v, vs = [v] ∧ ∀ d, H1 d = none → Q (.ref C) (some d) (upd H1 d (.xd [((Str.ofString "thing"), v)]))
theorem pmkN_thing {a : Expr} {ta : TA} {p pos : Pos} {k : Nat} (T : FoX_thing.XTxt X.prog X.K X.mg C fI) (gC : X.mg nm = some (.ref C)) (hr : Room k X.A) (ha : PA X [a] ta) (hg : Gl X nm) (hdb : (nm == ("__debug__" : Str)) = false)
    (he : starEach (a :: []) X.env = (false, eval a X.env) :: starEach [] X.env := by rfl) (hpl : (backTo pos (starEach [] X.env)).any (·.1) = false := by rfl) :
    L2N.PMk X (.Call (.Name nm p) [a] [] pos) (tMkX_thing C ta) := by
  intro pins s σ H Q I h
  refine wpAny_Call_Name_kw (ld_glob I hg gC ?_ hdb)
  refine PySem.W.callWith_K (h₀ := X.base) I.ok.mod.kin T.kC (thn (ha.run pos pins s σ H _ I h) fun us s1 hh => ?_) he hpl
  obtain ⟨vs, H1, I1, r1, v, ev, q1⟩ := hh
  subst ev
  refine ⟨I1.kIn, ?_⟩
  cases r1 with
  | cons rv rn =>
    rename_i v' us'
    cases rn
    show wpAny _ _ (call (.ref C) [v']) _ _ _
    have hlim := I1.nolimit
    have hgl : s1.heap.Ns mainGlobals X.mg := I1.mod.glob.keeps I1.bk
    obtain ⟨mb, hb1, hb2⟩ := I1.mod.blt
    have hbl : ∃ mb, s1.heap.Ns builtinsNs mb ∧ ∀ y : Str, y ≠ "__name__" → mb y = bootBuiltins y := ⟨mb, hb1.keeps I1.bk, hb2⟩
    obtain ⟨hp, g, dr, tk, os⟩ := s1
    refine wpAny_call (FoX_thing.x_made T I1.kIn hgl hbl hlim (by have := hr.dp; omega) fun h' tk' e d M => ?_)
    show L2N.MkP X pins σ Q (.ref e) ⟨h', g, dr, tk', os⟩
    obtain ⟨oe, fv, hoe, hc, hd, hdat, h1, h2⟩ := M.obj
    have hns := M.ns
    obtain ⟨G', g1, g2⟩ := restrict h' fun b => decide (b ≠ e)
    have gk : ∀ b, b ≠ e → G'.get? b = h'.get? b := fun b hb => g1 b (decide_eq_true hb)
    have ge : G'.get? e = none := g2 e (by simp)
    have old : ∀ b o, hp.get? b = some o → G'.get? b = some o := fun b o q => (gk b (Nat.ne_of_lt (Nat.lt_of_lt_of_le (Heap.lt_size q) M.new))).trans (M.keep b o q)
    have ob : ObjOk X.prog X.w (upd H1 d (.xd [((Str.ofString "thing"), v)])) G' d (.xd [((Str.ofString "thing"), v)]) :=
      ⟨_, hns.at (fun o q => (gk d M.dne).trans q), fun f => relO_thing rv f⟩
    have J : Inv X pins σ (upd H1 d (.xd [((Str.ofString "thing"), v)])) ⟨G', g, dr, tk', os⟩ := I1.laid (t' := tk') old M.dbig ob
    refine ⟨e, oe, fv, ⟨G', g, dr, tk', os⟩, _, .ref C, some d, rfl, J, fun b o q => ?_, ge, hoe, ⟨hc, hd, fun vs e => by rw [hdat] at e; cases e; exact h2⟩, hdat, h1, ?_, rfl, I1.bare, raises_own T.exC T.tyC, q1 d (I1.hok.fresh M.dbig)⟩
    · by_cases hb : b = e
      · have q' : G'.get? b = some o := q
        rw [hb, ge] at q'; cases q'
      · exact (gk b hb).symm.trans q
    · rw [upd_ne (Ne.symm M.dne)]
      exact I1.hok.fresh M.new
theorem pmk_thing {a : Expr} {ta : TA} {p pos : Pos} {k : Nat} (T : FoX_thing.XTxt X.prog X.K X.mg C fI) (gC : X.mg nm = some (.ref C)) (hr : Room k X.A) (ha : PA X [a] ta) (hg : Gl X nm) (hdb : (nm == ("__debug__" : Str)) = false)
    (he : starEach (a :: []) X.env = (false, eval a X.env) :: starEach [] X.env := by rfl) (hpl : (backTo pos (starEach [] X.env)).any (·.1) = false := by rfl) :
    PMk X (.Call (.Name nm p) [a] [] pos) (tMkX_thing C ta) := by
  intro pins s σ H Q I h
  refine wpAny_mono (pmkN_thing T gC hr ha hg hdb he hpl pins s σ H Q I h) (fun u s' z => ?_) fun _ _ x => x
  obtain ⟨e, oe, vs, sI, H', cls, d, r1, r2, r3, r4, r5, r6, r7⟩ := z
  exact ⟨e, oe, vs, sI, H', cls, d, r1, r2, r3, r4, r5, r6.zc, r7⟩
/-- raise Name(e) -/
def tRaiseX_thing (C : Addr) (W : WX) (ta : TA) : TS := fun _ σ H => tMkX_thing C ta σ H fun cls d H' => W cls d σ H'
theorem ps_raise_thing {a : Expr} {ta : TA} {W : WX} {p pos pos2 : Pos} {k : Nat} (hc : X.calm = true) (T : FoX_thing.XTxt X.prog X.K X.mg C fI) (gC : X.mg nm = some (.ref C)) (hr : Room k X.A) (tk : Takes X W) (ha : PA X [a] ta) (hg : Gl X nm := by rfl) (hdb : (nm == ("__debug__" : Str)) = false := by decide)
    (he : starEach (a :: []) X.env = (false, eval a X.env) :: starEach [] X.env := by rfl) (hpl : (backTo pos (starEach [] X.env)).any (·.1) = false := by rfl) :
    PS X (.Raise (some (.Call (.Name nm p) [a] [] pos)) none pos2) (tRaiseX_thing C W ta) := ps_raise hc tk (pmk_thing T gC hr ha hg hdb he hpl)
theorem ps_raiseN_thing {a : Expr} {ta : TA} {W : WX} {p pos pos2 : Pos} {k : Nat} (hc : X.calm = true) (T : FoX_thing.XTxt X.prog X.K X.mg C fI) (gC : X.mg nm = some (.ref C)) (hr : Room k X.A) (tk : L2N.Takes X W) (ha : PA X [a] ta) (hg : Gl X nm := by rfl) (hdb : (nm == ("__debug__" : Str)) = false := by decide)
    (he : starEach (a :: []) X.env = (false, eval a X.env) :: starEach [] X.env := by rfl) (hpl : (backTo pos (starEach [] X.env)).any (·.1) = false := by rfl) :
    PS X (.Raise (some (.Call (.Name nm p) [a] [] pos)) none pos2) (tRaiseX_thing C W ta) := L2N.ps_raise hc tk (pmkN_thing T gC hr ha hg hdb he hpl)
/-- e.field, e the error that the suite holds (at a; its class cls, its dict d) -/
def tByX_thing (C : Addr) (a : Addr) (cls : Value) (d : Option Addr) (te : TE) : TE := fun σ H Q => te σ H fun x H1 => x = .ref a ∧ cls = .ref C ∧ ∃ (dd : Addr) (v : V), d = some dd ∧ H1 dd = some (.xd [((Str.ofString "thing"), v)]) ∧ Q v H1
theorem pe_by_thing {a : Addr} {oe : Obj} {cls : Value} {d : Option Addr} {pn : List (Addr × Obj)} {e : Expr} {te : TE} {pos : Pos} (T : FoX_thing.XTxt X.prog X.K X.mg C fI) (hz : Zc cls d oe) (hf : ∃ vs, oe.data = .fields vs) (he : PE (X.suite a ((a, oe) :: pn)) e te)
    (hb : attributeBase e (Str.ofString "thing") X.env (eval e X.env) = eval e X.env := by rfl) :
    PE (X.suite a ((a, oe) :: pn)) (.Attribute e (Str.ofString "thing") pos) (tByX_thing C a cls d te) := by
  refine ⟨fun pins s σ H Q I h => ?_⟩
  refine attr_of hb (thn (he.run pins s σ H _ I h) fun u s1 hh => ?_)
  obtain ⟨x, H1, I1, rx, ex, ec, dd, v, ed, ea, q⟩ := hh
  subst ex
  obtain rfl : u = Value.ref a := rx
  subst ec
  subst ed
  obtain ⟨ha, _⟩ := I1.pin (a, oe) (List.mem_append_left _ List.mem_cons_self)
  obtain ⟨vs, hd⟩ := hf
  have hx : ObjOk X.prog X.w H1 s1.heap dd (.xd [((Str.ofString "thing"), v)]) := I1.hok dd _ ea
  obtain ⟨mA, hns, hr⟩ := hx
  obtain ⟨od, ho, hl⟩ := lookIn_ns hns
  have l : List.lookup (Str.ofString "thing") [((Str.ofString "thing"), v)] = some v := by simp [List.lookup]
  obtain ⟨u, hu, ru⟩ := RelO.some_of (v := v) (o := mA (Str.ofString "thing")) (by rw [← l]; exact hr (Str.ofString "thing"))
  have J : PySem.W.InstAt s1.heap a oe C (some od) := ⟨ha, hz.1, by unfold PySem.W.notCls; rw [hd] <;> rfl, by rw [hz.2]; exact ho⟩
  exact HandSPX.exc_get I1.kIn J T.ga T.gg T.exC (PySem.W.findObj_own T.hdC T.noN rfl (by rw [hl, hu])) (handed_of ru) ⟨v, H1, I1.tok _, ru, q⟩
end
end L2
set_option Elab.async false
set_option linter.all false
set_option maxRecDepth 100000
set_option maxHeartbeats 2000000
namespace FoX_number
open PySem PySem.W PySem.Calls PyProof.Rows PySem.HandSPX FoX
/-- the text of such an __init__ -/
def xB (msg : Str) (a1 a2 a3 a4 a5 a6 q1 q2 q3 q4 : Pos) (j : Nat) : List Stmt :=
  [.Expr (.Call (.Attribute (.Call (.Name "super" a1) [] [] a2) "__init__" a3) [.Constant (.str msg) j a4] [] a5) a6, .Assign [.Attribute (.Name "self" q1) (Str.ofString "number") q2] (.Name (Str.ofString "number") q3) q4]
def xS : Scope := { kind := .function, names := [(Str.ofString "self", .local), ((Str.ofString "number"), .local), (Str.ofString "__class__", .free), (Str.ofString "super", .globalImplicit)], isGenerator := false, isCoroutine := false, more := [] }
def xA (p1 p2 : Pos) : Arguments := { posonlyargs := [], args := [{ arg := "self", annotation := none, pos := p1 }, { arg := (Str.ofString "number"), annotation := none, pos := p2 }], vararg := none, kwonlyargs := [], kw_defaults := [], kwarg := none, defaults := [] }
/-- what the written part says of the class at C and its __init__ at fI -/
structure XTxt (P : Program) (K : Frag) (mg : Str → Option Value) (C fI : Addr) : Prop where
  cls : ∃ nm q N bs bm sn sub ab col dd k0 k1 k2 k3 k5, K.lookup C = some (excClassObj nm q C N bs bm true sn sub ab col dd k0 k1 k2 k3 k5 "ValueError.__new__") ∧ refsVE bm = true
  sa : findIn K (.ref C) "__setattr__" = some (some (.builtin "object.__setattr__"))
  ga : findIn K (.ref C) "__getattribute__" = some (some (.builtin "BaseException.__getattribute__"))
  gg : findIn K (.ref C) "__getattr__" = some none
  noN : findIn K (.ref C) (Str.ofString "number") = some none
  iC : findIn K (.ref C) "__init__" = some (some (.ref fI))
  tC : typeIn K (.ref fI) = some (.type "function")
  kC : keepIn K (.ref C) = true
  exC : subIn K (.ref C) (.type "BaseException") = some true
  tyC : typeIn K (.ref C) = some (.type "type")
  hdC : hasDictIn K C = true
  sup : ks_superIn K C C "__init__" = some (some (.builtin "ValueError.__init__"))
  tp : nsIn K cStatics "thirdparty.any" = some none
  zs : mg "super" = none
  ve : subIn K (.ref C) (.type "ValueError") = some true
  mr : mroIn K C (.ref C) = some true
  top : (P.main.scope.names.lookup ("super" : Str)).isSome = false
  fn : ∃ (qual msg : Str) (oc : Value) (od : Option Addr) (doc pm kV : Value) (an : Option Addr) (cc cda : Addr) (ct : Value) (osl : Array (Option Value)) (p1 p2 a1 a2 a3 a4 a5 a6 q1 q2 q3 q4 : Pos) (j : Nat) (ccl cl : Value) (cdd cld : Option Addr) (vs : Array Value) (ccs csl : Array (Option Value)) (file : Str) (tf : Tok),
    K.lookup fI = some ⟨oc, od, .func (ksFn "__init__" qual (xA p1 p2) (xB msg a1 a2 a3 a4 a5 a6 q1 q2 q3 q4 j) xS .none kV doc pm an (.ref cda) ct cc), osl⟩ ∧ codeIn K (.ref cda) qual = true ∧
    K.lookup cda = some ⟨ccl, cdd, .fields vs, ccs⟩ ∧ vs[2]? = some (.str file tf) ∧ ((P.main.file : Str) == file) = true ∧ (a3.endLine == a5.line) = true ∧ K.lookup cc = some ⟨cl, cld, .cell (some (.ref C)), csl⟩
theorem xcel : ∀ y ∈ xS.names, y.2 ≠ .cell := by decide
/-- the call of super's method, its tree -/
theorem x_tree (msg : Str) (a1 a2 a3 a4 a5 : Pos) (j : Nat) (env : Env) (hl : (a3.endLine == a5.line) = true) : eval (.Call (.Attribute (.Call (.Name "super" a1) [] [] a2) "__init__" a3) [.Constant (.str msg) j a4] [] a5) env = (do
      let ov ← attributeBase (.Call (.Name "super" a1) [] [] a2) "__init__" env (eval (.Call (.Name "super" a1) [] [] a2) env)
      standAt a3.atName
      let (f, first) ← holding [ov] (getMethod ov "__init__" (do return (← importBound (.Call (.Name "super" a1) [] [] a2) env).getD true))
      callWith a5 f first (backTo a5 (starEach [.Constant (.str msg) j a4] env)) []) := by
  rw [arm_eval_Call]
  unfold methodCall methodCallPos
  simp only [hl, Bool.or_true, if_true]
  rfl
/-- what __init__ leaves of a fresh error at x -/
structure XEnd (h h' : Heap) (x C dx : Addr) (v : Value) : Prop where
  keep : ∀ b o, b ≠ x → h.get? b = some o → h'.get? b = some o
  obj : ∃ t1 : Addr, h'.get? x = some { cls := .ref C, dict := some dx, data := .fields #[.ref t1, .none, .none, .none, .bool false, .none] }
  dbig : h.objs.size ≤ dx
  dne : dx ≠ x
  ns : h'.Ns1 dx (fun y => if y = (Str.ofString "number") then some v else none)
section
variable {prog : Program} {w : World} {A : Around} {E : Value → Shared → Prop} {R : Result → Shared → Prop} {s : Shared} {K : Frag} {mg : Str → Option Value} {C fI : Addr}
theorem x_init (T : XTxt prog K mg C fI) {x t0 : Addr} {v : Value} (X : K.In s.heap) (hg : s.heap.Ns mainGlobals mg) (hbl : ∃ mb, s.heap.Ns builtinsNs mb ∧ ∀ y : Str, y ≠ "__name__" → mb y = bootBuiltins y) (hlim : s.heap.NoLimit)
    (hx : s.heap.get? x = some (HandSPX.excO C t0)) (hnx : K.lookup x = none) (hroom : A.depth < recursionLimit) (hq : ∀ h' tk dx, XEnd s.heap h' x C dx v → R (.ok (.ret .none)) { s with heap := h', toks := tk }) :
    codeAny (model prog w) A (.call (.ref fI) ⟨[.ref x, v], []⟩) R s := by
  obtain ⟨qual, msg, oc, od, doc, pm, kV, an, cc, cda, ct, osl, p1, p2, a1, a2, a3, a4, a5, a6, q1, q2, q3, q4, j, ccl, cl, cdd, cld, vs, ccs, csl, file, tf, ho, hcd, hcode, hvs, hfile, hline, hcell⟩ := T.fn
  obtain ⟨nm, q, N, bs, bm, sn, sub, ab, col, dd, k0, k1, k2, k3, k5, hC, hbm⟩ := T.cls
  have hcl : clsIn K C = some { name := nm, bases := bs, mro := .ref C :: bm, ns := N, qualname := q, hasDict := true, slotNames := sn, subclasses := sub, abstract := ab, collection := col, hasDel := false } := by unfold clsIn; rw [hC] <;> rfl
  obtain ⟨hp, g, d, tk, os⟩ := s
  refine ks_codeAny_call_defAt (fd := ksFn "__init__" qual (xA p1 p2) (xB msg a1 a2 a3 a4 a5 a6 q1 q2 q3 q4 j) xS .none kV doc pm an (.ref cda) ct cc) (body := xB msg a1 a2 a3 a4 a5 a6 q1 q2 q3 q4 j) (binds := [(Str.ofString "self", .ref x), ((Str.ofString "number"), v)]) hroom (X _ _ ho) rfl hlim (codeRec_of X hcd) rfl (BindsTo.of_eq rfl) xcel ?_ (fun h₁ hns k => ?_) rfl rfl rfl
  · intro y hy
    rcases List.mem_cons.mp hy with rfl | hy
    · exact rfl
    · rcases List.mem_cons.mp hy with rfl | hy
      · exact rfl
      · cases hy
  have X₁ : K.In h₁ := X.keeps k
  have hx₁ : h₁.get? x = some (HandSPX.excO C t0) := k _ _ hx
  have I₁ : InstAt h₁ x (HandSPX.excO C t0) C none := ⟨hx₁, rfl, rfl, trivial⟩
  have vself : (fun y : Str => List.lookup y (List.reverse [((Str.ofString "self"), Value.ref x), ((Str.ofString "number"), v)])) (Str.ofString "self") = some (.ref x) := by
    have e : ((Str.ofString "self") == (Str.ofString "number")) = false := by decide +kernel
    simp [List.lookup, e]
  have vfld : (fun y : Str => List.lookup y (List.reverse [((Str.ofString "self"), Value.ref x), ((Str.ofString "number"), v)])) (Str.ofString "number") = some v := by
    simp [List.lookup]
  obtain ⟨mb, hb1, hb2⟩ := hbl
  -- super().__init__(text)
  refine ks_wpAt_execs_cons (ks_wpAt_Expr_any (ks_wpAt_MethodCall ?_ (x_tree msg a1 a2 a3 a4 a5 j _ hline)) rfl rfl)
  refine ks_wpAt_super_base (f := fI) (fd := ksFn "__init__" qual (xA p1 p2) (xB msg a1 a2 a3 a4 a5 a6 q1 q2 q3 q4 j) xS .none kV doc pm an (.ref cda) ct cc) (ar := { arg := "self", annotation := none, pos := p1 }) rfl rfl rfl rfl (X₁ _ _ ho) rfl rfl rfl (X₁ _ _ hcode) rfl hvs hfile T.top ?_
  refine ks_loadName_global rfl rfl (loadGlobal_builtin (hg.keeps k) T.zs (hb1.keeps k) ((hb2 _ (by decide +kernel)).trans (by decide +kernel)) ⟨rfl, ?_⟩)
  refine wpAny_loadName_free rfl rfl rfl ⟨_, X₁ _ _ hcell, rfl⟩ ?_
  refine wpAny_loadName_local rfl rfl hns vself ?_
  obtain ⟨oD, hD1, hD2⟩ : ∃ oD, h₁.get? C = some oD ∧ oD.data = .cls { name := nm, bases := bs, mro := .ref C :: bm, ns := N, qualname := q, hasDict := true, slotNames := sn, subclasses := sub, abstract := ab, collection := col, hasDel := false } := ⟨_, X₁ _ _ hC, rfl⟩
  refine ks_wpAny_isType_cls hD1 hD2 ⟨rfl, ?_⟩
  refine ks_wpAny_call_super hD1 hD2 hx₁ rfl (fun c e => by cases e) (looks_mroIn X₁ T.mr) (fun h₂ e₂ k₂ => ?_)
  have X₂ : K.In h₂ := X₁.keeps k₂
  have hx₂ : h₂.get? x = some (HandSPX.excO C t0) := k₂ _ _ hx₁
  have I₂ : InstAt h₂ x (HandSPX.excO C t0) C none := ⟨hx₂, rfl, rfl, trivial⟩
  have hsup := T.sup
  unfold ks_superIn at hsup
  rw [hcl] at hsup
  have hmro : Looks (model prog w) h₂ (mroOf (.ref C)) (.ref C :: bm) := (looks_clsIn X₂ hcl).andThen .now
  refine kxs_getMethod kxs_ValueError e₂ (looks_opaque X₂ T.tp) hmro rfl X₂ hsup (I₂.type.andThen (looks_subIn X₂ T.ve)) (ks_ne X₂ I₂ hcl) rfl ?_
  -- the wrapper called
  have hk₃ : ∀ b o, h₂.get? b = some o → (h₂.push (kxs_mw "ValueError.__init__" x)).get? b = some o := fun b o e => Heap.get?_push_of_some _ e
  have hu₃ : (h₂.push (kxs_mw "ValueError.__init__" x)).get? h₂.objs.size = some (kxs_mw "ValueError.__init__" x) := Heap.get?_push_at rfl rfl
  refine kxs_callWith (i := "ValueError.__init__") (x := x) rfl (evalArgs_plain (Calls.spliced_cons (Calls.Constant_str (pos := a4) (k := j) (Calls.spliced_nil ⟨hu₃, ?_⟩))))
  refine mw_call (X₂.keeps hk₃ _ _ hC) (hk₃ _ _ hx₂) hu₃ (one_sz _) (fun h₄ t1 k₄ hx₄ => ?_)
  have kall : ∀ b o, b ≠ x → hp.get? b = some o → h₄.get? b = some o := fun b o hb e => k₄ b o hb (hk₃ b o (k₂ b o (k b o e)))
  have xC : x ≠ C := ks_ne X₂ I₂ hcl
  have X₄ : K.In h₄ := fun b o e => kall b o (fun z => by rw [z, hnx] at e; cases e) (X b o e)
  have hL : hp.objs.size ≠ x := Nat.ne_of_gt (Heap.lt_size hx)
  have hns₄ : h₄.Ns hp.objs.size (fun y => List.lookup y (List.reverse [((Str.ofString "self"), Value.ref x), ((Str.ofString "number"), v)])) := by
    obtain ⟨oL, es, ep, hoL, r⟩ := hns
    exact ⟨oL, es, ep, k₄ _ _ hL (hk₃ _ _ (k₂ _ _ hoL)), r⟩
  -- self.field = field
  refine wpAt_of_wpAny ?_
  refine wpAny_execs_cons (plainObj_wpAny_Assign_Attribute ?_)
  refine wpAny_Name (wpAny_loadName_local rfl rfl hns₄ vfld (wpAny_Name (wpAny_loadName_local rfl rfl hns₄ vself ?_) (by decide))) (by decide)
  refine set_plain X₄ (ox := HandSPX.excO C t1) (od := none) ⟨hx₄, rfl, rfl, trivial⟩ T.sa ?_
  refine exc_osa X₄ hx₄ hcl (show refsVE (.ref C :: bm) = true from hbm) rfl T.noN (fun h₅ tk₅ dx k₅ dn dne hx₅ hn₅ => ?_)
  refine wpAny_execs_nil (hq h₅ tk₅ dx ⟨fun b o hb e => k₅ b o hb (kall b o hb e), ⟨t1, hx₅⟩, ?_, dne, hn₅⟩)
  have z1 : hp.objs.size < h₄.objs.size := hns₄.lt
  exact Nat.le_of_lt (Nat.lt_of_lt_of_le z1 dn)
/-- a made error -/
structure XMade (h h' : Heap) (e C d : Addr) (v : Value) : Prop where
  keep : ∀ b o, h.get? b = some o → h'.get? b = some o
  new : h.objs.size ≤ e
  obj : ∃ oe vs, h'.get? e = some oe ∧ oe.cls = .ref C ∧ oe.dict = some d ∧ oe.data = .fields vs ∧ vs[1]? = some .none ∧ vs[2]? = some .none
  dbig : h.objs.size ≤ d
  dne : d ≠ e
  ns : h'.Ns1 d (fun y => if y = (Str.ofString "number") then some v else none)
theorem x_made (T : XTxt prog K mg C fI) {v : Value} (X : K.In s.heap) (hg : s.heap.Ns mainGlobals mg) (hbl : ∃ mb, s.heap.Ns builtinsNs mb ∧ ∀ y : Str, y ≠ "__name__" → mb y = bootBuiltins y) (hlim : s.heap.NoLimit) (hroom : A.depth + 1 < recursionLimit)
    (hq : ∀ h' tk e d, XMade s.heap h' e C d v → R (.ok (.ret (.ref e))) { s with heap := h', toks := tk }) : codeAny (model prog w) A (.call (.ref C) ⟨[v], []⟩) R s := by
  obtain ⟨nm, q, N, bs, bm, sn, sub, ab, col, dd, k0, k1, k2, k3, k5, hC, hbm⟩ := T.cls
  obtain ⟨hp, g, dr, tk, os⟩ := s
  have k : ∀ b o, hp.get? b = some o → ((hp.push (kdv_tup [v])).push (HandSPX.excO C hp.objs.size)).get? b = some o := fun b o e => Heap.get?_push_of_some _ (Heap.get?_push_of_some _ e)
  have hget : ((hp.push (kdv_tup [v])).push (HandSPX.excO C hp.objs.size)).get? (hp.objs.size + 1) = some (HandSPX.excO C hp.objs.size) := by heap_get
  have hnx : K.lookup (hp.objs.size + 1) = none := by
    cases e : K.lookup (hp.objs.size + 1) with
    | none => rfl
    | some o => exact absurd (Nat.lt_of_succ_lt (Heap.lt_size (X _ _ e))) (Nat.lt_irrefl _)
  refine call_own F.excBase_ValueError (fun Y => refsVE_contains Y bm hbm) (X _ _ hC) (looks_findIn X T.iC) (fun self => bind_fn X self T.tC) (one_sz v) ?_
  obtain ⟨mb, hb1, hb2⟩ := hbl
  refine x_init (s := ⟨(hp.push (kdv_tup [v])).push (HandSPX.excO C hp.objs.size), g, dr, tk, os⟩) T (X.keeps k) (hg.keeps k) ⟨mb, hb1.keeps k, hb2⟩ (hlim.keeps k) hget hnx ?_ fun h' tk' dx ⟨k', ⟨t1, hx⟩, dn, dne, hns⟩ => ?_
  · show A.depth + 1 < recursionLimit
    exact hroom
  · have old : ∀ b o, hp.get? b = some o → h'.get? b = some o := fun b o e => k' b o (Nat.ne_of_lt (Nat.lt_succ_of_lt (Heap.lt_size e))) (k b o e)
    have z : hp.objs.size + 1 + 1 ≤ dx := by
      first
        | (simpa only [Heap.size_push] using dn)
        | exact dn
        | (have q := dn; rw [Heap.size_push, Heap.size_push] at q; exact q)
    exact ⟨rfl, hq h' tk' (hp.objs.size + 1) dx ⟨old, Nat.le_succ _, ⟨_, _, hx, rfl, rfl, rfl, rfl, rfl⟩, Nat.le_trans (Nat.le_trans (Nat.le_succ _) (Nat.le_succ _)) z, dne, hns⟩⟩
end
end FoX_number
namespace L2
open PySem PySem.Spec PyProof.Rows
theorem relO_number {v : V} {v' : Value} (r : RelV v v') (f : Str) : RelO (List.lookup f [((Str.ofString "number"), v)]) (if f = (Str.ofString "number") then some v' else none) := by
  by_cases hw : f = (Str.ofString "number")
  · subst hw
    rw [if_pos rfl]
    have q : List.lookup (Str.ofString "number") [((Str.ofString "number"), v)] = some v := by simp [List.lookup]
    rw [q]
    exact r
  · rw [if_neg hw]
    have qw : (f == (Str.ofString "number")) = false := by simpa using hw
    have q2 : List.lookup f [((Str.ofString "number"), v)] = none := by simp [List.lookup, qw]
    rw [q2]
    trivial
section
variable {X : Cx} {C fI : Addr} {nm : Str}
/-- Name(e) -/
def tMkX_number (C : Addr) (ta : TA) : St → Hp → XK → Prop := fun σ H Q => ta σ H fun vs H1 => ∃ v, vs = [v] ∧ ∀ d, H1 d = none → Q (.ref C) (some d) (upd H1 d (.xd [((Str.ofString "number"), v)]))
theorem pmkN_number {a : Expr} {ta : TA} {p pos : Pos} {k : Nat} (T : FoX_number.XTxt X.prog X.K X.mg C fI) (gC : X.mg nm = some (.ref C)) (hr : Room k X.A) (ha : PA X [a] ta) (hg : Gl X nm) (hdb : (nm == ("__debug__" : Str)) = false)
    (he : starEach (a :: []) X.env = (false, eval a X.env) :: starEach [] X.env := by rfl) (hpl : (backTo pos (starEach [] X.env)).any (·.1) = false := by rfl) :
    L2N.PMk X (.Call (.Name nm p) [a] [] pos) (tMkX_number C ta) := by
  intro pins s σ H Q I h
  refine wpAny_Call_Name_kw (ld_glob I hg gC ?_ hdb)
  refine PySem.W.callWith_K (h₀ := X.base) I.ok.mod.kin T.kC (thn (ha.run pos pins s σ H _ I h) fun us s1 hh => ?_) he hpl
  obtain ⟨vs, H1, I1, r1, v, ev, q1⟩ := hh
  subst ev
  refine ⟨I1.kIn, ?_⟩
  cases r1 with
  | cons rv rn =>
    rename_i v' us'
    cases rn
    show wpAny _ _ (call (.ref C) [v']) _ _ _
    have hlim := I1.nolimit
    have hgl : s1.heap.Ns mainGlobals X.mg := I1.mod.glob.keeps I1.bk
    obtain ⟨mb, hb1, hb2⟩ := I1.mod.blt
    have hbl : ∃ mb, s1.heap.Ns builtinsNs mb ∧ ∀ y : Str, y ≠ "__name__" → mb y = bootBuiltins y := ⟨mb, hb1.keeps I1.bk, hb2⟩
    obtain ⟨hp, g, dr, tk, os⟩ := s1
    refine wpAny_call (FoX_number.x_made T I1.kIn hgl hbl hlim (by have := hr.dp; omega) fun h' tk' e d M => ?_)
    show L2N.MkP X pins σ Q (.ref e) ⟨h', g, dr, tk', os⟩
    obtain ⟨oe, fv, hoe, hc, hd, hdat, h1, h2⟩ := M.obj
    have hns := M.ns
    obtain ⟨G', g1, g2⟩ := restrict h' fun b => decide (b ≠ e)
    have gk : ∀ b, b ≠ e → G'.get? b = h'.get? b := fun b hb => g1 b (decide_eq_true hb)
    have ge : G'.get? e = none := g2 e (by simp)
    have old : ∀ b o, hp.get? b = some o → G'.get? b = some o := fun b o q => (gk b (Nat.ne_of_lt (Nat.lt_of_lt_of_le (Heap.lt_size q) M.new))).trans (M.keep b o q)
    have ob : ObjOk X.prog X.w (upd H1 d (.xd [((Str.ofString "number"), v)])) G' d (.xd [((Str.ofString "number"), v)]) :=
      ⟨_, hns.at (fun o q => (gk d M.dne).trans q), fun f => relO_number rv f⟩
    have J : Inv X pins σ (upd H1 d (.xd [((Str.ofString "number"), v)])) ⟨G', g, dr, tk', os⟩ := I1.laid (t' := tk') old M.dbig ob
    refine ⟨e, oe, fv, ⟨G', g, dr, tk', os⟩, _, .ref C, some d, rfl, J, fun b o q => ?_, ge, hoe, ⟨hc, hd, fun vs e => by rw [hdat] at e; cases e; exact h2⟩, hdat, h1, ?_, rfl, I1.bare, raises_own T.exC T.tyC, q1 d (I1.hok.fresh M.dbig)⟩
    · by_cases hb : b = e
      · have q' : G'.get? b = some o := q
        rw [hb, ge] at q'; cases q'
      · exact (gk b hb).symm.trans q
    · rw [upd_ne (Ne.symm M.dne)]
      exact I1.hok.fresh M.new
theorem pmk_number {a : Expr} {ta : TA} {p pos : Pos} {k : Nat} (T : FoX_number.XTxt X.prog X.K X.mg C fI) (gC : X.mg nm = some (.ref C)) (hr : Room k X.A) (ha : PA X [a] ta) (hg : Gl X nm) (hdb : (nm == ("__debug__" : Str)) = false)
    (he : starEach (a :: []) X.env = (false, eval a X.env) :: starEach [] X.env := by rfl) (hpl : (backTo pos (starEach [] X.env)).any (·.1) = false := by rfl) :
    PMk X (.Call (.Name nm p) [a] [] pos) (tMkX_number C ta) := by
  intro pins s σ H Q I h
  refine wpAny_mono (pmkN_number T gC hr ha hg hdb he hpl pins s σ H Q I h) (fun u s' z => ?_) fun _ _ x => x
  obtain ⟨e, oe, vs, sI, H', cls, d, r1, r2, r3, r4, r5, r6, r7⟩ := z
  exact ⟨e, oe, vs, sI, H', cls, d, r1, r2, r3, r4, r5, r6.zc, r7⟩
/-- raise Name(e) -/
def tRaiseX_number (C : Addr) (W : WX) (ta : TA) : TS := fun _ σ H => tMkX_number C ta σ H fun cls d H' => W cls d σ H'
theorem ps_raise_number {a : Expr} {ta : TA} {W : WX} {p pos pos2 : Pos} {k : Nat} (hc : X.calm = true) (T : FoX_number.XTxt X.prog X.K X.mg C fI) (gC : X.mg nm = some (.ref C)) (hr : Room k X.A) (tk : Takes X W) (ha : PA X [a] ta) (hg : Gl X nm := by rfl) (hdb : (nm == ("__debug__" : Str)) = false := by decide)
    (he : starEach (a :: []) X.env = (false, eval a X.env) :: starEach [] X.env := by rfl) (hpl : (backTo pos (starEach [] X.env)).any (·.1) = false := by rfl) :
    PS X (.Raise (some (.Call (.Name nm p) [a] [] pos)) none pos2) (tRaiseX_number C W ta) := ps_raise hc tk (pmk_number T gC hr ha hg hdb he hpl)
theorem ps_raiseN_number {a : Expr} {ta : TA} {W : WX} {p pos pos2 : Pos} {k : Nat} (hc : X.calm = true) (T : FoX_number.XTxt X.prog X.K X.mg C fI) (gC : X.mg nm = some (.ref C)) (hr : Room k X.A) (tk : L2N.Takes X W) (ha : PA X [a] ta) (hg : Gl X nm := by rfl) (hdb : (nm == ("__debug__" : Str)) = false := by decide)
    (he : starEach (a :: []) X.env = (false, eval a X.env) :: starEach [] X.env := by rfl) (hpl : (backTo pos (starEach [] X.env)).any (·.1) = false := by rfl) :
    PS X (.Raise (some (.Call (.Name nm p) [a] [] pos)) none pos2) (tRaiseX_number C W ta) := L2N.ps_raise hc tk (pmkN_number T gC hr ha hg hdb he hpl)
/-- e.field, e the error that the suite holds (at a; its class cls, its dict d) -/
def tByX_number (C : Addr) (a : Addr) (cls : Value) (d : Option Addr) (te : TE) : TE := fun σ H Q => te σ H fun x H1 => x = .ref a ∧ cls = .ref C ∧ ∃ (dd : Addr) (v : V), d = some dd ∧ H1 dd = some (.xd [((Str.ofString "number"), v)]) ∧ Q v H1
theorem pe_by_number {a : Addr} {oe : Obj} {cls : Value} {d : Option Addr} {pn : List (Addr × Obj)} {e : Expr} {te : TE} {pos : Pos} (T : FoX_number.XTxt X.prog X.K X.mg C fI) (hz : Zc cls d oe) (hf : ∃ vs, oe.data = .fields vs) (he : PE (X.suite a ((a, oe) :: pn)) e te)
    (hb : attributeBase e (Str.ofString "number") X.env (eval e X.env) = eval e X.env := by rfl) :
    PE (X.suite a ((a, oe) :: pn)) (.Attribute e (Str.ofString "number") pos) (tByX_number C a cls d te) := by
  refine ⟨fun pins s σ H Q I h => ?_⟩
  refine attr_of hb (thn (he.run pins s σ H _ I h) fun u s1 hh => ?_)
  obtain ⟨x, H1, I1, rx, ex, ec, dd, v, ed, ea, q⟩ := hh
  subst ex
  obtain rfl : u = Value.ref a := rx
  subst ec
  subst ed
  obtain ⟨ha, _⟩ := I1.pin (a, oe) (List.mem_append_left _ List.mem_cons_self)
  obtain ⟨vs, hd⟩ := hf
  have hx : ObjOk X.prog X.w H1 s1.heap dd (.xd [((Str.ofString "number"), v)]) := I1.hok dd _ ea
  obtain ⟨mA, hns, hr⟩ := hx
  obtain ⟨od, ho, hl⟩ := lookIn_ns hns
  have l : List.lookup (Str.ofString "number") [((Str.ofString "number"), v)] = some v := by simp [List.lookup]
  obtain ⟨u, hu, ru⟩ := RelO.some_of (v := v) (o := mA (Str.ofString "number")) (by rw [← l]; exact hr (Str.ofString "number"))
  have J : PySem.W.InstAt s1.heap a oe C (some od) := ⟨ha, hz.1, by unfold PySem.W.notCls; rw [hd] <;> rfl, by rw [hz.2]; exact ho⟩
  exact HandSPX.exc_get I1.kIn J T.ga T.gg T.exC (PySem.W.findObj_own T.hdC T.noN rfl (by rw [hl, hu])) (handed_of ru) ⟨v, H1, I1.tok _, ru, q⟩
end
end L2
set_option Elab.async false
set_option linter.all false
set_option maxRecDepth 100000
set_option maxHeartbeats 2000000
/-! promises joined; a def called within an except suite with the error -/
namespace L2
open PySem PySem.Spec PyProof.Rows
section
variable {P : Program} {w : World} {K : PySem.W.Frag} {mg : Str → Option Value} {base : Heap} {k j : Nat} {f : Addr} {fd : FuncData} {ps : List Str} {sp sp' : Sp}
theorem FnOk.or {CX : CXT} (a : FnOk P w K mg base CX k f fd ps sp) (b : FnOk P w K mg base CX k f fd ps sp') : FnOk P w K mg base CX k f fd ps (fun vs H Q E => sp vs H Q E ∨ sp' vs H Q E) :=
  ⟨fun vs H Q E h => h.elim (a.len vs H Q E) (b.len vs H Q E), fun A outer s H args us vs Q E hr e0 hb r h => h.elim (a.run A outer s H args us vs Q E hr e0 hb r) (b.run A outer s H args us vs Q E hr e0 hb r)⟩
theorem FnOk.up {CX : CXT} (a : FnOk P w K mg base CX0 k f fd ps sp) : FnOk P w K mg base CX k f fd ps sp :=
  ⟨a.len, fun A outer s H args us vs Q E hr e0 hb r h => codeAny_mono (a.run A outer s H args us vs Q E hr e0 hb r h) fun r s' z => by
    cases r with
    | error e => exact False.elim z
    | ok fl => cases fl <;> exact z⟩
theorem FnOk.lift {CX : CXT} (a : FnOk P w K mg base CX k f fd ps sp) (h : k ≤ j) : FnOk P w K mg base CX j f fd ps sp :=
  ⟨a.len, fun A outer s H args us vs Q E hr e0 hb r => a.run A outer s H args us vs Q E (hr.mono h) e0 hb r⟩
end
/-- what a def promises that is called within an except suite, the error (at p) among its arguments, where nothing is being shown -/
structure FnE (P : Program) (w : World) (K : PySem.W.Frag) (mg : Str → Option Value) (base : Heap) (k : Nat) (f : Addr) (fd : FuncData) (ps : List Str) (sp : Addr × Obj → Sp) : Prop where
  len : ∀ p vs H Q E, sp p vs H Q E → vs.length = ps.length
  run : ∀ (A : Around), A.guards = some [] → ∀ (outer : List Env) (s : Shared) (H : Hp) (args : Args) (us : List Value) (vs : List V) (Q : VK) (E : XK) (p : Addr × Obj), L2H.RoomH k A → L2H.PinOk outer H s p → Env0 P w K mg base A outer s H → BindsTo s fd args (ps.zip us) → Vals vs us → sp p vs H Q E →
    codeAny (model P w) A (.call (.ref f) args) (CR CX0 outer P w H s Q E) s
section
variable {P : Program} {w : World} {K : PySem.W.Frag} {mg : Str → Option Value} {base : Heap}
theorem Fun.okE {x qual : Str} {st : Stmt} {f : Addr} {fd : FuncData} {N ps : List Str} {k : Nat} {sp : Addr × Obj → Sp} (F : Fun K x qual st f fd) (S : FnScope N ps (defScope st)) (len : ∀ p vs H Q E, sp p vs H Q E → vs.length = ps.length)
    (walk : ∀ (cdv : Value) (A : Around) (outer : List Env) (s : Shared) (H : Hp) (vs : List V) (Q : VK) (E : XK) (p : Addr × Obj), A.guards = some [] → L2H.RoomH k (A.deeper (envOfC qual (defScope st) s.heap.objs.size f cdv)) → sp p vs H Q E →
      ∃ t, PSs (L2H.cxH CX0 P w K mg base N qual (defScope st) f cdv A outer s H E p).nox (defBody st) t ∧ t { nx := fun _ H' => Q .non H', rt := Q } (start N vs) H) : FnE P w K mg base (k + 1) f fd ps sp := by
  obtain ⟨oc, od, kV, doc, pm, an, cdv, ct, osl, rfl, lk, hcd⟩ := F.ex
  refine ⟨len, fun A hgd outer s H args us vs Q E p room hpin env bind rel want => ?_⟩
  have inB : ∀ b o, base.get? b = some o → s.heap.get? b = some o := fun b o z => (env.bs b o z).1
  have inK := env.mod.kin.keeps inB
  have kinds : ∀ y ∈ ps.zip us, (defScope st).names.lookup y.1 = some .local ∨ ((defScope st).names.lookup y.1 = some .cell ∧ ((cellsFrom (s.heap.objs.size + 1) (defScope st).names []).lookup y.1).isSome = true) := by
    rintro ⟨n, v⟩ hy
    exact (S.par n (List.of_mem_zip hy).1).imp id fun q => ⟨q, PySem.W.cellsFrom_some _ _ _ (.inl q)⟩
  refine codeAny_call_function room.depth (inK _ _ lk) rfl S.co S.gen rfl (PySem.W.codeRec_of inK hcd) (bind _ _ _ _ (wpAny_newFunctionEnv_cells S.kind kinds ?_))
  rintro _ rfl s1 entry
  refine ⟨(env.mod.nolimit.keeps inB).keeps entry.toInCall.keep, codeAny_func ?_⟩
  obtain ⟨t, body, told⟩ := walk cdv A outer s H vs Q E p hgd (room.deeper _) want
  have start0 : Inv (L2H.cxH CX0 P w K mg base N qual (defScope st) f cdv A outer s H E p) [] (L2.start N vs) H s1 := L2H.inv_startH S hpin env (len _ _ _ _ _ want) rel entry
  refine wpAny_mono (body.nox.run [] s1 (start N vs) H _ start0 told) ?_ fun _ _ z => z
  intro fl s' z
  cases fl with
  | ret u =>
    obtain ⟨v, σ', H', J, rv, q⟩ := z
    exact ⟨v, H', J.os, J.bare, J.base, J.hok, rv, q⟩
  | next =>
    obtain ⟨σ', H', J, q⟩ := z
    exact ⟨.non, H', J.os, J.bare, J.base, J.hok, rfl, q⟩
  | brk => exact z.elim fun _ z => z.elim fun _ z => z.2.elim
  | cont => exact z.elim fun _ z => z.elim fun _ z => z.2.elim
end
section
variable {X : Cx} {k : Nat} {f : Addr} {fd : FuncData} {ps : List Str} {sp : Addr × Obj → Sp} {x : Str} {q pos : Pos} {e : Expr} {es : List Expr} {t : TA} {p : Addr × Obj}
theorem pe_callE {sp' : Sp} (hsp : ∀ vs H Q, sp' vs H Q E0 → sp p vs H Q E0) (F : FnE X.prog X.w X.K X.mg X.base k f fd ps sp) (hgd : X.A.guards = some []) (hr : L2H.RoomH k X.A) (hp : p ∈ X.pn) (hg : Gl X x) (hm : X.mg x = some (.ref f)) (hk : PySem.W.keepIn X.K (.ref f) = true) (hb : Binds X.K fd ps [])
    (ha : PA X (e :: es) t) (hdb : (x == ("__debug__" : Str)) = false := by decide) (he : starEach (e :: es) X.env = (false, eval e X.env) :: starEach es X.env := by rfl) (hpl : (backTo pos (starEach es X.env)).any (·.1) = false := by rfl) :
    PE X (.Call (.Name x q) (e :: es) [] pos) (tCall sp' [] E0 t) := by
  constructor
  intro pins s σ H Q I h
  refine wpAny_Call_Name_kw (ld_glob I hg hm (PySem.W.callWith_K (h₀ := X.base) I.ok.mod.kin hk (thn (ha.run pos pins s σ H _ I h) ?_) he hpl) hdb)
  rintro us s1 ⟨vs, H1, I1, rel, want⟩
  refine ⟨I1.kIn, ?_⟩
  rw [List.append_nil] at want
  replace want := hsp _ _ _ want
  have ln : us.length = ps.length := rel.length.symm.trans (F.len _ _ _ _ _ want)
  have bnd := hb s1 us I1.kIn (by rw [List.append_nil]; exact ln)
  rw [List.append_nil] at bnd
  have P1 := I1.pin p (List.mem_append_left _ hp)
  have hpin : L2H.PinOk X.stack H1 s1 p := ⟨P1.1, P1.2.1, fun hm => (List.mem_cons.mp (I1.stkSub p.1 hm)).elim P1.2.2.1 P1.2.2.2.1, P1.2.2.2.2⟩
  refine wpAny_call (codeAny_mono (F.run X.A hgd X.stack s1 H1 ⟨us, []⟩ us vs Q E0 p hr hpin I1.env0 bnd rel want) ?_)
  intro r s' z
  rcases r with e | (u | _ | _ | _)
  all_goals first | exact I1.after z | exact False.elim z
end
/-- isinstance(e, c), e an error that is pinned -/
theorem call_isP {X : Cx} {a : Addr} {oe : Obj} {cls : Value} {d : Option Addr} (hp : (a, oe) ∈ X.pn) (hz : Zc cls d oe) (hf : ∃ vs, oe.data = .fields vs) : CallR X (.builtin "isinstance") (rIsX X.K a cls d) := by
  intro pins s σ H xs us Q I r h
  obtain ⟨D, dd, fs, c, cv, b, rfl, rfl, rfl, hdd, hcv, T, e, q⟩ := h
  obtain ⟨u1, u2, rfl, r1, r2⟩ := vals2 r
  obtain rfl : u1 = Value.ref a := r1
  obtain rfl := hcv.eq r2
  obtain ⟨ha, _⟩ := I.pin (a, oe) (List.mem_append_left _ hp)
  obtain ⟨vs, hd⟩ := hf
  obtain ⟨mA, hns, _⟩ := (show ObjOk X.prog X.w H s.heap dd (.xd fs) from I.hok dd _ hdd)
  obtain ⟨od, ho, _⟩ := lookIn_ns hns
  have J : PySem.W.InstAt s.heap a oe D (some od) := ⟨ha, hz.1, by unfold PySem.W.notCls; rw [hd] <;> rfl, by rw [hz.2]; exact ho⟩
  have hcl : (PySem.W.clsIn X.K D).isSome = true := by
    obtain ⟨cd, hc, _⟩ := PySem.W.any_some T.hd
    rw [hc]
    rfl
  exact PySem.W.kia_one (PySem.W.kitx_exc hcl T.hg T.hk T.hs T.ha T.hn T.ht T.hm) I.kIn J e (fun z => nomatch z) fun tk => ⟨.bl b, H, I.kept (t' := tk) fun _ _ z => z, rfl, q⟩
/-- e.thing of such a one -/
def tByP (P : Program) (K : PySem.W.Frag) (mg : Str → Option Value) (a : Addr) (cls : Value) (d : Option Addr) (te : TE) : TE := fun σ H Q => te σ H fun x H1 => x = .ref a ∧ ∃ C fI : Addr, FoX_thing.XTxt P K mg C fI ∧ cls = .ref C ∧ ∃ (dd : Addr) (v : V), d = some dd ∧ H1 dd = some (.xd [((Str.ofString "thing"), v)]) ∧ Q v H1
theorem pe_byP {X : Cx} {a : Addr} {oe : Obj} {cls : Value} {d : Option Addr} {e : Expr} {te : TE} {pos : Pos} (hp : (a, oe) ∈ X.pn) (hz : Zc cls d oe) (hf : ∃ vs, oe.data = .fields vs) (he : PE X e te)
    (hb : attributeBase e (Str.ofString "thing") X.env (eval e X.env) = eval e X.env := by rfl) :
    PE X (.Attribute e (Str.ofString "thing") pos) (tByP X.prog X.K X.mg a cls d te) := by
  refine ⟨fun pins s σ H Q I h => ?_⟩
  refine attr_of hb (thn (he.run pins s σ H _ I h) fun u s1 hh => ?_)
  obtain ⟨x, H1, I1, rx, ex, C, fI, T, ec, dd, v, ed, ea, q⟩ := hh
  subst ex
  obtain rfl : u = Value.ref a := rx
  subst ec
  subst ed
  obtain ⟨ha, _⟩ := I1.pin (a, oe) (List.mem_append_left _ hp)
  obtain ⟨vs, hd⟩ := hf
  have hx : ObjOk X.prog X.w H1 s1.heap dd (.xd [((Str.ofString "thing"), v)]) := I1.hok dd _ ea
  obtain ⟨mA, hns, hr⟩ := hx
  obtain ⟨od, ho, hl⟩ := lookIn_ns hns
  have l : List.lookup (Str.ofString "thing") [((Str.ofString "thing"), v)] = some v := by simp [List.lookup]
  obtain ⟨u, hu, ru⟩ := RelO.some_of (v := v) (o := mA (Str.ofString "thing")) (by rw [← l]; exact hr (Str.ofString "thing"))
  have J : PySem.W.InstAt s1.heap a oe C (some od) := ⟨ha, hz.1, by unfold PySem.W.notCls; rw [hd] <;> rfl, by rw [hz.2]; exact ho⟩
  exact HandSPX.exc_get I1.kIn J T.ga T.gg T.exC (PySem.W.findObj_own T.hdC T.noN rfl (by rw [hl, hu])) (handed_of ru) ⟨v, H1, I1.tok _, ru, q⟩
end L2
set_option Elab.async false
set_option linter.all false
set_option maxRecDepth 100000
set_option maxHeartbeats 2000000
/-! xs != [] of any items; loops over enumerate(xs) -/
namespace L2
open PySem PySem.Spec PyProof.Rows
section
variable {X : Cx}
def rNeNil : R2 := fun x y H Q => ∃ (a b : Addr) (xs : List V), x = .ref a ∧ y = .ref b ∧ H a = some (.lst xs) ∧ H b = some (.lst []) ∧ Q (.bl (!xs.isEmpty)) H
theorem op_neNil (hu : X.A.units < cLine) : OpR X (compareOp .NotEq) rNeNil := by
  intro pins s σ H x y v u Q I rx ry h
  obtain ⟨a, b, xs, rfl, rfl, ha, hb, q⟩ := h
  obtain rfl : v = Value.ref a := rx
  obtain rfl : u = Value.ref b := ry
  obtain ⟨_, its, n1, r1, e1⟩ := (show ObjOk X.prog X.w H s.heap a (.lst xs) from I.hok a _ ha)
  obtain ⟨_, its2, n2, r2, e2⟩ := (show ObjOk X.prog X.w H s.heap b (.lst []) from I.hok b _ hb)
  have l1 := r1.length
  have l2 := r2.length
  have hl1 : s.heap.IsList a its.toArray := ⟨_, e1, rfl, _, rfl⟩
  have hl2 : s.heap.IsList b its2.toArray := ⟨_, e2, rfl, _, rfl⟩
  have z2 : its2.length = 0 := by rw [← l2]; rfl
  cases xs with
  | nil =>
    have z1 : its.length = 0 := by rw [← l1]; rfl
    have k := PySem.SeqAt.RcNeAt.lists (A := X.A) (s := s) (e := fun _ => true) hl1 hl2 (by simp [z1, z2]) hu (fun j h1 h2 => by simp [z1] at h1)
    have e : (!(List.range its.toArray.size).all fun _ => true) = false := by simp
    rw [e] at k
    exact k X.prog X.w X.xe _ ⟨.bl false, H, I, rfl, q⟩
  | cons y ys =>
    have z1 : its.length = ys.length + 1 := by rw [← l1]; rfl
    have k := PySem.SeqAt.RcNeAt.lists_lengths (A := X.A) (s := s) hl1 hl2 (by simp [z1, z2]) hu
    exact k X.prog X.w X.xe _ ⟨.bl true, H, I, rfl, q⟩
end
/-- a loop over enumerate of a list -/
theorem for_enumL {K : PySem.W.Frag} {a : Addr} {xs : List V} {g : TG} {tb : TS} {D : Ends} {σ : L2.St} {H : Hp} (Pv : Nat → L2.St → Hp → Prop) (h0 : Pv 0 σ H) (hq : ∀ i σ H, Pv i σ H → SqL K H a xs)
    (hs : ∀ (i : Nat) (x : V) (T : Addr) (σ : L2.St) (H : Hp), xs[i]? = some x → Pv i σ H → H T = none → g (.ref T) σ (upd H T (.tup [.int (i : Nat), x])) fun σ2 H2 => tb { D with nx := Pv (i + 1), ct := Pv (i + 1), bk := D.nx } σ2 H2) (hd : ∀ σ H, Pv xs.length σ H → D.nx σ H) :
    ∃ W : Nat → Nat → L2.St → Hp → Prop, (∃ m, W 0 m σ H) ∧ ∀ i m σ H, W i m σ H →
      ((Ite K a).stop i H ∧ D.nx σ H) ∨ ((Ite K a).go i H ∧ ∃ N : L2.St → Hp → Prop, (∀ σ' H', N σ' H' → ∃ m', m' < m ∧ W (i + 1) m' σ' H') ∧ ∀ v H', (Ite K a).yld i H v H' → g v σ H' fun σ2 H2 => tb { D with nx := N, ct := N, bk := D.nx } σ2 H2) := by
  refine ⟨fun i m σ H => m = xs.length - i ∧ i ≤ xs.length ∧ Pv i σ H, ⟨xs.length, rfl, Nat.zero_le _, h0⟩, ?_⟩
  rintro i m σ H ⟨rfl, hi, p⟩
  have qx := hq i σ H p
  by_cases hlt : i < xs.length
  · have hx : xs[i]? = some xs[i] := List.getElem?_eq_getElem hlt
    refine .inr ⟨⟨xs, _, qx, hx⟩, Pv (i + 1), fun σ' H' p' => ⟨xs.length - (i + 1), by omega, rfl, hlt, p'⟩, fun v H' y => ?_⟩
    obtain ⟨T, x', rfl, hT, rfl, f1⟩ := y
    exact hs i x' T σ H (f1 xs qx) p hT
  · have e : i = xs.length := by omega
    subst e
    exact .inl ⟨⟨xs, qx, Nat.le_refl _⟩, hd σ H p⟩
end L2
set_option Elab.async false
set_option linter.all false
set_option maxRecDepth 100000
set_option maxHeartbeats 2000000
/-! sum of a tuple; zip of a tuple and a list (or a tuple); enumerate of a list or a tuple -/
namespace L2
open PySem PySem.Spec PyProof.Rows
section
variable {X : Cx}
/-- sum(t), t a tuple of whole numbers -/
def rSumT (K : PySem.W.Frag) : List V → Hp → VK → Prop := fun xs H Q => ∃ (a : Addr) (ns : List Int), xs = [.ref a] ∧ SqT K H a (ns.map V.int) ∧ Q (.int ns.sum) H
theorem cr_sumT (hc : X.calm = true) : CallR X (.builtin "sum") (rSumT X.K) := by
  intro pins s σ H vs us Q I r h
  obtain ⟨a, ns, rfl, hs, q⟩ := h
  obtain ⟨its, rv, p, _⟩ := I.tuple hs
  rw [Vals.ref1 r]
  obtain ⟨xs, e⟩ := rv.ints.allInts.items
  have hn : numsOf (intItems xs).toList = ns := by rw [← e]; exact rv.ints.numsOf
  rw [nums_intItems] at hn
  have ht : s.heap.IsTuple a (intItems xs) := by rw [← e]; exact p
  have lt : a < s.heap.objs.size := by obtain ⟨_, z, _⟩ := ht; exact Heap.lt_size z
  refine call_sum_walkG (wpAny_pyIter_tuple ht ?_)
  refine ⟨_, [s.heap.objs.size, a], [s.heap.objs.size], _, _, _, numAt xs, rfl, Walks.tuple (A := X.A.in1) (I.ok.hd hc) _ a (Nat.ne_of_lt lt) (intItems xs), ⟨⟨_, Heap.get?_push_size _ rfl, rfl, rfl⟩, ht.push _⟩, fun b hb => ?_, fun _ _ => intItems_at, fun h' tk t' hk => ?_⟩
  · rw [Heap.size_push]
    have z : b = s.heap.objs.size ∨ b = a := by simpa using hb
    rcases z with z | z
    · rw [z]
      exact Nat.lt_succ_self _
    · rw [z]
      exact Nat.lt_succ_of_lt lt
  · have old : ∀ b o, s.heap.get? b = some o → h'.get? b = some o := fun b o z => hk b o (fun y => by
      have y' : b = s.heap.objs.size := by simpa using y
      rw [y'] at z
      exact absurd (Heap.lt_size z) (Nat.lt_irrefl _)) (Heap.get?_push_of_some _ z)
    have hsum : preSum (numAt xs) (intItems xs).size = ns.sum := by
      rw [show (intItems xs).size = xs.size by simp [intItems], preSum_eq, List.take_of_length_le (by simp), hn]
    rw [hsum]
    exact ⟨.int ns.sum, H, I.kept old, ⟨_, rfl⟩, q⟩
end
/-! ### zip of a tuple and a list -/
abbrev zA (h : Heap) (a : Addr) : Heap := h.push ⟨.type "tuple_iterator", none, .fields #[.ref a, .int 0 0], #[]⟩
abbrev zB (h : Heap) (a b : Addr) : Heap := (zA h a).push ⟨.type "list_iterator", none, .fields #[.ref b, .int 0 0], #[]⟩
abbrev zC (h : Heap) (a b : Addr) : Heap := (zB h a b).push ⟨.type "tuple", none, .seq #[.ref h.objs.size, .ref (zA h a).objs.size], #[]⟩
abbrev zD (h : Heap) (a b : Addr) : Heap := (zC h a b).push ⟨.type "tuple", none, .seq #[.none, .none], #[]⟩
abbrev zE (h : Heap) (a b : Addr) : Heap := (zD h a b).push ⟨.type "zip", none, .fields #[.none, .bool false, .bool false, .ref (zB h a b).objs.size, .ref (zC h a b).objs.size], #[]⟩
theorem meets_zipTL (a b : Addr) (xs ys : Array Value) :
    Meets (Builtin.«zip.__new__» ⟨[.type "zip", .ref a, .ref b], []⟩) (fun _ R s => s.heap.IsTuple a xs ∧ s.heap.IsList b ys ∧ R (.ok (.ret (.ref (zD s.heap a b).objs.size))) { s with heap := zE s.heap a b }) :=
  .of_wp fun prog w A R s h => by
    obtain ⟨hp, g, dr, tk, os⟩ := s
    obtain ⟨ha, hb, h⟩ := h
    have hsub := sub_zip
    have LA : Heap.IsTuple (Shared.heap ⟨hp, g, dr, tk, os⟩) a xs := ha
    have LB : Heap.IsList (Shared.heap ⟨zA hp a, g, dr, tk, os⟩) b ys := Heap.IsList.push hb _
    wp_walk using wpAny_pyIter_tuple LA, wpAny_pyIter_list LB
    exact ⟨_, rfl, h⟩
section
variable {prog : Program} {w : World} {A : Around} {E : Value → Shared → Prop} {s : Shared}
theorem call_zipTL {a b : Addr} {xs ys : Array Value} {Q : Value → Shared → Prop} (ha : s.heap.IsTuple a xs) (hb : s.heap.IsList b ys)
    (h : ∀ (h' : Heap) (n : Nat), n = s.heap.objs.size → IsZip h' (n + 4) (n + 2) (n + 3) .none → IsPair h' (n + 2) (.ref n) (.ref (n + 1)) → IsPair h' (n + 3) .none .none → h'.IsTupleIter n a 0 → h'.IsListIter (n + 1) b 0 →
      (∀ c o, s.heap.get? c = some o → h'.get? c = some o) → Q (.ref (n + 4)) { s with heap := h' }) : wpAny (model prog w) A (call (.type "zip") [.ref a, .ref b]) Q E s := by
  refine callType_new F.called_zip (by decide) (F.typeCall_zip_2 _ _) (F.newCall_zip_2 _ _) (fun obj => F.args_object_init_3 obj _ _) F.entry_zip_new (meets_zipTL a b xs ys) ⟨ha, hb, ?_⟩
  have n1 : (zA s.heap a).objs.size = s.heap.objs.size + 1 := Heap.size_push ..
  have n2 : (zB s.heap a b).objs.size = s.heap.objs.size + 2 := (Heap.size_push ..).trans (congrArg (· + 1) n1)
  have n3 : (zC s.heap a b).objs.size = s.heap.objs.size + 3 := (Heap.size_push ..).trans (congrArg (· + 1) n2)
  have n4 : (zD s.heap a b).objs.size = s.heap.objs.size + 4 := (Heap.size_push ..).trans (congrArg (· + 1) n3)
  have up1 : ∀ c o, (zD s.heap a b).get? c = some o → (zE s.heap a b).get? c = some o := fun c o z => Heap.get?_push_of_some _ z
  have up2 : ∀ c o, (zC s.heap a b).get? c = some o → (zE s.heap a b).get? c = some o := fun c o z => up1 c o (Heap.get?_push_of_some _ z)
  have up3 : ∀ c o, (zB s.heap a b).get? c = some o → (zE s.heap a b).get? c = some o := fun c o z => up2 c o (Heap.get?_push_of_some _ z)
  have up4 : ∀ c o, (zA s.heap a).get? c = some o → (zE s.heap a b).get? c = some o := fun c o z => up3 c o (Heap.get?_push_of_some _ z)
  have o5 : (zE s.heap a b).get? (zD s.heap a b).objs.size = some _ := Heap.get?_push_size _ rfl
  have o4 := up1 _ _ (Heap.get?_push_size (zC s.heap a b) (o := ⟨.type "tuple", none, .seq #[.none, .none], #[]⟩) rfl)
  have o3 := up2 _ _ (Heap.get?_push_size (zB s.heap a b) (o := ⟨.type "tuple", none, .seq #[.ref s.heap.objs.size, .ref (zA s.heap a).objs.size], #[]⟩) rfl)
  have o2 := up3 _ _ (Heap.get?_push_size (zA s.heap a) (o := ⟨.type "list_iterator", none, .fields #[.ref b, .int 0 0], #[]⟩) rfl)
  have o1 := up4 _ _ (Heap.get?_push_size s.heap (o := ⟨.type "tuple_iterator", none, .fields #[.ref a, .int 0 0], #[]⟩) rfl)
  show _ ∧ _
  rw [n2, n3, n4] at o5
  rw [n1, n2] at o3
  rw [n3] at o4
  rw [n1] at o2
  rw [n4]
  exact ⟨⟨_, o5, rfl⟩, h _ _ rfl o5 o3 o4 ⟨_, o1, rfl, rfl⟩ ⟨_, o2, rfl, rfl⟩ fun c o z => up4 c o (Heap.get?_push_of_some _ z)⟩
end
/-- a tuple at a and a list at b as they stand at each turn -/
def ItzTL (K : PySem.W.Frag) (a b : Addr) : It :=
  ⟨fun i H => ∃ (xs ys : List V) (x y : V), SqT K H a xs ∧ SqL K H b ys ∧ xs[i]? = some x ∧ ys[i]? = some y,
   fun i H v H' => ∃ (T : Addr) (x y : V), v = .ref T ∧ H T = none ∧ H' = upd H T (.tup [x, y]) ∧ (∀ xs, SqT K H a xs → xs[i]? = some x) ∧ (∀ ys, SqL K H b ys → ys[i]? = some y),
   fun i H => ∃ xs ys : List V, SqT K H a xs ∧ SqL K H b ys ∧ i ≤ xs.length ∧ i ≤ ys.length ∧ (i = xs.length ∨ i = ys.length)⟩
theorem mem5 {c a1 a2 a3 a4 a5 : Addr} (h : c ∈ [a1, a2, a3, a4, a5]) : c = a1 ∨ c = a2 ∨ c = a3 ∨ c = a4 ∨ c = a5 := by simpa using h
theorem turn_zipTL {P : Program} {w : World} {K : PySem.W.Frag} {elts : List Expr} {kk : Nat} {tpos : Pos} {a b z TI TO i1 i2 : Addr} (D : ZipApart z TI TO i1 i2 a b) :
    Turn P w K (.Tuple elts kk tpos) (ItzTL K a b) [z, TI, TO, i1, i2] z (fun i h => (IsZip h z TI TO .none ∧ IsPair h TI (.ref i1) (.ref i2)) ∧ (∃ x y, IsPair h TO x y) ∧ h.IsTupleIter i1 a i ∧ h.IsListIter i2 b i) := by
  have S : ZipSep2 z TI TO i1 i2 [i1, a] [i2, b] := ⟨D.TIz, D.TOz, D.TITO, D.TIi1, by simp, by simp [D.i1z.symm, D.l1z.symm], by simp [D.TOi1, D.l1TO.symm], D.TIi2, by simp, by simp [D.i2z.symm, D.l2z.symm], by simp [D.TOi2, D.l2TO.symm], by simp [D.i12, D.l2i1.symm], by simp [D.i12.symm, D.l1i2.symm]⟩
  refine ⟨by simp, ?_, ?_, ?_, ?_, fun A i s Q E st h => wpAny_pyIter_zip st.1.1 h⟩
  · rintro i h ⟨⟨g1, g2⟩, ⟨x, y, g3⟩, ⟨p1, q1, _, r1⟩, ⟨p2, q2, _, r2⟩⟩ c hc
    rcases mem5 hc with rfl | rfl | rfl | rfl | rfl
    · exact ⟨_, g1, fun v z => nomatch z⟩
    · exact ⟨_, g2, fun v z => nomatch z⟩
    · exact ⟨_, g3, fun v z => nomatch z⟩
    · exact ⟨p1, q1, fun v z => by rw [r1] at z; cases z⟩
    · exact ⟨p2, q2, fun v z => by rw [r2] at z; cases z⟩
  · rintro i h h' ⟨⟨g1, g2⟩, ⟨x, y, g3⟩, g4, g5⟩ k
    exact ⟨⟨k z (by simp) _ g1, k TI (by simp) _ g2⟩, ⟨x, y, k TO (by simp) _ g3⟩, g4.at fun o q => k i1 (by simp) o q, g5.at fun o q => k i2 (by simp) o q⟩
  · rintro X rfl rfl rfl hc i pins s σ H E I hf ⟨⟨g1, g2⟩, ⟨x0, y0, g3⟩, g4, g5⟩ ⟨xs, ys, x, y, hx, hy, ex, ey⟩
    obtain ⟨its, rv, p, _⟩ := I.tuple hx
    obtain ⟨its2, rv2, p2, _⟩ := I.list hy
    obtain ⟨u, hu, ru⟩ := rv.get ex
    obtain ⟨u2, hu2, ru2⟩ := rv2.get ey
    have z1 : i < its.toArray.size := by simpa using (List.getElem?_eq_some_iff.mp hu).1
    have z2 : i < its2.toArray.size := by simpa using (List.getElem?_eq_some_iff.mp hu2).1
    refine wpAny_pyNext_zipD2_item S (Draws.tuple (A := X.A.in1) (I.ok.hd hc) i1 a D.l1i1 its.toArray) (Draws.list (A := X.A.in1) (I.ok.hd hc) i2 b D.l2i2 its2.toArray) g1 g2 g3 ⟨g4, p⟩ ⟨g5, p2.isList⟩ z1 z2 ?_
    intro v1 v2 h' tk w1 w2 k1 k2 k3 k4 k5 k6 k7
    have q1 : v1 = u := by simpa [hu] using w1.symm
    have q2 : v2 = u2 := by simpa [hu2] using w2.symm
    subst q1 q2
    have zlt : z < s.heap.objs.size := Heap.lt_size g1
    refine ⟨_, rfl, wpAny_letOwnedTupleGo_zip (s := { s with heap := h', toks := tk }) k1 fun h2 m1 sb => ?_⟩
    have hT : h2.get? s.heap.objs.size = some _ := (sb.2 _ (Nat.ne_of_gt zlt)).trans k5
    have J : Inv X pins σ (upd H s.heap.objs.size (.tup [x, y])) { s with heap := h2, toks := tk } := I.turnedNew (ch := [z, TI, TO, i1, i2])
      (fun c o hb q => (sb.2 c (fun e => hb (by simp [e]))).trans (k7 c o (fun e => hb (by simp [e])) (fun e => hb (by simp [e])) (fun e => hb (by simp [e])) (fun e => hb (by simp [e])) q)) hf (Nat.le_refl _)
      ⟨by show 2 ≤ sizeLine; decide, [v1, v2], .cons ru (.cons ru2 .nil), ⟨_, hT, rfl, _, rfl⟩⟩
    refine ⟨.ref s.heap.objs.size, _, J, rfl, ⟨s.heap.objs.size, x, y, rfl, I.hok.fresh (Nat.le_refl _), rfl, fun l hl => by rw [I.tuple_inj hl hx]; exact ex, fun l hl => by rw [I.list_inj hl hy]; exact ey⟩, ⟨⟨m1, ?_⟩, ⟨v1, v2, (sb.2 _ D.TOz).trans k2⟩, k3.1.at fun o q => (sb.2 _ D.i1z).trans q, k4.1.at fun o q => (sb.2 _ D.i2z).trans q⟩, fun c hcm => ?_⟩
    · exact (sb.2 _ D.TIz).trans (k7 _ _ D.TIz D.TITO D.TIi1 D.TIi2 g2)
    · have lt : c < s.heap.objs.size := by
        rcases mem5 hcm with e | e | e | e | e
        · rw [e]; exact zlt
        · rw [e]; exact Heap.lt_size g2
        · rw [e]; exact Heap.lt_size g3
        · rw [e]; obtain ⟨_, q, _⟩ := g4; exact Heap.lt_size q
        · rw [e]; obtain ⟨_, q, _⟩ := g5; exact Heap.lt_size q
      rw [upd_ne (Nat.ne_of_lt lt)]
      exact (hf c hcm).1
  · rintro X rfl rfl rfl hc i pins s σ H E I hf ⟨⟨g1, g2⟩, ⟨x0, y0, g3⟩, g4, g5⟩ ⟨xs, ys, hx, hy, l1, l2, l3⟩
    obtain ⟨its, rv, p, _⟩ := I.tuple hx
    obtain ⟨its2, rv2, p2, _⟩ := I.list hy
    have e1 : its.toArray.size = xs.length := by simp [rv.length]
    have e2 : its2.toArray.size = ys.length := by simp [rv2.length]
    refine wpAny_pyNext_zipD2_end S (Draws.tuple (A := X.A.in1) (I.ok.hd hc) i1 a D.l1i1 its.toArray) (Draws.list (A := X.A.in1) (I.ok.hd hc) i2 b D.l2i2 its2.toArray) g1 g2 g3 ⟨g4, p⟩ ⟨g5, p2.isList⟩ (by omega) (by omega) (by omega) fun h' tk k => ⟨rfl, ?_⟩
    exact I.turnedL (ch := [z, TI, TO, i1, i2]) (fun c o hb q => k c o (fun e => hb (by simp [e])) (fun e => hb (by simp [e])) (fun e => hb (by simp [e])) (fun e => hb (by simp [e])) q) hf
/-- zip(t, xs), t a tuple, xs a list or a tuple -/
def iZipT (K : PySem.W.Frag) (ta : TA) : TI := fun σ H R => ta σ H fun vs H1 => ∃ (a b : Addr) (xs ys : List V), vs = [.ref a, .ref b] ∧ SqT K H1 a xs ∧ ((SqL K H1 b ys ∧ R (ItzTL K a b) H1) ∨ (SqT K H1 b ys ∧ R (RZ.ItzT K a b) H1))
theorem five_fresh {X : Cx} {pins : List (Addr × Obj)} {σ : L2.St} {H : Hp} {s : Shared} (I : Inv X pins σ H s) : ∀ c ∈ [s.heap.objs.size + 4, s.heap.objs.size + 2, s.heap.objs.size + 3, s.heap.objs.size, s.heap.objs.size + 1], FpOk X pins H c := fun c hc => by
  have le : s.heap.objs.size ≤ c := by
    rcases mem5 hc with e | e | e | e | e <;> rw [e] <;> first | exact Nat.le_refl _ | exact Nat.le_add_right _ _
  exact I.fpOk le (I.hok.fresh le)
theorem pi_zipTX {X : Cx} {e e2 : Expr} {ta : TA} {p pos tpos : Pos} {elts : List Expr} {kk : Nat} (hg : Gl X "zip") (hm : X.mg "zip" = none) (ha : PA X [e, e2] ta)
    (hs : starEach [e, e2] X.env = (false, eval e X.env) :: starEach [e2] X.env := by rfl) (hpl : (backTo pos (starEach [e2] X.env)).any (·.1) = false := by rfl) : PI X (.Tuple elts kk tpos) (.Call (.Name "zip" p) [e, e2] [] pos) (iZipT X.K ta) := by
  constructor
  intro pins s σ H R I h
  refine Call_ (ld_blt I hg hm PyProof.Rows.boot_zip (PyProof.Rows.callWith_type1 (thn (ha.run pos pins s σ H _ I h) fun us s1 hh => ?_) hs hpl))
  obtain ⟨vs, H1, J, r1, a, b, xs, ys, ev, hx, q1⟩ := hh
  subst ev
  obtain ⟨v1, v2, rfl, z1, z2⟩ := vals2 r1
  obtain rfl : v1 = Value.ref a := z1
  obtain rfl : v2 = Value.ref b := z2
  obtain ⟨its, rv, pa, _⟩ := J.tuple hx
  have lta : a < s1.heap.objs.size := by obtain ⟨_, z, _⟩ := id pa; exact Heap.lt_size z
  rcases q1 with ⟨hy, q⟩ | ⟨hy, q⟩
  · obtain ⟨its2, rv2, pb, _⟩ := J.list hy
    refine call_zipTL pa pb.isList fun h' n en k1 k2 k3 k4 k5 kk' => wpAny_pyIter_zip k1 ?_
    subst en
    exact ⟨_, _, _, _, H1, rfl, J.kept (t' := s1.toks) kk', turn_zipTL (PySem.W.ktu_apart s1.heap.objs.size a b lta pb.lt), ⟨⟨k1, k2⟩, ⟨_, _, k3⟩, k4, k5⟩, five_fresh J, q⟩
  · obtain ⟨its2, rv2, pb, _⟩ := J.tuple hy
    have ltb : b < s1.heap.objs.size := by obtain ⟨_, z, _⟩ := id pb; exact Heap.lt_size z
    refine RZ.call_zipT pa pb fun h' k1 k2 k3 k4 k5 _ kk' => wpAny_pyIter_zip k1 ?_
    exact ⟨_, _, _, _, H1, rfl, J.kept (t' := s1.toks) kk', RZ.turn_zipT (PySem.W.ktu_apart s1.heap.objs.size a b lta ltb), ⟨k1, k2, ⟨_, _, k3⟩, k4, k5⟩, five_fresh J, q⟩
/-! ### enumerate of a tuple -/
abbrev eA (h : Heap) (a : Addr) : Heap := h.push ⟨.type "tuple_iterator", none, .fields #[.ref a, .int 0 0], #[]⟩
theorem meets_enumT (a : Addr) (xs : Array Value) : Meets (Builtin.«enumerate.__new__» ⟨[.type "enumerate", .ref a], []⟩) (fun _ R s => s.heap.IsTuple a xs ∧
      R (.ok (.ret (.ref (eA s.heap a).objs.size))) { s with heap := (eA s.heap a).push ⟨.type "enumerate", none, .fields #[.none, .bool false, .ref s.heap.objs.size, rawInt 0, .none, .none], #[]⟩ }) :=
  .of_wp fun prog w A R s h => by
    obtain ⟨hp, g, dr, tk, os⟩ := s
    obtain ⟨ha, h⟩ := h
    have hsub := sub_enumerate
    have LA : Heap.IsTuple (Shared.heap ⟨hp, g, dr, tk, os⟩) a xs := ha
    obtain ⟨oa, ga, ca, na, da⟩ := id LA
    wp_walk using AutoSeq1.wpAny_loadPart' ga
    refine wpAny_stack_any fun st => wpAny_pure ?_
    split
    · rename_i c _ _ _ _ _
      cases (c == Value.type "enumerate")
      all_goals
        wp_walk using AutoSeq1.wpAny_loadPart' ga, wpAny_pyIter_tuple LA
        exact ⟨_, rfl, h⟩
    · wp_walk using AutoSeq1.wpAny_loadPart' ga, wpAny_pyIter_tuple LA
      exact ⟨_, rfl, h⟩
section
variable {prog : Program} {w : World} {A : Around} {E : Value → Shared → Prop} {s : Shared}
theorem call_enumT {a : Addr} {xs : Array Value} {Q : Value → Shared → Prop} (ha : s.heap.IsTuple a xs)
    (h : ∀ (h' : Heap) (n : Nat), n = s.heap.objs.size → IsEnum h' (n + 1) n 0 .none → h'.IsTupleIter n a 0 → (∀ c o, s.heap.get? c = some o → h'.get? c = some o) → Q (.ref (n + 1)) { s with heap := h' }) : wpAny (model prog w) A (call (.type "enumerate") [.ref a]) Q E s := by
  refine callType_new F.called_enumerate (by decide) (F.typeCall_enumerate_1 _) (F.newCall_enumerate_1 _) (fun obj => F.args_object_init_2 obj _) F.entry_enumerate_new (meets_enumT a xs) ⟨ha, ?_⟩
  have n1 : (eA s.heap a).objs.size = s.heap.objs.size + 1 := Heap.size_push ..
  have o2 := Heap.get?_push_size (eA s.heap a) (o := ⟨.type "enumerate", none, .fields #[.none, .bool false, .ref s.heap.objs.size, rawInt 0, .none, .none], #[]⟩) rfl
  have o1 := Heap.get?_push_of_some (h := eA s.heap a) ⟨.type "enumerate", none, .fields #[.none, .bool false, .ref s.heap.objs.size, rawInt 0, .none, .none], #[]⟩ (Heap.get?_push_size s.heap (o := ⟨.type "tuple_iterator", none, .fields #[.ref a, .int 0 0], #[]⟩) rfl)
  show _ ∧ _
  rw [n1] at o2 ⊢
  exact ⟨⟨_, o2, rfl⟩, h _ _ rfl o2 ⟨_, o1, rfl, rfl⟩ fun c o z => Heap.get?_push_of_some _ (Heap.get?_push_of_some _ z)⟩
end
/-- the tuple at a, each item in a new pair -/
def IteT (K : PySem.W.Frag) (a : Addr) : It :=
  ⟨fun i H => ∃ (xs : List V) (x : V), SqT K H a xs ∧ xs[i]? = some x, fun i H v H' => ∃ (T : Addr) (x : V), v = .ref T ∧ H T = none ∧ H' = upd H T (.tup [.int (i : Nat), x]) ∧ (∀ xs, SqT K H a xs → xs[i]? = some x), fun i H => ∃ xs : List V, SqT K H a xs ∧ xs.length = i⟩
theorem mem2 {c a1 a2 : Addr} (h : c ∈ [a1, a2]) : c = a1 ∨ c = a2 := by simpa using h
theorem turn_enumT {P : Program} {w : World} {K : PySem.W.Frag} {elts : List Expr} {kk : Nat} {tpos : Pos} {a e it : Addr} (hai : a ≠ it) (hei : e ≠ it) (hea : e ≠ a) :
    Turn P w K (.Tuple elts kk tpos) (IteT K a) [e, it] e (fun i h => (∃ old, IsEnum h e it ((i : Nat) : Int) old) ∧ h.IsTupleIter it a i) := by
  refine ⟨by simp, ?_, ?_, ?_, ?_, fun A i s Q E st h => by obtain ⟨⟨_, g⟩, _⟩ := st; exact wpAny_pyIter_enum g h⟩
  · rintro i h ⟨⟨old, g1⟩, ⟨p1, q1, _, r1⟩⟩ c hc
    rcases mem2 hc with rfl | rfl
    · exact ⟨_, g1, fun v z => nomatch z⟩
    · exact ⟨p1, q1, fun v z => by rw [r1] at z; cases z⟩
  · rintro i h h' ⟨⟨old, g1⟩, g2⟩ k
    exact ⟨⟨old, k e (by simp) _ g1⟩, g2.at fun o q => k it (by simp) o q⟩
  · rintro X rfl rfl rfl hc i pins s σ H E I hf ⟨⟨old, g1⟩, g2⟩ ⟨xs, x, hx, ex⟩
    obtain ⟨its, rv, p, _⟩ := I.tuple hx
    obtain ⟨u, hu, ru⟩ := rv.get ex
    have z1 : i < its.toArray.size := by simpa using (List.getElem?_eq_some_iff.mp hu).1
    refine wpAny_pyNext_enum_itemD (Draws.tuple (A := X.A.in1) (I.ok.hd hc) it a hai its.toArray) g1 ⟨g2, p⟩ z1 hei (by simp [hei, hea]) ?_
    intro v h' tk w1 k1 k2 k3 k4 k5
    have q1 : v = u := by simpa [hu] using w1.symm
    subst q1
    have elt : e < s.heap.objs.size := Heap.lt_size g1
    refine ⟨_, rfl, wpAny_letOwnedTupleGo_enum (s := { s with heap := h', toks := tk + 1 }) k1 fun h2 m1 sb => ?_⟩
    have hT : h2.get? s.heap.objs.size = some _ := (sb.2 _ (Nat.ne_of_gt elt)).trans k3
    have J : Inv X pins σ (upd H s.heap.objs.size (.tup [.int (i : Nat), x])) { s with heap := h2, toks := tk + 1 } := I.turnedNew (ch := [e, it])
      (fun c o hb q => (sb.2 c (fun z => hb (by simp [z]))).trans (k5 c o (fun z => hb (by simp [z])) (fun z => hb (by simp [z])) q)) hf (Nat.le_refl _)
      ⟨by show 2 ≤ sizeLine; decide, [.int i tk, v], .cons ⟨_, rfl⟩ (.cons ru .nil), ⟨_, hT, rfl, _, rfl⟩⟩
    refine ⟨.ref s.heap.objs.size, _, J, rfl, ⟨s.heap.objs.size, x, rfl, I.hok.fresh (Nat.le_refl _), rfl, fun l hl => by rw [I.tuple_inj hl hx]; exact ex⟩, ⟨⟨v, ?_⟩, k2.1.at fun o q => (sb.2 _ hei.symm).trans q⟩, fun c hcm => ?_⟩
    · rw [show ((i + 1 : Nat) : Int) = (i : Int) + 1 by omega]
      exact m1
    · have lt : c < s.heap.objs.size := by
        rcases mem2 hcm with z | z
        · rw [z]; exact elt
        · rw [z]; obtain ⟨_, q, _⟩ := g2; exact Heap.lt_size q
      rw [upd_ne (Nat.ne_of_lt lt)]
      exact (hf c hcm).1
  · rintro X rfl rfl rfl hc i pins s σ H E I hf ⟨⟨old, g1⟩, g2⟩ ⟨xs, hx, el⟩
    obtain ⟨its, rv, p, _⟩ := I.tuple hx
    have e1 : its.toArray.size = i := by simp [← rv.length, el]
    subst e1
    refine wpAny_pyNext_enum_endD (Draws.tuple (A := X.A.in1) (I.ok.hd hc) it a hai its.toArray) g1 ⟨g2, p⟩ fun h' k => ⟨rfl, ?_⟩
    exact I.turnedL (t' := s.toks) (ch := [e, it]) (fun c o hb q => k c o (fun z => hb (by simp [z])) q) hf
/-- enumerate(xs), xs a list or a tuple -/
def iEnumX (K : PySem.W.Frag) (ta : TA) : TI := fun σ H R => ta σ H fun vs H1 => ∃ (a : Addr) (xs : List V), vs = [.ref a] ∧ ((SqL K H1 a xs ∧ R (Ite K a) H1) ∨ (SqT K H1 a xs ∧ R (IteT K a) H1))
theorem pi_enumX {X : Cx} {e : Expr} {ta : TA} {p pos tpos : Pos} {elts : List Expr} {kk : Nat} (hg : Gl X "enumerate") (hm : X.mg "enumerate" = none) (ha : PA X [e] ta) (hs : starEach [e] X.env = [(false, eval e X.env)] := by rfl) :
    PI X (.Tuple elts kk tpos) (.Call (.Name "enumerate" p) [e] [] pos) (iEnumX X.K ta) := by
  constructor
  intro pins s σ H R I h
  refine Call_ (ld_blt I hg hm boot_enumerate (PyProof.Rows.callWith_type1 (thn (ha.run pos pins s σ H _ I h) fun us s1 hh => ?_) hs rfl))
  obtain ⟨vs, H1, J, r1, a, xs, ev, q1⟩ := hh
  subst ev
  obtain ⟨v1, rfl, z1⟩ := vals1 r1
  obtain rfl : v1 = Value.ref a := z1
  have fresh : ∀ c ∈ [s1.heap.objs.size + 1, s1.heap.objs.size], FpOk X pins H1 c := fun c hc => by
    have le : s1.heap.objs.size ≤ c := by
      rcases mem2 hc with z | z <;> rw [z] <;> first | exact Nat.le_refl _ | exact Nat.le_add_right _ _
    exact J.fpOk le (J.hok.fresh le)
  rcases q1 with ⟨hx, q⟩ | ⟨hx, q⟩
  · obtain ⟨its, rv, pb, _⟩ := J.list hx
    refine call_enumerate_list pb.isList fun h' k1 k2 _ kk' => wpAny_pyIter_enum k1 ?_
    exact ⟨_, _, _, _, H1, rfl, J.kept (t' := s1.toks) kk', turn_enum a (s1.heap.objs.size + 1) s1.heap.objs.size, ⟨⟨.none, k1⟩, k2, Nat.succ_ne_self _⟩, fresh, q⟩
  · obtain ⟨its, rv, pb, _⟩ := J.tuple hx
    have lt : a < s1.heap.objs.size := by obtain ⟨_, z, _⟩ := id pb; exact Heap.lt_size z
    refine call_enumT pb fun h' n en k1 k2 kk' => wpAny_pyIter_enum k1 ?_
    subst en
    exact ⟨_, _, _, _, H1, rfl, J.kept (t' := s1.toks) kk', turn_enumT (Nat.ne_of_lt lt) (Nat.succ_ne_self _) (Nat.ne_of_gt (Nat.lt_succ_of_lt lt)), ⟨⟨.none, k1⟩, k2⟩, fresh, q⟩
/-- a loop over enumerate of a tuple -/
theorem for_enumT {K : PySem.W.Frag} {a : Addr} {xs : List V} {g : TG} {tb : TS} {D : Ends} {σ : L2.St} {H : Hp} (Pv : Nat → L2.St → Hp → Prop) (h0 : Pv 0 σ H) (hq : ∀ i σ H, Pv i σ H → SqT K H a xs)
    (hs : ∀ (i : Nat) (x : V) (T : Addr) (σ : L2.St) (H : Hp), xs[i]? = some x → Pv i σ H → H T = none → g (.ref T) σ (upd H T (.tup [.int (i : Nat), x])) fun σ2 H2 => tb { D with nx := Pv (i + 1), ct := Pv (i + 1), bk := D.nx } σ2 H2) (hd : ∀ σ H, Pv xs.length σ H → D.nx σ H) :
    ∃ W : Nat → Nat → L2.St → Hp → Prop, (∃ m, W 0 m σ H) ∧ ∀ i m σ H, W i m σ H →
      ((IteT K a).stop i H ∧ D.nx σ H) ∨ ((IteT K a).go i H ∧ ∃ N : L2.St → Hp → Prop, (∀ σ' H', N σ' H' → ∃ m', m' < m ∧ W (i + 1) m' σ' H') ∧ ∀ v H', (IteT K a).yld i H v H' → g v σ H' fun σ2 H2 => tb { D with nx := N, ct := N, bk := D.nx } σ2 H2) := by
  refine ⟨fun i m σ H => m = xs.length - i ∧ i ≤ xs.length ∧ Pv i σ H, ⟨_, rfl, Nat.zero_le _, h0⟩, ?_⟩
  rintro i m σ H ⟨rfl, hi, p⟩
  have qx := hq i σ H p
  by_cases hlt : i < xs.length
  · refine .inr ⟨⟨xs, _, qx, List.getElem?_eq_getElem hlt⟩, Pv (i + 1), fun σ' H' p' => ⟨_, (by omega : xs.length - (i + 1) < xs.length - i), rfl, hlt, p'⟩, ?_⟩
    rintro v H' ⟨T, x', rfl, hT, rfl, f1⟩
    exact hs i x' T σ H (f1 xs qx) p hT
  · have e : i = xs.length := by omega
    subst e
    exact .inl ⟨⟨xs, qx, rfl⟩, hd σ H p⟩
/-- a comprehension over zip of a tuple and a list of three, or of two tuples: what each item is -/
theorem lc_zipG {J : It} {D : Addr} {n : Nat} {g : TG} {te : TE} {sl : List Nat} {σ : L2.St} {H1 : Hp} {Qd : Hp → Prop} (xs ys : List V) (G : Hp → Prop) (Pv : Nat → Hp → Prop) (hG : ∀ i H, Pv i H → G H)
    (goes : ∀ i H, G H → i < n → J.go i H) (stops : ∀ H, G H → J.stop n H) (yields : ∀ i H v H', G H → i < n → J.yld i H v H' → ∃ (T : Addr) (x y : V), v = .ref T ∧ H T = none ∧ H' = upd H T (.tup [x, y]) ∧ xs[i]? = some x ∧ ys[i]? = some y)
    (h0 : Pv 0 (upd H1 D (.lst [])))
    (hs : ∀ (i : Nat) (x y : V) (T : Addr) (H : Hp), i < n → xs[i]? = some x → ys[i]? = some y → Pv i H → H T = none → g (.ref T) (wipe σ sl) (upd H T (.tup [x, y])) fun σ2 H2 => wipe σ2 sl = wipe σ sl ∧ te σ2 H2 fun z H4 => ∃ acc, H4 D = some (.lst acc) ∧ acc.length < sizeLine ∧ Pv (i + 1) (upd H4 D (.lst (acc ++ [z]))))
    (hd : ∀ H, Pv n H → Qd H) :
    ∃ W : Nat → Nat → Hp → Prop, (∃ m, W 0 m (upd H1 D (.lst []))) ∧ ∀ i m H, W i m H → (J.stop i H ∧ Qd H) ∨
      (J.go i H ∧ ∃ Nx : Hp → Prop, (∀ H', Nx H' → ∃ m', m' < m ∧ W (i + 1) m' H') ∧ ∀ x H', J.yld i H x H' → g x (wipe σ sl) H' fun σ2 H2 => wipe σ2 sl = wipe σ sl ∧ tYes σ2 H2 fun b H3 =>
      if b = true then te σ2 H3 fun y H4 => ∃ acc, H4 D = some (.lst acc) ∧ acc.length < sizeLine ∧ Nx (upd H4 D (.lst (acc ++ [y]))) else Nx H3) := by
  refine ⟨fun i m H => m = n - i ∧ i ≤ n ∧ Pv i H, ⟨_, rfl, Nat.zero_le _, h0⟩, ?_⟩
  rintro i m H ⟨rfl, hi, p⟩
  by_cases hlt : i < n
  · refine .inr ⟨goes i H (hG i H p) hlt, Pv (i + 1), fun H' p' => ⟨_, (by omega : n - (i + 1) < n - i), rfl, hlt, p'⟩, fun v H' yd => ?_⟩
    obtain ⟨T, x, y, rfl, hT, rfl, ex, ey⟩ := yields i H v H' (hG i H p) hlt yd
    exact hs i x y T H hlt ex ey p hT
  · have e : i = n := by omega
    subst e
    exact .inl ⟨stops H (hG _ H p), hd H p⟩
end L2

set_option Elab.async false
set_option linter.all false
set_option maxRecDepth 100000
set_option maxHeartbeats 2000000
namespace Fo
open PySem L2
/-! ### the text by places -/
def top (i : Nat) : Stmt := PySem.Challenge.pw_filledonce_k72_values.main.body.getD i (.Pass ⟨0, 0, 0, 0⟩)
abbrev sWhole : Stmt := top 7
abbrev sInit : Stmt := inClass (top 10) 0
abbrev sAdd : Stmt := inClass (top 10) 3
abbrev sSub : Stmt := inClass (top 10) 5
abbrev sCross : Stmt := inClass (top 10) 9
abbrev sMul : Stmt := inClass (top 10) 7
abbrev sEq : Stmt := inClass (top 10) 2
abbrev sPairM : Stmt := inClass (top 10) 10
abbrev sIsPoint : Stmt := top 11
abbrev sAsPoint : Stmt := top 12
abbrev sOperand : Stmt := top 13
abbrev sSide : Stmt := top 14
/-! ### data -/
theorem xy_ : ¬ (("x" : Str) = "y") := by decide +kernel
theorem yx_ : ¬ (("y" : Str) = "x") := by decide +kernel
def ptF (x y : Int) : List (Str × V) := putF "y" (.int y) (putF "x" (.int x) [])
theorem ptF_x (x y : Int) : (ptF x y).lookup ("x" : Str) = some (.int x) := by
  unfold ptF
  rw [lookup_putF, if_neg xy_, lookup_putF, if_pos rfl]
theorem ptF_y (x y : Int) : (ptF x y).lookup ("y" : Str) = some (.int y) := by
  unfold ptF
  rw [lookup_putF, if_pos rfl]
theorem ptF_no (x y : Int) {m : Str} (h1 : ¬ m = "y") (h2 : ¬ m = "x") : (ptF x y).lookup m = none := by
  unfold ptF
  rw [lookup_putF, if_neg h1, lookup_putF, if_neg h2]
  all_goals rfl
/-- an instance of Point with these numbers -/
def IsP (C : Addr) (v : V) (x y : Int) (H : Hp) : Prop := ∃ a dx, v = .ref a ∧ H a = some (.ins C dx (ptF x y))
/-- it, or a pair that stands for it -/
def IsPt (C : Addr) (v : V) (x y : Int) (H : Hp) : Prop := ∃ a, v = .ref a ∧ ((∃ dx, H a = some (.ins C dx (ptF x y))) ∨ H a = some (.tup [.int x, .int y]))
theorem IsP.ex {C : Addr} {v : V} {x y : Int} {H H' : Hp} (e : Same H H') (h : IsP C v x y H) : IsP C v x y H' := by
  obtain ⟨a, dx, rfl, h⟩ := h
  exact ⟨a, dx, rfl, e _ _ h⟩
theorem IsPt.ex {C : Addr} {v : V} {x y : Int} {H H' : Hp} (e : Same H H') (h : IsPt C v x y H) : IsPt C v x y H' := by
  obtain ⟨a, rfl, h⟩ := h
  rcases h with ⟨dx, h⟩ | h
  · exact ⟨a, rfl, .inl ⟨dx, e _ _ h⟩⟩
  · exact ⟨a, rfl, .inr (e _ _ h)⟩
theorem IsP.pt {C : Addr} {v : V} {x y : Int} {H : Hp} (h : IsP C v x y H) : IsPt C v x y H := by
  obtain ⟨a, dx, rfl, h⟩ := h
  exact ⟨a, rfl, .inl ⟨dx, h⟩⟩
theorem same_new {H : Hp} {p : Addr} {o : HO} (h : H p = none) : Same H (upd H p o) := fun a u e => by
  rw [upd_ne (ne_of_none e h)]
  exact e
def Sm (n : Nat) (x : Int) : Prop := x.natAbs < 2 ^ n
theorem Sm.mul {n : Nat} {x y : Int} (hx : Sm n x) (hy : Sm n y) (h0 : 0 < n) (h1 : n ≤ 1000) : CMulW x y := wide_mul hx hy h0 h0 (by omega)
theorem Sm.sub {n : Nat} {x y : Int} (hx : Sm n x) (hy : Sm n y) : Sm (n + 1) (x - y) := by
  unfold Sm at *
  rw [Nat.pow_succ]
  omega
theorem Sm.up {n m : Nat} {x : Int} (hx : Sm n x) (h : n ≤ m) : Sm m x := Nat.lt_of_lt_of_le hx (Nat.pow_le_pow_right (by decide) h)
/-! ### promises -/
def spWhole : Sp := fun vs H Q _ => ∃ i : Int, vs = [.int i] ∧ Q (.bl true) H
def spInit (C : Addr) : Sp := fun vs H Q _ => ∃ (p dx : Addr) (x y : Int), vs = [.ref p, .int x, .int y] ∧ H p = some (.ins C dx []) ∧ Q .non (upd (upd H p (.ins C dx (putF "x" (.int x) []))) p (.ins C dx (ptF x y)))
def spIsPoint (C : Addr) : Sp := fun vs H Q _ => ∃ (v : V) (x y : Int), vs = [v] ∧ IsPt C v x y H ∧ Q (.bl true) H
def spAsPoint (C : Addr) : Sp := fun vs H Q _ => ∃ (v : V) (x y : Int), vs = [v] ∧ IsPt C v x y H ∧ ∀ w H', Same H H' → IsP C w x y H' → (IsP C v x y H → w = v) → Q w H'
def spBin (C : Addr) (g : Int → Int → Int) : Sp := fun vs H Q _ => ∃ (v u : V) (x y z t : Int), vs = [v, u] ∧ IsP C v x y H ∧ IsPt C u z t H ∧ ∀ w H', Same H H' → IsP C w (g x z) (g y t) H' → Q w H'
def spCross (C : Addr) : Sp := fun vs H Q _ => ∃ (n : Nat) (v u : V) (x y z t : Int), vs = [v, u] ∧ IsP C v x y H ∧ IsPt C u z t H ∧ 0 < n ∧ n ≤ 1000 ∧ Sm n x ∧ Sm n y ∧ Sm n z ∧ Sm n t ∧ ∀ H', Same H H' → Q (.int (x * t - y * z)) H'
def sideI (ax ay bx by' px py : Int) : Int := (bx - ax) * (py - ay) - (by' - ay) * (px - ax)
def spSide (C : Addr) : Sp := fun vs H Q _ => ∃ (n : Nat) (a b p : V) (ax ay bx by' px py : Int), vs = [a, b, p] ∧ IsPt C a ax ay H ∧ IsPt C b bx by' H ∧ IsPt C p px py H ∧ n < 1000 ∧
  Sm n ax ∧ Sm n ay ∧ Sm n bx ∧ Sm n by' ∧ Sm n px ∧ Sm n py ∧ ∀ H', Same H H' → Q (.int (sideI ax ay bx by' px py)) H'
def spQuarter (C : Addr) : Sp := fun vs H Q _ => ∃ (v : V) (x y : Int), vs = [v] ∧ IsPt C v x y H ∧ ∀ w H', Same H H' → IsP C w (-y) x H' → Q w H'
/-- what the top has written of Point -/
structure Txt (K : PySem.W.Frag) (mg : Str → Option Value) (C : Addr) : Prop where
  cl : Cls K C
  nX : NoAttr K C "x"
  nY : NoAttr K C "y"
  mgC : mg "Point" = some (.ref C)
  isi : mg "isinstance" = none
  len : mg "len" = none
  int : mg "int" = none
  bool : mg "bool" = none
  tuple : mg "tuple" = none
  ha : PySem.W.findIn K (.ref C) "__class__" = some (some (.builtin "object.__class__"))
  hn : PySem.W.specialIn K (.builtin "object.__class__") "__get__" = some (some (.builtin "getset_descriptor.__get__"))
  htk : PySem.W.takesIn K (.builtin "object.__class__") = some true
  hm : PySem.W.mroIn K C (.type "object") = some true
  kTC : PySem.W.kitOne K (.type "tuple") (.ref C) = some false
  kCC : PySem.W.kitOne K (.ref C) (.ref C) = some true
section
variable {P : Program} {w : World} {K : PySem.W.Frag} {mg : Str → Option Value} {base : Heap}
theorem scWhole : FnScope ["value"] ["value"] (defScope sWhole) := ⟨rfl, rfl, rfl, by decide +kernel, rfl, by decide +kernel, by decide +kernel⟩
theorem ok_whole {f C : Addr} {fd : FuncData} (F : Fun K "is_whole" "is_whole" sWhole f fd) (T : Txt K mg C) : FnOk P w K mg base CX0 1 f fd ["value"] spWhole := by
  refine F.ok scWhole (fun vs H Q E h => ?_) (fun cdv A outer s H vs Q E hr h => ?_)
  · obtain ⟨i, rfl, _⟩ := h
    rfl
  · obtain ⟨i, rfl, k⟩ := h
    refine ⟨_, pss_one (ps_ret (pe_and (pe_callB call_isi (by rfl) T.isi (by decide +kernel) (pa_cons (pv 0) (pa_cons (pe_bltn (v := .ty "int") (by rfl) T.int (by decide +kernel) rfl) pa_nil)))
      (pe_one (pe_not (pe_callB call_isi (by rfl) T.isi (by decide +kernel) (pa_cons (pv 0) (pa_cons (pe_bltn (v := .ty "bool") (by rfl) T.bool (by decide +kernel) rfl) pa_nil))))))), ?_⟩
    refine ⟨_, rfl, _, _, _, _, true, rfl, .ty _, .base (.int i), kit_ty (by decide +kernel), true, rfl, ?_⟩
    refine iteT ?_
    exact ⟨_, rfl, _, _, _, _, false, rfl, .ty _, .base (.int i), kit_ty (by decide +kernel), false, rfl, k⟩

theorem scInit : FnScope ["self", "x", "y"] ["self", "x", "y"] (defScope sInit) := ⟨rfl, rfl, rfl, by decide +kernel, rfl, by decide +kernel, by decide +kernel⟩
theorem ok_init {f C fW : Addr} {fd fdW : FuncData} (F : Fun K "__init__" "Point.__init__" sInit f fd) (T : Txt K mg C) (FW : Fun K "is_whole" "is_whole" sWhole fW fdW) (bW : Binds K fdW ["value"] []) (mW : mg "is_whole" = some (.ref fW)) :
    FnOk P w K mg base CX0 2 f fd ["self", "x", "y"] (spInit C) := by
  have GW : FnOk P w K mg base CX0 1 fW fdW ["value"] spWhole := ok_whole FW T
  refine F.ok scInit (fun vs H Q E h => ?_) (fun cdv A outer s H vs Q E hr h => ?_)
  · obtain ⟨p, dx, x, y, rfl, _⟩ := h
    rfl
  · obtain ⟨p, dx, x, y, rfl, hp, k⟩ := h
    refine ⟨_, pss_cons (ps_if (PW.pt (pw_or (pt_not (pt_val (pe_call GW hr rfl mW FW.kp bW .nil pass0 (pa_cons (pv 1) pa_nil)))) (pw_or1 (pt_not (pt_val (pe_call GW hr rfl mW FW.kp bW .nil pass0 (pa_cons (pv 2) pa_nil))))))) (pss_one ps_never) pss_nil)
      (pss_cons (ps_fld (pv 0) (pv 1) rfl) (pss_one (ps_fld (pv 0) (pv 2) rfl))), ?_⟩
    refine ⟨_, rfl, x, rfl, true, rfl, ?_⟩
    refine iteF ?_
    refine ⟨_, rfl, y, rfl, true, rfl, ?_⟩
    refine iteF ?_
    refine ⟨_, rfl, _, rfl, p, C, dx, [], rfl, hp, T.cl, T.nX, (by show 0 < 1000; decide), ?_⟩
    refine ⟨_, rfl, _, rfl, p, C, dx, _, rfl, upd_same, T.cl, T.nY, (by show 1 < 1000; decide), ?_⟩
    exact k
theorem ty_ins {C a dx : Addr} {fs : List (Str × V)} {H : Hp} (T : Txt K mg C) (h : H a = some (.ins C dx fs)) : TyX K H (.ref a) (.ref C) := .base (.ins h T.cl T.ha T.hn T.htk T.hm)
theorem scIsPoint : FnScope ["thing"] ["thing"] (defScope sIsPoint) := ⟨rfl, rfl, rfl, by decide +kernel, rfl, by decide +kernel, by decide +kernel⟩
theorem ok_is_point {f C fW : Addr} {fd fdW : FuncData} (F : Fun K "is_point" "is_point" sIsPoint f fd) (T : Txt K mg C) (FW : Fun K "is_whole" "is_whole" sWhole fW fdW) (bW : Binds K fdW ["value"] []) (mW : mg "is_whole" = some (.ref fW)) :
    FnOk P w K mg base CX0 2 f fd ["thing"] (spIsPoint C) := by
  have GW : FnOk P w K mg base CX0 1 fW fdW ["value"] spWhole := ok_whole FW T
  refine F.ok scIsPoint (fun vs H Q E h => ?_) (fun cdv A outer s H vs Q E hr h => ?_)
  · obtain ⟨v, x, y, rfl, _⟩ := h
    rfl
  · obtain ⟨v, x, y, rfl, ⟨a, rfl, hv⟩, k⟩ := h
    refine ⟨_, pss_cons (ps_if (pt_val (pe_callB call_isi (by rfl) T.isi (by decide +kernel) (pa_cons (pv 0) (pa_cons (pe_glob (v := .ref C) rfl T.mgC rfl) pa_nil)))) (pss_one (ps_ret pe_bl)) pss_nil)
      (pss_one (ps_ret (pe_and (pe_callB call_isi (by rfl) T.isi (by decide +kernel) (pa_cons (pv 0) (pa_cons (pe_bltn (v := .ty "tuple") (by rfl) T.tuple (by decide +kernel) rfl) pa_nil)))
        (pe_and (pe_cmpR op_eq (pe_callB call_len_seq (by rfl) T.len PySem.boot_len (pa_cons (pv 0) pa_nil)) pe_int (nomark _))
        (pe_and (pe_call GW hr rfl mW FW.kp bW .nil pass0 (pa_cons (pe_ix ix_tup (pv 0) pe_int (fun _ _ => rfl)) pa_nil))
        (pe_one (pe_call GW hr rfl mW FW.kp bW .nil pass0 (pa_cons (pe_ix ix_tup (pv 0) pe_int (fun _ _ => rfl)) pa_nil)))))))), ?_⟩
    rcases hv with ⟨dx, hv⟩ | hv
    · refine ⟨_, rfl, _, _, _, _, true, rfl, .own C, ty_ins T hv, T.kCC, true, rfl, ?_⟩
      refine iteT ?_
      exact k
    · refine ⟨_, rfl, _, _, _, _, false, rfl, .own C, .base (.tup hv), T.kTC, false, rfl, ?_⟩
      refine iteF ?_
      refine ⟨_, rfl, _, _, _, _, true, rfl, .ty _, .base (.tup hv), kit_ty (by decide +kernel), true, rfl, ?_⟩
      refine iteT ?_
      refine ⟨_, rfl, a, _, rfl, .inr (SqT.of hv), rfl, true, rfl, ?_⟩
      refine iteT ?_
      refine ⟨_, rfl, a, _, _, _, rfl, rfl, SqT.of hv, atI_nat (j := 0) rfl, x, rfl, true, rfl, ?_⟩
      refine iteT ?_
      exact ⟨_, rfl, a, _, _, _, rfl, rfl, SqT.of hv, atI_nat (j := 1) rfl, y, rfl, k⟩

/-- a new Point -/
theorem made_same {C x dx : Addr} {H : Hp} {X Y : Int} (nx : H x = none) (nd : H dx = none) : Same H (upd (upd (upd (upd H dx (.own x)) x (.ins C dx [])) x (.ins C dx (putF "x" (.int X) []))) x (.ins C dx (ptF X Y))) := fun b o e => by
  have n1 : b ≠ x := ne_of_none e nx
  have n2 : b ≠ dx := ne_of_none e nd
  rw [upd_ne n1, upd_ne n1, upd_ne n1, upd_ne n2]
  exact e
theorem made_is {C x dx : Addr} {H : Hp} {X Y : Int} : IsP C (.ref x) X Y (upd (upd (upd (upd H dx (.own x)) x (.ins C dx [])) x (.ins C dx (putF "x" (.int X) []))) x (.ins C dx (ptF X Y))) := ⟨x, dx, rfl, upd_same⟩
/-- Point(a, b) of two numbers: spInit's reading at a new instance -/
theorem make_pt {C : Addr} {H : Hp} {X Y : Int} {Q : VK} {E : XK} (k : ∀ v H', Same H H' → IsP C v X Y H' → Q v H') :
    ∀ x dx, H x = none → H dx = none → dx ≠ x → spInit C (.ref x :: ([.int X, .int Y] ++ [])) (upd (upd H dx (.own x)) x (.ins C dx [])) (fun v H2 => v = .non ∧ Q (.ref x) H2) E := fun x dx nx nd _ =>
  ⟨x, dx, X, Y, rfl, upd_same, rfl, k _ _ (made_same nx nd) made_is⟩
/-- the program's defs that others call, as they stand -/
structure Defs (K : PySem.W.Frag) (mg : Str → Option Value) (C fW fI fP fA fO : Addr) (fdW fdI fdP fdA fdO : FuncData) : Prop where
  T : Txt K mg C
  FW : Fun K "is_whole" "is_whole" sWhole fW fdW
  bW : Binds K fdW ["value"] []
  mW : mg "is_whole" = some (.ref fW)
  M : Mk K C fI
  FI : Fun K "__init__" "Point.__init__" sInit fI fdI
  bI : Binds K fdI ["self", "x", "y"] []
  FP : Fun K "is_point" "is_point" sIsPoint fP fdP
  bP : Binds K fdP ["thing"] []
  mP : mg "is_point" = some (.ref fP)
  FA : Fun K "as_point" "as_point" sAsPoint fA fdA
  bA : Binds K fdA ["thing"] []
  mA : mg "as_point" = some (.ref fA)
  FO : Fun K "operand" "operand" sOperand fO fdO
  bO : Binds K fdO ["thing"] []
  mO : mg "operand" = some (.ref fO)
variable {C fW fI fP fA fO : Addr} {fdW fdI fdP fdA fdO : FuncData}
theorem Defs.GW (D : Defs K mg C fW fI fP fA fO fdW fdI fdP fdA fdO) : FnOk P w K mg base CX0 1 fW fdW ["value"] spWhole := ok_whole D.FW D.T
theorem Defs.GI (D : Defs K mg C fW fI fP fA fO fdW fdI fdP fdA fdO) : FnOk P w K mg base CX0 2 fI fdI ["self", "x", "y"] (spInit C) := ok_init D.FI D.T D.FW D.bW D.mW
theorem Defs.GP (D : Defs K mg C fW fI fP fA fO fdW fdI fdP fdA fdO) : FnOk P w K mg base CX0 2 fP fdP ["thing"] (spIsPoint C) := ok_is_point D.FP D.T D.FW D.bW D.mW
theorem scAsPoint : FnScope ["thing"] ["thing"] (defScope sAsPoint) := ⟨rfl, rfl, rfl, by decide +kernel, rfl, by decide +kernel, by decide +kernel⟩
theorem Defs.GA (D : Defs K mg C fW fI fP fA fO fdW fdI fdP fdA fdO) : FnOk P w K mg base CX0 4 fA fdA ["thing"] (spAsPoint C) := by
  have GP : FnOk P w K mg base CX0 2 fP fdP ["thing"] (spIsPoint C) := D.GP
  have GI : FnOk P w K mg base CX0 2 fI fdI ["self", "x", "y"] (spInit C) := D.GI
  have T := D.T
  refine D.FA.ok scAsPoint (fun vs H Q E h => ?_) (fun cdv A outer s H vs Q E hr h => ?_)
  · obtain ⟨v, x, y, rfl, _⟩ := h
    rfl
  · obtain ⟨v, x, y, rfl, hp, k⟩ := h
    refine ⟨_, pss_cons (ps_if (pt_not (pt_val (pe_call GP (hr.mono (by decide)) rfl D.mP D.FP.kp D.bP .nil pass0 (pa_cons (pv 0) pa_nil)))) (pss_one ps_never) pss_nil)
      (pss_cons (ps_if (pt_val (pe_callB call_isi (by rfl) T.isi (by decide +kernel) (pa_cons (pv 0) (pa_cons (pe_glob (v := .ref C) rfl T.mgC rfl) pa_nil)))) (pss_one (ps_ret (pv 0))) pss_nil)
      (pss_one (ps_ret (pe_make D.M GI hr rfl T.mgC D.bI .nil pass0 (pa_cons (pe_ix ix_tup (pv 0) pe_int (fun _ _ => rfl)) (pa_cons (pe_ix ix_tup (pv 0) pe_int (fun _ _ => rfl)) pa_nil)))))), ?_⟩
    refine ⟨_, rfl, v, x, y, rfl, hp, true, rfl, ?_⟩
    refine iteF ?_
    obtain ⟨a, rfl, hv⟩ := hp
    rcases hv with ⟨dx, hv⟩ | hv
    · refine ⟨_, rfl, _, _, _, _, true, rfl, .own C, ty_ins T hv, T.kCC, true, rfl, ?_⟩
      refine iteT ?_
      exact ⟨_, rfl, k _ _ (Same.refl _) ⟨a, dx, rfl, hv⟩ fun _ => rfl⟩
    · refine ⟨_, rfl, _, _, _, _, false, rfl, .own C, .base (.tup hv), T.kTC, false, rfl, ?_⟩
      refine iteF ?_
      refine ⟨_, rfl, a, _, _, _, rfl, rfl, SqT.of hv, atI_nat (j := 0) rfl, _, rfl, a, _, _, _, rfl, rfl, SqT.of hv, atI_nat (j := 1) rfl, ?_⟩
      refine make_pt fun v H2 e2 h2 => k v H2 e2 h2 fun hp => ?_
      obtain ⟨b, dy, q1, q2⟩ := hp
      cases q1
      rw [hv] at q2
      cases q2
theorem scOperand : FnScope ["thing"] ["thing"] (defScope sOperand) := ⟨rfl, rfl, rfl, by decide +kernel, rfl, by decide +kernel, by decide +kernel⟩
theorem Defs.GO (D : Defs K mg C fW fI fP fA fO fdW fdI fdP fdA fdO) : FnOk P w K mg base CX0 5 fO fdO ["thing"] (spAsPoint C) := by
  have GP : FnOk P w K mg base CX0 2 fP fdP ["thing"] (spIsPoint C) := D.GP
  have GA : FnOk P w K mg base CX0 4 fA fdA ["thing"] (spAsPoint C) := D.GA
  refine D.FO.ok scOperand (fun vs H Q E h => ?_) (fun cdv A outer s H vs Q E hr h => ?_)
  · obtain ⟨v, x, y, rfl, _⟩ := h
    rfl
  · obtain ⟨v, x, y, rfl, hp, k⟩ := h
    refine ⟨_, pss_cons (ps_if (pt_not (pt_val (pe_call GP (hr.mono (by decide)) rfl D.mP D.FP.kp D.bP .nil pass0 (pa_cons (pv 0) pa_nil)))) (pss_one ps_never) pss_nil)
      (pss_one (ps_ret (pe_call GA hr rfl D.mA D.FA.kp D.bA .nil pass0 (pa_cons (pv 0) pa_nil)))), ?_⟩
    refine ⟨_, rfl, v, x, y, rfl, hp, true, rfl, ?_⟩
    refine iteF ?_
    exact ⟨_, rfl, v, x, y, rfl, hp, k⟩
theorem scAdd : FnScope ["self", "other", "by"] ["self", "other"] (defScope sAdd) := ⟨rfl, rfl, rfl, by decide +kernel, rfl, by decide +kernel, by decide +kernel⟩
theorem ok_add {f : Addr} {fd : FuncData} (F : Fun K "__add__" "Point.__add__" sAdd f fd) (D : Defs K mg C fW fI fP fA fO fdW fdI fdP fdA fdO) : FnOk P w K mg base CX0 6 f fd ["self", "other"] (spBin C (· + ·)) := by
  have GO : FnOk P w K mg base CX0 5 fO fdO ["thing"] (spAsPoint C) := D.GO
  have GI : FnOk P w K mg base CX0 2 fI fdI ["self", "x", "y"] (spInit C) := D.GI
  have T := D.T
  refine F.ok scAdd (fun vs H Q E h => ?_) (fun cdv A outer s H vs Q E hr h => ?_)
  · obtain ⟨v, u, x, y, z, t, rfl, _⟩ := h
    rfl
  · obtain ⟨v, u, x, y, z, t, rfl, hv, hu, k⟩ := h
    refine ⟨_, pss_cons (ps_set (i := 2) scAdd.nd rfl (Or.inl rfl) (pe_call GO hr rfl D.mO D.FO.kp D.bO .nil pass0 (pa_cons (pv 1) pa_nil)))
      (pss_one (ps_ret (pe_make D.M GI (hr.mono (by decide)) rfl T.mgC D.bI .nil pass0 (pa_cons (pe_op op_add (pe_fld (pv 0) rfl) (pe_fld (pv 2) rfl)) (pa_cons (pe_op op_add (pe_fld (pv 0) rfl) (pe_fld (pv 2) rfl)) pa_nil))))), ?_⟩
    refine ⟨_, rfl, u, z, t, rfl, hu, fun w H' e hw _ => ?_⟩
    obtain ⟨a, dx, rfl, ha⟩ := hv.ex e
    obtain ⟨b, dy, rfl, hb⟩ := hw
    refine ⟨_, rfl, a, C, dx, _, _, rfl, ha, T.cl, T.nX, ptF_x _ _, _, rfl, b, C, dy, _, _, rfl, hb, T.cl, T.nX, ptF_x _ _, _, _, rfl, rfl, ?_⟩
    refine ⟨_, rfl, a, C, dx, _, _, rfl, ha, T.cl, T.nY, ptF_y _ _, _, rfl, b, C, dy, _, _, rfl, hb, T.cl, T.nY, ptF_y _ _, _, _, rfl, rfl, ?_⟩
    exact make_pt fun v H2 e2 h2 => k v H2 (e.trans e2) h2
theorem scSub : FnScope ["self", "other", "by"] ["self", "other"] (defScope sSub) := ⟨rfl, rfl, rfl, by decide +kernel, rfl, by decide +kernel, by decide +kernel⟩
theorem ok_sub {f : Addr} {fd : FuncData} (F : Fun K "__sub__" "Point.__sub__" sSub f fd) (D : Defs K mg C fW fI fP fA fO fdW fdI fdP fdA fdO) : FnOk P w K mg base CX0 6 f fd ["self", "other"] (spBin C (· - ·)) := by
  have GO : FnOk P w K mg base CX0 5 fO fdO ["thing"] (spAsPoint C) := D.GO
  have GI : FnOk P w K mg base CX0 2 fI fdI ["self", "x", "y"] (spInit C) := D.GI
  have T := D.T
  refine F.ok scSub (fun vs H Q E h => ?_) (fun cdv A outer s H vs Q E hr h => ?_)
  · obtain ⟨v, u, x, y, z, t, rfl, _⟩ := h
    rfl
  · obtain ⟨v, u, x, y, z, t, rfl, hv, hu, k⟩ := h
    refine ⟨_, pss_cons (ps_set (i := 2) scSub.nd rfl (Or.inl rfl) (pe_call GO hr rfl D.mO D.FO.kp D.bO .nil pass0 (pa_cons (pv 1) pa_nil)))
      (pss_one (ps_ret (pe_make D.M GI (hr.mono (by decide)) rfl T.mgC D.bI .nil pass0 (pa_cons (pe_op op_sub (pe_fld (pv 0) rfl) (pe_fld (pv 2) rfl)) (pa_cons (pe_op op_sub (pe_fld (pv 0) rfl) (pe_fld (pv 2) rfl)) pa_nil))))), ?_⟩
    refine ⟨_, rfl, u, z, t, rfl, hu, fun w H' e hw _ => ?_⟩
    obtain ⟨a, dx, rfl, ha⟩ := hv.ex e
    obtain ⟨b, dy, rfl, hb⟩ := hw
    refine ⟨_, rfl, a, C, dx, _, _, rfl, ha, T.cl, T.nX, ptF_x _ _, _, rfl, b, C, dy, _, _, rfl, hb, T.cl, T.nX, ptF_x _ _, _, _, rfl, rfl, ?_⟩
    refine ⟨_, rfl, a, C, dx, _, _, rfl, ha, T.cl, T.nY, ptF_y _ _, _, rfl, b, C, dy, _, _, rfl, hb, T.cl, T.nY, ptF_y _ _, _, _, rfl, rfl, ?_⟩
    exact make_pt fun v H2 e2 h2 => k v H2 (e.trans e2) h2
theorem IsPt.opnd {v : V} {x y : Int} {H : Hp} (h : IsPt C v x y H) : (∃ b dy gs, v = .ref b ∧ H b = some (.ins C dy gs)) ∨ ∃ b xs, v = .ref b ∧ H b = some (.tup xs) := by
  obtain ⟨a, rfl, h⟩ := h
  rcases h with ⟨dx, h⟩ | h
  · exact .inl ⟨a, dx, _, rfl, h⟩
  · exact .inr ⟨a, _, rfl, h⟩
theorem cross_no (x y : Int) : (ptF x y).lookup ("cross" : Str) = none := ptF_no _ _ (by decide +kernel) (by decide +kernel)
theorem scSide : FnScope ["a", "b", "point", "start", "end", "place"] ["a", "b", "point"] (defScope sSide) := ⟨rfl, rfl, rfl, by decide +kernel, rfl, by decide +kernel, by decide +kernel⟩
theorem ok_side {f : Addr} {fd : FuncData} (F : Fun K "side" "side" sSide f fd) (D : Defs K mg C fW fI fP fA fO fdW fdI fdP fdA fdO) : FnOk P w K mg base CX0 7 f fd ["a", "b", "point"] (spSide C) := by
  have GA : FnOk P w K mg base CX0 4 fA fdA ["thing"] (spAsPoint C) := D.GA
  have T := D.T
  refine F.ok scSide (fun vs H Q E h => ?_) (fun cdv A outer s H vs Q E hr h => ?_)
  · obtain ⟨n, a, b, p, ax, ay, bx, by', px, py, rfl, _⟩ := h
    rfl
  · obtain ⟨n, a, b, p, ax, ay, bx, by', px, py, rfl, ha, hb, hp, n1, s1, s2, s3, s4, s5, s6, k⟩ := h
    have hr4 : Room 4 _ := hr.mono (by decide)
    refine ⟨_, pss_cons (ps_set (i := 3) scSide.nd rfl (Or.inl rfl) (pe_call GA hr4 rfl D.mA D.FA.kp D.bA .nil pass0 (pa_cons (pv 0) pa_nil)))
      (pss_cons (ps_set (i := 4) scSide.nd rfl (Or.inl rfl) (pe_call GA hr4 rfl D.mA D.FA.kp D.bA .nil pass0 (pa_cons (pv 1) pa_nil)))
      (pss_cons (ps_set (i := 5) scSide.nd rfl (Or.inl rfl) (pe_call GA hr4 rfl D.mA D.FA.kp D.bA .nil pass0 (pa_cons (pv 2) pa_nil)))
      (pss_one (ps_ret (pe_op op_sub
        (pe_op op_mulW (pe_op op_sub (pe_fld (pv 4) rfl) (pe_fld (pv 3) rfl)) (pe_op op_sub (pe_fld (pv 5) rfl) (pe_fld (pv 3) rfl)))
        (pe_op op_mulW (pe_op op_sub (pe_fld (pv 4) rfl) (pe_fld (pv 3) rfl)) (pe_op op_sub (pe_fld (pv 5) rfl) (pe_fld (pv 3) rfl)))))))), ?_⟩
    refine ⟨_, rfl, a, ax, ay, rfl, ha, fun w1 H1 e1 h1 _ => ?_⟩
    refine ⟨_, rfl, b, bx, by', rfl, hb.ex e1, fun w2 H2 e2 h2 _ => ?_⟩
    refine ⟨_, rfl, p, px, py, rfl, hp.ex (e1.trans e2), fun w3 H3 e3 h3 _ => ?_⟩
    obtain ⟨a1, d1, rfl, z1⟩ := (h1.ex e2).ex e3
    obtain ⟨a2, d2, rfl, z2⟩ := h2.ex e3
    obtain ⟨a3, d3, rfl, z3⟩ := h3
    refine ⟨_, rfl, a2, C, d2, _, _, rfl, z2, T.cl, T.nX, ptF_x _ _, _, rfl, a1, C, d1, _, _, rfl, z1, T.cl, T.nX, ptF_x _ _, _, _, rfl, rfl, ?_⟩
    refine ⟨_, rfl, a3, C, d3, _, _, rfl, z3, T.cl, T.nY, ptF_y _ _, _, rfl, a1, C, d1, _, _, rfl, z1, T.cl, T.nY, ptF_y _ _, _, _, rfl, rfl, ?_⟩
    refine ⟨_, _, rfl, rfl, (s3.sub s1).mul (s6.sub s2) (Nat.succ_pos _) n1, ?_⟩
    refine ⟨_, rfl, a2, C, d2, _, _, rfl, z2, T.cl, T.nY, ptF_y _ _, _, rfl, a1, C, d1, _, _, rfl, z1, T.cl, T.nY, ptF_y _ _, _, _, rfl, rfl, ?_⟩
    refine ⟨_, rfl, a3, C, d3, _, _, rfl, z3, T.cl, T.nX, ptF_x _ _, _, rfl, a1, C, d1, _, _, rfl, z1, T.cl, T.nX, ptF_x _ _, _, _, rfl, rfl, ?_⟩
    refine ⟨_, _, rfl, rfl, (s4.sub s2).mul (s5.sub s1) (Nat.succ_pos _) n1, ?_⟩
    exact ⟨_, _, rfl, rfl, k _ ((e1.trans e2).trans e3)⟩
def spMul (C : Addr) : Sp := fun vs H Q _ => ∃ (v : V) (x y m : Int), vs = [v, .int m] ∧ IsP C v x y H ∧ CMulW x m ∧ CMulW y m ∧ ∀ w H', Same H H' → IsP C w (x * m) (y * m) H' → Q w H'
theorem scMul : FnScope ["self", "other"] ["self", "other"] (defScope sMul) := ⟨rfl, rfl, rfl, by decide +kernel, rfl, by decide +kernel, by decide +kernel⟩
theorem ok_mul {f : Addr} {fd : FuncData} (F : Fun K "__mul__" "Point.__mul__" sMul f fd) (D : Defs K mg C fW fI fP fA fO fdW fdI fdP fdA fdO) : FnOk P w K mg base CX0 4 f fd ["self", "other"] (spMul C) := by
  have GW : FnOk P w K mg base CX0 1 fW fdW ["value"] spWhole := D.GW
  have GI : FnOk P w K mg base CX0 2 fI fdI ["self", "x", "y"] (spInit C) := D.GI
  have T := D.T
  refine F.ok scMul (fun vs H Q E h => ?_) (fun cdv A outer s H vs Q E hr h => ?_)
  · obtain ⟨v, x, y, m, rfl, _⟩ := h
    rfl
  · obtain ⟨v, x, y, m, rfl, hv, c1, c2, k⟩ := h
    refine ⟨_, pss_cons (ps_if (pt_not (pt_val (pe_call GW (hr.mono (by decide)) rfl D.mW D.FW.kp D.bW .nil pass0 (pa_cons (pv 1) pa_nil)))) (pss_one ps_never) pss_nil)
      (pss_one (ps_ret (pe_make D.M GI hr rfl T.mgC D.bI .nil pass0 (pa_cons (pe_op op_mulW (pe_fld (pv 0) rfl) (pv 1)) (pa_cons (pe_op op_mulW (pe_fld (pv 0) rfl) (pv 1)) pa_nil))))), ?_⟩
    refine ⟨_, rfl, m, rfl, true, rfl, ?_⟩
    refine iteF ?_
    obtain ⟨a, dx, rfl, ha⟩ := hv
    refine ⟨_, rfl, a, C, dx, _, _, rfl, ha, T.cl, T.nX, ptF_x _ _, _, rfl, _, _, rfl, rfl, c1, ?_⟩
    refine ⟨_, rfl, a, C, dx, _, _, rfl, ha, T.cl, T.nY, ptF_y _ _, _, rfl, _, _, rfl, rfl, c2, ?_⟩
    exact make_pt k
def spEqP (C : Addr) : Sp := fun vs H Q _ => ∃ (v u : V) (x y z t : Int), vs = [v, u] ∧ IsP C v x y H ∧ ((IsP C u z t H ∧ Q (.bl (decide (x = z) && decide (y = t))) H) ∨ ((∃ b xs, u = .ref b ∧ H b = some (.tup xs)) ∧ Q (.bl false) H))
theorem scEq : FnScope ["self", "other"] ["self", "other"] (defScope sEq) := ⟨rfl, rfl, rfl, by decide +kernel, rfl, by decide +kernel, by decide +kernel⟩
theorem ok_eq {f : Addr} {fd : FuncData} (F : Fun K "__eq__" "Point.__eq__" sEq f fd) (T : Txt K mg C) : FnOk P w K mg base CX0 1 f fd ["self", "other"] (spEqP C) := by
  refine F.ok scEq (fun vs H Q E h => ?_) (fun cdv A outer s H vs Q E hr h => ?_)
  · obtain ⟨v, u, x, y, z, t, rfl, _⟩ := h
    rfl
  · obtain ⟨v, u, x, y, z, t, rfl, ⟨a, dx, rfl, ha⟩, hu⟩ := h
    refine ⟨_, pss_one (ps_ret (pe_and (pe_callB call_isi (by rfl) T.isi (by decide +kernel) (pa_cons (pv 1) (pa_cons (pe_glob (v := .ref C) rfl T.mgC rfl) pa_nil)))
      (pe_and (pe_cmpR op_eq (pe_fld (pv 0) rfl) (pe_fld (pv 1) rfl) (nomark _)) (pe_one (pe_cmpR op_eq (pe_fld (pv 0) rfl) (pe_fld (pv 1) rfl) (nomark _)))))), ?_⟩
    rcases hu with ⟨⟨b, dy, rfl, hb⟩, k⟩ | ⟨⟨b, xs, rfl, hb⟩, k⟩
    · refine ⟨_, rfl, _, _, _, _, true, rfl, .own C, ty_ins T hb, T.kCC, true, rfl, ?_⟩
      refine iteT ?_
      refine ⟨_, rfl, a, C, dx, _, _, rfl, ha, T.cl, T.nX, ptF_x _ _, _, rfl, b, C, dy, _, _, rfl, hb, T.cl, T.nX, ptF_x _ _, rfl, _, rfl, ?_⟩
      have ei : ∀ i j : Int, decide (V.int i = V.int j) = decide (i = j) := fun i j => by
        by_cases h : i = j
        · rw [h, decide_eq_true rfl, decide_eq_true rfl]
        · rw [decide_eq_false h, decide_eq_false (fun q => h (by cases q; rfl))]
      rw [ei x z]
      by_cases hxz : x = z
      · rw [decide_eq_true hxz] at *
        refine iteT ?_
        refine ⟨_, rfl, a, C, dx, _, _, rfl, ha, T.cl, T.nY, ptF_y _ _, _, rfl, b, C, dy, _, _, rfl, hb, T.cl, T.nY, ptF_y _ _, rfl, ?_⟩
        rw [ei y t]
        simpa using k
      · rw [decide_eq_false hxz] at *
        refine iteF ?_
        simpa using k
    · refine ⟨_, rfl, _, _, _, _, false, rfl, .own C, .base (.tup hb), T.kTC, false, rfl, ?_⟩
      refine iteF ?_
      exact k
def spPairM (C : Addr) : Sp := fun vs H Q _ => ∃ (v : V) (x y : Int), vs = [v] ∧ IsP C v x y H ∧ ∀ q H', H q = none → Same H H' → H' q = some (.tup [.int x, .int y]) → Q (.ref q) H'
end
end Fo

set_option Elab.async false
set_option linter.all false
set_option maxRecDepth 100000
set_option maxHeartbeats 2000000
namespace Fo
open PySem L2
/-! ### filledonce.points where it raises -/
def Scal : V → Prop
  | .non => True
  | .bl _ => True
  | .int _ => True
  | .str _ => True
  | _ => False
def wholeV : V → Bool
  | .int _ => true
  | _ => false
/-- what is no point: one of some kinds -/
inductive Bad (H : Hp) : V → Prop
  | non : Bad H .non
  | bl (b : Bool) : Bad H (.bl b)
  | int (i : Int) : Bad H (.int i)
  | str (z : Str) : Bad H (.str z)
  | lst {a : Addr} {xs : List V} (h : H a = some (.lst xs)) : Bad H (.ref a)
  | tup {a : Addr} {xs : List V} (h : H a = some (.tup xs)) (n : xs.length ≠ 2) : Bad H (.ref a)
  | two {a : Addr} {u v : V} (h : H a = some (.tup [u, v])) (su : Scal u) (sv : Scal v) (n : (wholeV u && wholeV v) = false) : Bad H (.ref a)
theorem Bad.ex {H H' : Hp} {v : V} (e : Same H H') (h : Bad H v) : Bad H' v := by
  cases h with
  | non => exact .non
  | bl b => exact .bl b
  | int i => exact .int i
  | str z => exact .str z
  | lst h => exact .lst (e _ _ h)
  | tup h n => exact .tup (e _ _ h) n
  | two h su sv n => exact .two (e _ _ h) su sv n
/-- what the top says besides of Point and of the error InvalidPoint at CI -/
structure TxtX (P : Program) (K : PySem.W.Frag) (mg : Str → Option Value) (C CI fII : Addr) : Prop where
  kNC : PySem.W.kitOne K (.type "NoneType") (.ref C) = some false
  kBC : PySem.W.kitOne K (.type "bool") (.ref C) = some false
  kIC : PySem.W.kitOne K (.type "int") (.ref C) = some false
  kSC : PySem.W.kitOne K (.type "str") (.ref C) = some false
  kLC : PySem.W.kitOne K (.type "list") (.ref C) = some false
  xI : FoX_thing.XTxt P K mg CI fII
  gI : mg "InvalidPoint" = some (.ref CI)
def XD (v : V) : HO := .xd [((Str.ofString "thing"), v)]
def spWholeX : Sp := fun vs H Q _ => ∃ v : V, vs = [v] ∧ Scal v ∧ Q (.bl (wholeV v)) H
def spIsPointX (C : Addr) : Sp := fun vs H Q _ => ∃ v : V, vs = [v] ∧ Bad H v ∧ Q (.bl false) H
def spInitX (C CI : Addr) : Sp := fun vs H _ E => ∃ (p : Addr) (u v : V), vs = [.ref p, u, v] ∧ Scal u ∧ Scal v ∧ (wholeV u && wholeV v) = false ∧ ∀ t d H', Same H H' → H' t = some (.tup [u, v]) → H' d = some (XD (.ref t)) → E (.ref CI) (some d) H'
def spBadX (CI : Addr) : Sp := fun vs H _ E => ∃ v : V, vs = [v] ∧ Bad H v ∧ ∀ d H', Same H H' → H' d = some (XD v) → E (.ref CI) (some d) H'
section
variable {P : Program} {w : World} {K : PySem.W.Frag} {mg : Str → Option Value} {base : Heap} {C fW fI fP fA fO CI fII : Addr} {fdW fdI fdP fdA fdO : FuncData}
theorem ok_wholeX {f : Addr} {fd : FuncData} (F : Fun K "is_whole" "is_whole" sWhole f fd) (T : Txt K mg C) : FnOk P w K mg base CX0 1 f fd ["value"] spWholeX := by
  refine F.ok scWhole (fun vs H Q E h => ?_) (fun cdv A outer s H vs Q E hr h => ?_)
  · obtain ⟨v, rfl, _⟩ := h
    rfl
  · obtain ⟨v, rfl, sv, k⟩ := h
    refine ⟨_, pss_one (ps_ret (pe_and (pe_callB call_isi (by rfl) T.isi (by decide +kernel) (pa_cons (pv 0) (pa_cons (pe_bltn (v := .ty "int") (by rfl) T.int (by decide +kernel) rfl) pa_nil)))
      (pe_one (pe_not (pe_callB call_isi (by rfl) T.isi (by decide +kernel) (pa_cons (pv 0) (pa_cons (pe_bltn (v := .ty "bool") (by rfl) T.bool (by decide +kernel) rfl) pa_nil))))))), ?_⟩
    cases v with
    | non =>
      refine ⟨_, rfl, _, _, _, _, false, rfl, .ty _, .base .non, kit_ty (by decide +kernel), false, rfl, ?_⟩
      exact iteF k
    | bl b =>
      refine ⟨_, rfl, _, _, _, _, true, rfl, .ty _, .base (.bl b), kit_ty (by decide +kernel), true, rfl, ?_⟩
      refine iteT ?_
      exact ⟨_, rfl, _, _, _, _, true, rfl, .ty _, .base (.bl b), kit_ty (by decide +kernel), true, rfl, k⟩
    | int i =>
      refine ⟨_, rfl, _, _, _, _, true, rfl, .ty _, .base (.int i), kit_ty (by decide +kernel), true, rfl, ?_⟩
      refine iteT ?_
      exact ⟨_, rfl, _, _, _, _, false, rfl, .ty _, .base (.int i), kit_ty (by decide +kernel), false, rfl, k⟩
    | str z =>
      refine ⟨_, rfl, _, _, _, _, false, rfl, .ty _, .base (.str z), kit_ty (by decide +kernel), false, rfl, ?_⟩
      exact iteF k
    | _ => exact sv.elim
theorem ok_is_pointX (D : Defs K mg C fW fI fP fA fO fdW fdI fdP fdA fdO) (TX : TxtX P K mg C CI fII) : FnOk P w K mg base CX0 2 fP fdP ["thing"] (spIsPointX C) := by
  have GW : FnOk P w K mg base CX0 1 fW fdW ["value"] spWholeX := ok_wholeX D.FW D.T
  have T := D.T
  refine D.FP.ok scIsPoint (fun vs H Q E h => ?_) (fun cdv A outer s H vs Q E hr h => ?_)
  · obtain ⟨v, rfl, _⟩ := h
    rfl
  · obtain ⟨v, rfl, bad, k⟩ := h
    refine ⟨_, pss_cons (ps_if (pt_val (pe_callB call_isi (by rfl) T.isi (by decide +kernel) (pa_cons (pv 0) (pa_cons (pe_glob (v := .ref C) rfl T.mgC rfl) pa_nil)))) (pss_one (ps_ret pe_bl)) pss_nil)
      (pss_one (ps_ret (pe_and (pe_callB call_isi (by rfl) T.isi (by decide +kernel) (pa_cons (pv 0) (pa_cons (pe_bltn (v := .ty "tuple") (by rfl) T.tuple (by decide +kernel) rfl) pa_nil)))
        (pe_and (pe_cmpR op_eq (pe_callB call_len_seq (by rfl) T.len PySem.boot_len (pa_cons (pv 0) pa_nil)) pe_int (nomark _))
        (pe_and (pe_call GW hr rfl D.mW D.FW.kp D.bW .nil pass0 (pa_cons (pe_ix ix_tup (pv 0) pe_int (fun _ _ => rfl)) pa_nil))
        (pe_one (pe_call GW hr rfl D.mW D.FW.kp D.bW .nil pass0 (pa_cons (pe_ix ix_tup (pv 0) pe_int (fun _ _ => rfl)) pa_nil)))))))), ?_⟩
    cases bad with
    | non =>
      refine ⟨_, rfl, _, _, _, _, false, rfl, .own C, .base .non, TX.kNC, false, rfl, ?_⟩
      refine iteF ?_
      refine ⟨_, rfl, _, _, _, _, false, rfl, .ty _, .base .non, kit_ty (by decide +kernel), false, rfl, ?_⟩
      exact iteF k
    | bl b =>
      refine ⟨_, rfl, _, _, _, _, false, rfl, .own C, .base (.bl b), TX.kBC, false, rfl, ?_⟩
      refine iteF ?_
      refine ⟨_, rfl, _, _, _, _, false, rfl, .ty _, .base (.bl b), kit_ty (by decide +kernel), false, rfl, ?_⟩
      exact iteF k
    | int i =>
      refine ⟨_, rfl, _, _, _, _, false, rfl, .own C, .base (.int i), TX.kIC, false, rfl, ?_⟩
      refine iteF ?_
      refine ⟨_, rfl, _, _, _, _, false, rfl, .ty _, .base (.int i), kit_ty (by decide +kernel), false, rfl, ?_⟩
      exact iteF k
    | str z =>
      refine ⟨_, rfl, _, _, _, _, false, rfl, .own C, .base (.str z), TX.kSC, false, rfl, ?_⟩
      refine iteF ?_
      refine ⟨_, rfl, _, _, _, _, false, rfl, .ty _, .base (.str z), kit_ty (by decide +kernel), false, rfl, ?_⟩
      exact iteF k
    | lst h =>
      refine ⟨_, rfl, _, _, _, _, false, rfl, .own C, .base (.lst h), TX.kLC, false, rfl, ?_⟩
      refine iteF ?_
      refine ⟨_, rfl, _, _, _, _, false, rfl, .ty _, .base (.lst h), kit_ty (by decide +kernel), false, rfl, ?_⟩
      exact iteF k
    | @tup a xs h n =>
      refine ⟨_, rfl, _, _, _, _, false, rfl, .own C, .base (.tup h), T.kTC, false, rfl, ?_⟩
      refine iteF ?_
      refine ⟨_, rfl, _, _, _, _, true, rfl, .ty _, .base (.tup h), kit_ty (by decide +kernel), true, rfl, ?_⟩
      refine iteT ?_
      refine ⟨_, rfl, a, _, rfl, .inr (SqT.of h), rfl, _, rfl, ?_⟩
      have e : decide (V.int (xs.length : Int) = V.int 2) = false := decide_eq_false (fun q => n (by injection q with q; omega))
      rw [e]
      exact iteF k
    | @two a u v h su sv n =>
      refine ⟨_, rfl, _, _, _, _, false, rfl, .own C, .base (.tup h), T.kTC, false, rfl, ?_⟩
      refine iteF ?_
      refine ⟨_, rfl, _, _, _, _, true, rfl, .ty _, .base (.tup h), kit_ty (by decide +kernel), true, rfl, ?_⟩
      refine iteT ?_
      refine ⟨_, rfl, a, _, rfl, .inr (SqT.of h), rfl, true, rfl, ?_⟩
      refine iteT ?_
      refine ⟨_, rfl, a, _, _, _, rfl, rfl, SqT.of h, atI_nat (j := 0) rfl, u, rfl, su, _, rfl, ?_⟩
      cases hw : wholeV u with
      | false => exact iteF k
      | true =>
        rw [hw, Bool.true_and] at n
        refine iteT ?_
        refine ⟨_, rfl, a, _, _, _, rfl, rfl, SqT.of h, atI_nat (j := 1) rfl, v, rfl, sv, ?_⟩
        rw [n]
        exact k
/-- Point(u, v) of two that are not both integers -/
theorem ok_initX (D : Defs K mg C fW fI fP fA fO fdW fdI fdP fdA fdO) (TX : TxtX P K mg C CI fII) : FnOk P w K mg base (L2.CX P w) 3 fI fdI ["self", "x", "y"] (spInitX C CI) := by
  have GW : FnOk P w K mg base CX0 1 fW fdW ["value"] spWholeX := ok_wholeX D.FW D.T
  refine D.FI.okX scInit (fun vs H Q E h => ?_) (fun cdv A outer s H vs Q E hr h => ?_)
  · obtain ⟨p, u, v, rfl, _⟩ := h
    rfl
  · obtain ⟨p, u, v, rfl, su, sv, n, k⟩ := h
    have hr1 : Room 1 _ := hr.mono (by decide)
    refine ⟨_, pss_cons (ps_if (PW.pt (pw_or (pt_not (pt_val (pe_call GW hr1 rfl D.mW D.FW.kp D.bW .nil pass0 (pa_cons (pv 1) pa_nil)))) (pw_or1 (pt_not (pt_val (pe_call GW hr1 rfl D.mW D.FW.kp D.bW .nil pass0 (pa_cons (pv 2) pa_nil)))))))
        (pss_one (ps_raise_thing (W := fun cls d _ H => E cls d H) rfl TX.xI TX.gI hr (takes_of rfl rfl rfl rfl) (pa_cons (pe_tup (pa_cons (pv 1) (pa_cons (pv 2) pa_nil))) pa_nil))) pss_nil)
      (pss_cons ps_never (pss_one ps_never)), ?_⟩
    have fin : ∀ (t : Addr), H t = none → ∀ d, (upd H t (.tup [u, v])) d = none → E (.ref CI) (some d) (upd (upd H t (.tup [u, v])) d (XD (.ref t))) := fun t nt d nd => by
      refine k t d _ ((same_new nt).trans (same_new nd)) ?_ upd_same
      exact same_new nd _ _ upd_same
    refine ⟨_, rfl, u, rfl, su, _, rfl, ?_⟩
    cases hw : wholeV u with
    | false =>
      refine iteT ?_
      refine iteT ?_
      exact ⟨_, rfl, _, rfl, (by show 2 ≤ sizeLine; decide), fun t nt => ⟨_, rfl, fun d nd => fin t nt d nd⟩⟩
    | true =>
      rw [hw, Bool.true_and] at n
      refine iteF ?_
      refine ⟨_, rfl, v, rfl, sv, _, rfl, ?_⟩
      rw [n]
      refine iteT ?_
      exact ⟨_, rfl, _, rfl, (by show 2 ≤ sizeLine; decide), fun t nt => ⟨_, rfl, fun d nd => fin t nt d nd⟩⟩
theorem ok_as_pointX (D : Defs K mg C fW fI fP fA fO fdW fdI fdP fdA fdO) (TX : TxtX P K mg C CI fII) : FnOk P w K mg base (L2.CX P w) 3 fA fdA ["thing"] (spBadX CI) := by
  have GP : FnOk P w K mg base CX0 2 fP fdP ["thing"] (spIsPointX C) := ok_is_pointX D TX
  refine D.FA.okX scAsPoint (fun vs H Q E h => ?_) (fun cdv A outer s H vs Q E hr h => ?_)
  · obtain ⟨v, rfl, _⟩ := h
    rfl
  · obtain ⟨v, rfl, bad, k⟩ := h
    refine ⟨_, pss_cons (ps_if (pt_not (pt_val (pe_call GP hr rfl D.mP D.FP.kp D.bP .nil pass0 (pa_cons (pv 0) pa_nil))))
        (pss_one (ps_raise_thing (W := fun cls d _ H => E cls d H) rfl TX.xI TX.gI hr (takes_of rfl rfl rfl rfl) (pa_cons (pv 0) pa_nil))) pss_nil)
      (pss_cons ps_never (pss_one ps_never)), ?_⟩
    refine ⟨_, rfl, v, rfl, bad, false, rfl, ?_⟩
    refine iteT ?_
    exact ⟨_, rfl, _, rfl, fun d nd => k d _ (same_new nd) upd_same⟩
end
end Fo

set_option Elab.async false
set_option linter.all false
set_option maxRecDepth 100000
set_option maxHeartbeats 2000000
namespace Fo
open PySem L2
/-! ### the law's own helpers: the pool and its draws -/
abbrev sHand : Stmt := top 22
abbrev sDraw : Stmt := top 23
/-- what stands but at p stands -/
def But (p : Addr) (H H' : Hp) : Prop := ∀ b o, b ≠ p → H b = some o → H' b = some o
theorem But.refl (p : Addr) (H : Hp) : But p H H := fun _ _ _ h => h
theorem But.trans {p : Addr} {H H1 H2 : Hp} (a : But p H H1) (b : But p H1 H2) : But p H H2 := fun c o n h => b c o n (a c o n h)
theorem But.upd {p : Addr} {H : Hp} {o : HO} : But p H (upd H p o) := fun b u n h => by
  rw [upd_ne n]
  exact h
theorem But.of {p : Addr} {H H' : Hp} (e : Same H H') : But p H H' := fun b o _ h => e b o h
/-- from a heap that does not know p -/
theorem But.same {p : Addr} {H0 H H' : Hp} (h0 : H0 p = none) (e : Same H0 H) (b : But p H H') : Same H0 H' := fun c o h => b c o (ne_of_none h h0) (e c o h)
def PoolAt (p : Addr) (H : Hp) : Prop := ∃ i j : Int, H p = some (.lst [.int i, .int j]) ∧ 0 ≤ i ∧ 0 ≤ j ∧ j < 2147483647
theorem PoolAt.ex {p : Addr} {H H' : Hp} (e : Same H H') (h : PoolAt p H) : PoolAt p H' := by
  obtain ⟨i, j, h, r⟩ := h
  exact ⟨i, j, e _ _ h, r⟩
def spHand (K : PySem.W.Frag) : Sp := fun vs H Q _ => ∃ (a : Addr) (ns : List Int) (k : Int), vs = [.ref a, .int k] ∧ SqL K H a (ns.map V.int) ∧ ns.length ≤ 63 ∧ 0 ≤ k ∧ k ≤ 100 ∧
  ∀ p H', H p = none → Same H H' → PoolAt p H' → Q (.ref p) H'
def spDraw : Sp := fun vs H Q _ => ∃ (p : Addr) (m : Int), vs = [.ref p, .int m] ∧ PoolAt p H ∧ 0 < m ∧ m < 1073741824 ∧
  ∀ r H', 0 ≤ r → r < m → But p H H' → PoolAt p H' → Q (.int r) H'
structure TxtL (mg : Str → Option Value) : Prop where
  int : mg "int" = none
  range : mg "range" = none
  max : mg "max" = none
  min : mg "min" = none
  len : mg "len" = none
theorem head_int {ns : List Int} {lo hi : Option Int} : ∃ c : Int, atI (cutV (ns.map V.int) lo hi ++ [V.int 0]) 0 = some (V.int c) := by
  have e : cutV (ns.map V.int) lo hi = ((ns.drop (HT.sIx (ns.map V.int).length 0 lo)).take (HT.sIx (ns.map V.int).length (ns.map V.int).length hi - HT.sIx (ns.map V.int).length 0 lo)).map V.int := by
    unfold cutV
    rw [← List.map_drop, ← List.map_take]
  rw [e]
  cases (ns.drop (HT.sIx (ns.map V.int).length 0 lo)).take (HT.sIx (ns.map V.int).length (ns.map V.int).length hi - HT.sIx (ns.map V.int).length 0 lo) with
  | nil => exact ⟨0, atI_nat (j := 0) rfl⟩
  | cons c r => exact ⟨c, atI_nat (j := 0) rfl⟩
section
variable {P : Program} {w : World} {K : PySem.W.Frag} {mg : Str → Option Value} {base : Heap}
theorem scHand : FnScope ["script", "k", "cell", "seed"] ["script", "k"] (defScope sHand) := ⟨rfl, rfl, rfl, by decide +kernel, rfl, by decide +kernel, by decide +kernel⟩
theorem ok_hand {f : Addr} {fd : FuncData} (F : Fun K "_law_hand" "_law_hand" sHand f fd) (T : TxtL mg) : FnOk P w K mg base CX0 1 f fd ["script", "k"] (spHand K) := by
  refine F.ok scHand (fun vs H Q E h => ?_) (fun cdv A outer s H vs Q E hr h => ?_)
  · obtain ⟨a, ns, k, rfl, _⟩ := h
    rfl
  · obtain ⟨a, ns, k, rfl, hS, hl, k0, k1, q⟩ := h
    refine ⟨_, pss_cons (ps_set (i := 2) scHand.nd rfl (Or.inl rfl) (pe_ix ix_list (pe_op op_cat (pe_slice sl_list (pv 0) (po_some (pv 1)) (po_some (pe_op op_add (pv 1) pe_int))) (pe_lst (pa_cons pe_int pa_nil))) pe_int (fun _ _ => rfl)))
      (pss_cons (ps_set (i := 3) scHand.nd rfl (Or.inl rfl) (pe_op op_mod (pe_op op_mul (pe_op op_add (pe_op op_add (pe_op op_mod (pe_callTy call_int1 (by rfl) T.int (by decide +kernel) (pa_cons (pv 2) pa_nil)) pe_int) (pe_op op_mul pe_int (pv 1))) pe_int) pe_int) pe_int))
      (pss_one (ps_ret (pe_lst (pa_cons (pe_op op_mul (pe_callTy call_int1 (by rfl) T.int (by decide +kernel) (pa_cons (pe_cmpR op_ge (pv 2) (pe_op op_pow pe_int pe_int) (nomark _)) pa_nil)) (pv 2)) (pa_cons (pv 3) pa_nil)))))), ?_⟩
    obtain ⟨c, hc⟩ := head_int (ns := ns) (lo := some k) (hi := some (k + 1))
    -- cell
    refine ⟨_, rfl, _, rfl, _, rfl, _, rfl, _, _, rfl, rfl, _, rfl, a, _, rfl, hS, fun p1 n1 => ?_⟩
    refine ⟨(by show 1 ≤ sizeLine; decide), fun p2 n2 => ?_⟩
    have ne12 : p1 ≠ p2 := fun q => by rw [← q, upd_same] at n2; cases n2
    refine ⟨p1, p2, _, _, rfl, rfl, (by rw [upd_ne ne12, upd_same]), upd_same, ?_, fun p3 n3 => ?_⟩
    · have := cutV_length (ns.map V.int) (some k) (some (k + 1))
      rw [List.length_map] at this
      show _ + 1 ≤ sizeLine
      exact Nat.le_trans (Nat.add_le_add_right this 1) (Nat.le_trans (Nat.add_le_add_right hl 1) (by decide))
    refine ⟨p3, _, _, _, rfl, rfl, SqL.of upd_same, hc, ?_⟩
    have e1 : Same H (upd H p1 (.lst (cutV (ns.map V.int) (some k) (some (k + 1))))) := same_new n1
    have e2 := e1.trans (same_new (o := .lst [V.int 0]) n2)
    have e3 := e2.trans (same_new (o := .lst (cutV (ns.map V.int) (some k) (some (k + 1)) ++ [V.int 0])) n3)
    -- seed
    refine ⟨_, rfl, .inl ⟨_, rfl, ?_⟩⟩
    refine ⟨_, _, rfl, rfl, (by show (0 : Int) < 2147483647; decide), _, rfl, _, _, rfl, rfl, .inl ⟨by decide, by decide⟩, _, _, rfl, rfl, _, _, rfl, rfl, _, _, rfl, rfl, .inr ⟨by decide, by decide⟩, _, _, rfl, rfl, (by show (0 : Int) < 2147483629; decide), ?_⟩
    -- the list
    refine ⟨_, rfl, _, _, rfl, rfl, ⟨by decide, by decide, by decide⟩, _, _, rfl, rfl, .inr ⟨_, rfl, ?_⟩⟩
    refine ⟨_, rfl, _, _, rfl, rfl, .inl ?_, _, rfl, (by show 2 ≤ sizeLine; decide), fun p4 n4 => ?_⟩
    · split <;> exact ⟨by decide, by decide⟩
    · refine q p4 _ (Same.free e3 n4) (e3.trans (same_new n4)) ⟨_, _, upd_same, ?_, ?_, ?_⟩
      · by_cases hb : (10 : Int) ^ (18 : Int).toNat ≤ c
        · have h0 : (0 : Int) ≤ (10 : Int) ^ (18 : Int).toNat := by decide
          rw [decide_eq_true hb]
          show 0 ≤ 1 * c
          omega
        · rw [decide_eq_false hb]
          show 0 ≤ 0 * c
          omega
      · exact Int.emod_nonneg _ (by decide)
      · exact Int.lt_trans (Int.emod_lt_of_pos _ (by decide)) (by decide)
theorem scDraw : FnScope ["pool", "many", "found"] ["pool", "many"] (defScope sDraw) := ⟨rfl, rfl, rfl, by decide +kernel, rfl, by decide +kernel, by decide +kernel⟩
theorem ok_draw {f : Addr} {fd : FuncData} (F : Fun K "_law_draw" "_law_draw" sDraw f fd) (T : TxtL mg) : FnOk P w K mg base CX0 1 f fd ["pool", "many"] spDraw := by
  refine F.ok scDraw (fun vs H Q E h => ?_) (fun cdv A outer s H vs Q E hr h => ?_)
  · obtain ⟨p, m, rfl, _⟩ := h
    rfl
  · obtain ⟨p, m, rfl, ⟨i, j, hp, i0, j0, j1⟩, m0, m1, q⟩ := h
    refine ⟨_, pss_cons (ps_if (pt_cmpR op_gt (pe_ix ix_list (pv 0) pe_int (fun _ _ => rfl)) pe_int (nomark _))
        (pss_cons (ps_set (i := 2) scDraw.nd rfl (Or.inl rfl) (pe_op op_mod (pe_callTy call_int1 (by rfl) T.int (by decide +kernel) (pa_cons (pe_ix ix_list (pv 0) pe_int (fun _ _ => rfl)) pa_nil)) (pv 1)))
        (pss_cons (ps_asg (pe_op op_fdiv (pe_ix ix_list (pv 0) pe_int (fun _ _ => rfl)) (pv 1)) (pg_sub (pv 0) pe_int set_list))
        (pss_one (ps_ret (pv 2))))) pss_nil)
      (pss_cons (ps_asg (pe_op op_mod (pe_callTy call_int1 (by rfl) T.int (by decide +kernel) (pa_cons (pe_op op_add (pe_op op_mul (pe_ix ix_list (pv 0) pe_int (fun _ _ => rfl)) pe_int) pe_int) pa_nil)) pe_int) (pg_sub (pv 0) pe_int set_list))
      (pss_one (ps_ret (pe_op op_mod (pe_op op_fdiv (pe_op op_mod (pe_callTy call_int1 (by rfl) T.int (by decide +kernel) (pa_cons (pe_op op_mul (pe_ix ix_list (pv 0) pe_int (fun _ _ => rfl)) (pe_ix ix_list (pv 0) pe_int (fun _ _ => rfl))) pa_nil)) pe_int) pe_int) (pv 1))))), ?_⟩
    refine ⟨_, rfl, p, _, _, _, rfl, rfl, SqL.of hp, atI_nat (j := 0) rfl, _, _, rfl, rfl, _, rfl, ?_⟩
    refine ite2 (fun hi => ?_) (fun hi => ?_)
    · refine ⟨_, rfl, p, _, _, _, rfl, rfl, SqL.of hp, atI_nat (j := 0) rfl, .inl ⟨_, rfl, ?_⟩⟩
      refine ⟨_, rfl, _, _, rfl, rfl, m0, ?_⟩
      refine ⟨_, rfl, p, _, _, _, rfl, rfl, SqL.of hp, atI_nat (j := 0) rfl, _, rfl, _, _, rfl, rfl, ⟨m0, m1⟩, ?_⟩
      refine ⟨_, rfl, p, _, _, 0, rfl, rfl, hp, rfl, ?_⟩
      refine ⟨_, rfl, ?_⟩
      refine q _ _ (Int.emod_nonneg _ (by omega)) (Int.emod_lt_of_pos _ m0) But.upd ⟨_, _, upd_same, Int.ediv_nonneg i0 (by omega), j0, j1⟩
    · refine ⟨_, rfl, p, _, _, _, rfl, rfl, SqL.of hp, atI_nat (j := 1) rfl, _, _, rfl, rfl, .inr ⟨by decide, by decide⟩, _, _, rfl, rfl, .inl ⟨_, rfl, ?_⟩⟩
      refine ⟨_, _, rfl, rfl, (by show (0 : Int) < 2147483647; decide), ?_⟩
      refine ⟨_, rfl, p, _, _, 1, rfl, rfl, hp, rfl, ?_⟩
      have a0 : (0 : Int) ≤ (j * 48271 + 11) % 2147483647 := Int.emod_nonneg _ (by decide)
      have a1 : (j * 48271 + 11) % 2147483647 < (2147483647 : Int) := Int.emod_lt_of_pos _ (by decide)
      refine ⟨_, rfl, p, _, _, _, rfl, rfl, SqL.of upd_same, atI_nat (j := 1) rfl, _, rfl, p, _, _, _, rfl, rfl, SqL.of upd_same, atI_nat (j := 1) rfl, _, _, rfl, rfl, .inl ⟨by omega, by omega⟩, .inl ⟨_, rfl, ?_⟩⟩
      refine ⟨_, _, rfl, rfl, (by show (0 : Int) < 2147483629; decide), _, _, rfl, rfl, ⟨by decide, by decide⟩, _, rfl, _, _, rfl, rfl, m0, ?_⟩
      exact q _ _ (Int.emod_nonneg _ (by omega)) (Int.emod_lt_of_pos _ m0) But.upd ⟨_, _, upd_same, i0, a0, a1⟩
end
end Fo

set_option Elab.async false
set_option linter.all false
set_option maxRecDepth 100000
set_option maxHeartbeats 2000000
namespace Fo
open PySem L2
abbrev sPair : Stmt := top 24
def spPair : Sp := fun vs H Q _ => ∃ (p : Addr) (n : Int), vs = [.ref p, .int n] ∧ PoolAt p H ∧ 0 < n ∧ n < 1000 ∧
  ∀ q x y H', But p H H' → PoolAt p H' → H' q = some (.tup [.int x, .int y]) → -n ≤ x → x ≤ n → -n ≤ y → y ≤ n → Q (.ref q) H'
section
variable {P : Program} {w : World} {K : PySem.W.Frag} {mg : Str → Option Value} {base : Heap}
theorem scPair : FnScope ["pool", "size_here"] ["pool", "size_here"] (defScope sPair) := ⟨rfl, rfl, rfl, by decide +kernel, rfl, by decide +kernel, by decide +kernel⟩
theorem ok_pair {f fD : Addr} {fd fdD : FuncData} (F : Fun K "_law_pair" "_law_pair" sPair f fd) (T : TxtL mg) (FD : Fun K "_law_draw" "_law_draw" sDraw fD fdD) (bD : Binds K fdD ["pool", "many"] []) (mD : mg "_law_draw" = some (.ref fD)) :
    FnOk P w K mg base CX0 2 f fd ["pool", "size_here"] spPair := by
  have GD : FnOk P w K mg base CX0 1 fD fdD ["pool", "many"] spDraw := ok_draw FD T
  refine F.ok scPair (fun vs H Q E h => ?_) (fun cdv A outer s H vs Q E hr h => ?_)
  · obtain ⟨p, n, rfl, _⟩ := h
    rfl
  · obtain ⟨p, n, rfl, hp, n0, n1, q⟩ := h
    refine ⟨_, pss_one (ps_ret (pe_tup (pa_cons (pe_op op_sub (pe_call GD hr rfl mD FD.kp bD .nil pass0 (pa_cons (pv 0) (pa_cons (pe_op op_add (pe_op op_mul pe_int (pv 1)) pe_int) pa_nil))) (pv 1))
      (pa_cons (pe_op op_sub (pe_call GD hr rfl mD FD.kp bD .nil pass0 (pa_cons (pv 0) (pa_cons (pe_op op_add (pe_op op_mul pe_int (pv 1)) pe_int) pa_nil))) (pv 1)) pa_nil)))), ?_⟩
    refine ⟨_, rfl, _, rfl, _, _, rfl, rfl, .inl ⟨by decide, by decide⟩, _, _, rfl, rfl, p, _, rfl, hp, by omega, by omega, fun r1 H1 r10 r11 b1 p1 => ?_⟩
    refine ⟨_, rfl, _, _, rfl, rfl, ?_⟩
    refine ⟨_, rfl, _, rfl, _, _, rfl, rfl, .inl ⟨by decide, by decide⟩, _, _, rfl, rfl, p, _, rfl, p1, by omega, by omega, fun r2 H2 r20 r21 b2 p2 => ?_⟩
    refine ⟨_, rfl, _, _, rfl, rfl, (by show 2 ≤ sizeLine; decide), fun t ht => ?_⟩
    exact q t _ _ _ ((b1.trans b2).trans (But.of (same_new ht))) (p2.ex (same_new ht)) upd_same (by omega) (by omega) (by omega) (by omega)
end
end Fo

set_option Elab.async false
set_option linter.all false
set_option maxRecDepth 100000
set_option maxHeartbeats 2000000
namespace Fo
open PySem L2
/-! ### what raises, and the law's own door to it -/
theorem SqT.ex {K : PySem.W.Frag} {H H' : Hp} {a : Addr} {xs : List V} (e : Same H H') (h : SqT K H a xs) : SqT K H' a xs := by
  rcases h with (h | ⟨o, h⟩) | h
  · exact .inl (.inl (e _ _ h))
  · exact .inl (.inr ⟨o, e _ _ h⟩)
  · exact .inr h
mutual
theorem Dp.ex {K : PySem.W.Frag} {H H' : Hp} (e : Same H H') : ∀ (d : PyData) (v : V), Dp K H v d → Dp K H' v d
  | .none, _, h => by
    cases h
    exact .non
  | .bool b, _, h => by
    cases h
    exact .bl b
  | .int i, _, h => by
    cases h
    exact .int i
  | .str x, _, h => by
    cases h
    exact .str x
  | .list ds, _, h => by
    cases h with
    | lst hs ha => exact .lst (e.seq hs) (DpAll.ex e ds _ ha)
  | .tuple ds, _, h => by
    cases h with
    | tup hs ha => exact .tup (SqT.ex e hs) (DpAll.ex e ds _ ha)
  | .dict _, _, h => by cases h
theorem DpAll.ex {K : PySem.W.Frag} {H H' : Hp} (e : Same H H') : ∀ (ds : List PyData) (vs : List V), DpAll K H vs ds → DpAll K H' vs ds
  | [], _, h => by
    cases h
    exact .nil
  | d :: ds, _, h => by
    cases h with
    | cons h1 h2 => exact .cons (Dp.ex e d _ h1) (DpAll.ex e ds _ h2)
end
structure ShowsOk (d : PyData) : Prop where
  s : d.showable = true
  nd : d.hasDict = false
  dp : d.depth ≤ 60
  z : d.shown.length ≤ sizeLine
/-- what a call lets out is taken, whatever the slots -/
def EW (W : WX) (n : Nat) : XK := fun cls d H => ∀ σ : L2.St, σ.length = n → W cls d σ H
theorem passesW {X : Cx} {W : WX} {n : Nat} (tk : Takes X W) (hn : X.N.length = n) : Passes (L2.CX X.prog X.w) X (EW W n) := fun _ σ _ _ e s' I c => tk e s' (XE.of_call I (fun _ _ _ h => h σ (I.len.trans hn)) c)
theorem ix_tupK {X : Cx} {K : PySem.W.Frag} (h : X.K = K) : IxR X (rIxT K) := by
  subst h
  exact ix_tup
theorem int_eqT {i j : Int} (h : i = j) : decide (V.int i = V.int j) = true := decide_eq_true (by rw [h])
theorem int_eqF {i j : Int} (h : i ≠ j) : decide (V.int i = V.int j) = false := decide_eq_false (fun q => h (by injection q))
end Fo

set_option Elab.async false
set_option linter.all false
set_option maxRecDepth 100000
set_option maxHeartbeats 2000000
namespace Fo
open PySem L2
/-! ### common_divisor -/
abbrev sGcd : Stmt := top 8
def spGcd : Sp := fun vs H Q _ => ∃ a b : Int, vs = [.int a, .int b] ∧ Q (.int (Int.gcd a b : Int)) H
section
variable {P : Program} {w : World} {K : PySem.W.Frag} {mg : Str → Option Value} {base : Heap}
theorem scGcd : FnScope ["one", "other", "kept", "rest"] ["one", "other"] (defScope sGcd) := ⟨rfl, rfl, rfl, by decide +kernel, rfl, by decide +kernel, by decide +kernel⟩
theorem ok_gcd {f : Addr} {fd : FuncData} (F : Fun K "common_divisor" "common_divisor" sGcd f fd) (zA : mg "abs" = none) : FnOk P w K mg base CX0 1 f fd ["one", "other"] spGcd := by
  refine F.ok scGcd (fun vs H Q E h => ?_) (fun cdv A outer s H vs Q E hr h => ?_)
  · obtain ⟨a, b, rfl, _⟩ := h
    rfl
  · obtain ⟨a, b, rfl, k⟩ := h
    refine ⟨_, pss_cons (ps_set (i := 2) scGcd.nd rfl (Or.inl rfl) (pe_callB call_abs (by rfl) zA (by decide +kernel) (pa_cons (pv 0) pa_nil)))
      (pss_cons (ps_set (i := 3) scGcd.nd rfl (Or.inl rfl) (pe_callB call_abs (by rfl) zA (by decide +kernel) (pa_cons (pv 1) pa_nil)))
      (pss_cons (ps_while PassesOwn.never (pt_cmpR op_gt (pv 3) pe_int (nomark _)) (pss_one (ps_par (i := 2) (j := 3) (by rfl) scGcd.nd rfl rfl (by decide) rfl rfl (pa_cons (pv 3) (pa_cons (pe_op op_mod (pv 2) (pv 3)) pa_nil)) (by rfl))))
      (pss_one (ps_ret (pv 2))))), ?_⟩
    refine ⟨_, rfl, _, rfl, _, rfl, _, rfl, ?_⟩
    have ab : ∀ z : Int, (if z < 0 then -z else z) = (z.natAbs : Int) := fun z => by
      split <;> omega
    rw [ab a, ab b]
    refine ⟨fun m σ H' => ∃ p r : Nat, σ = [some (.int a), some (.int b), some (.int (p : Int)), some (.int (r : Int))] ∧ H' = H ∧ Nat.gcd p r = Int.gcd a b ∧ m = r, ⟨b.natAbs, a.natAbs, b.natAbs, rfl, rfl, rfl, rfl⟩, ?_⟩
    rintro m σ H' ⟨p, r, rfl, rfl, hg, rfl⟩
    refine ⟨_, rfl, _, _, rfl, rfl, _, rfl, ?_⟩
    by_cases h0 : (0 : Int) < (m : Int)
    · rw [decide_eq_true h0]
      refine iteT ?_
      refine ⟨fun σ' H2 => ∃ p' r' : Nat, σ' = [some (.int a), some (.int b), some (.int (p' : Int)), some (.int (r' : Int))] ∧ H2 = H' ∧ Nat.gcd p' r' = Int.gcd a b ∧ r' < m, ?_, ?_⟩
      · rintro σ' H'' ⟨p', r', rfl, rfl, hg', hl⟩
        exact ⟨r', hl, p', r', rfl, rfl, hg', rfl⟩
      · refine ⟨_, rfl, _, rfl, _, rfl, _, _, rfl, rfl, h0, _, _, rfl, ?_⟩
        refine ⟨m, p % m, ?_, rfl, ?_, Nat.mod_lt _ (by omega)⟩
        · rw [Int.natCast_emod]
          rfl
        · rw [← hg, Nat.gcd_comm p m, Nat.gcd_rec m p, Nat.gcd_comm]
    · rw [decide_eq_false h0]
      refine iteF ?_
      have m0 : m = 0 := by omega
      subst m0
      rw [Nat.gcd_zero_right] at hg
      refine ⟨_, rfl, ?_⟩
      rw [hg]
      exact k
end
end Fo

set_option Elab.async false
set_option linter.all false
set_option maxRecDepth 100000
set_option maxHeartbeats 2000000
namespace Fo
open PySem L2
/-! ### lists of pairs -/
/-- a list of pairs -/
inductive TL (H : Hp) : List V → List (Int × Int) → Prop
  | nil : TL H [] []
  | cons {q : Addr} {p : Int × Int} {xs : List V} {ps : List (Int × Int)} : H q = some (.tup [.int p.1, .int p.2]) → TL H xs ps → TL H (.ref q :: xs) (p :: ps)
theorem TL.ex {H H' : Hp} {xs : List V} {ps : List (Int × Int)} (e : Same H H') (h : TL H xs ps) : TL H' xs ps := by
  induction h with
  | nil => exact .nil
  | cons h _ ih => exact .cons (e _ _ h) ih
theorem TL.but {H H' : Hp} {D : Addr} {ys : List V} {xs : List V} {ps : List (Int × Int)} (hD : H D = some (.lst ys)) (b : But D H H') (h : TL H xs ps) : TL H' xs ps := by
  induction h with
  | nil => exact .nil
  | cons h _ ih => exact .cons (b _ _ (ne_of h hD (by intro z; cases z)) h) ih
theorem TL.length {H : Hp} {xs : List V} {ps : List (Int × Int)} (h : TL H xs ps) : xs.length = ps.length := by
  induction h with
  | nil => rfl
  | cons h _ ih => rw [List.length_cons, List.length_cons, ih]
theorem TL.append {H : Hp} {xs ys : List V} {ps qs : List (Int × Int)} (h : TL H xs ps) (h2 : TL H ys qs) : TL H (xs ++ ys) (ps ++ qs) := by
  induction h with
  | nil => exact h2
  | cons h _ ih => exact .cons h ih
theorem TL.take {H : Hp} {xs : List V} {ps : List (Int × Int)} (h : TL H xs ps) : ∀ n, TL H (xs.take n) (ps.take n) := by
  induction h with
  | nil =>
    intro n
    rw [List.take_nil, List.take_nil]
    exact .nil
  | cons h _ ih =>
    intro n
    cases n with
    | zero => exact .nil
    | succ n => exact .cons h (ih n)
theorem TL.drop {H : Hp} {xs : List V} {ps : List (Int × Int)} (h : TL H xs ps) : ∀ n, TL H (xs.drop n) (ps.drop n) := by
  induction h with
  | nil =>
    intro n
    rw [List.drop_nil, List.drop_nil]
    exact .nil
  | cons h t ih =>
    intro n
    cases n with
    | zero => exact .cons h t
    | succ n => exact ih n
theorem TL.get {H : Hp} {xs : List V} {ps : List (Int × Int)} (h : TL H xs ps) : ∀ {i : Nat} {x : V}, xs[i]? = some x → ∃ q p, x = V.ref q ∧ ps[i]? = some p ∧ H q = some (.tup [.int p.1, .int p.2]) := by
  induction h with
  | nil =>
    intro i x hx
    simp at hx
  | @cons q p _ _ h _ ih =>
    intro i x hx
    cases i with
    | zero =>
      simp at hx
      exact ⟨q, p, hx.symm, rfl, h⟩
    | succ i =>
      simp at hx
      obtain ⟨q2, p2, e1, e2, e3⟩ := ih hx
      exact ⟨q2, p2, e1, by simpa using e2, e3⟩
def pD (p : Int × Int) : PyData := .tuple [.int p.1, .int p.2]
theorem TL.dp {K : PySem.W.Frag} {H : Hp} {xs : List V} {ps : List (Int × Int)} (h : TL H xs ps) : DpAll K H xs (ps.map pD) := by
  induction h with
  | nil => exact .nil
  | cons h _ ih => exact .cons (.tup (SqT.of h) (.cons (.int _) (.cons (.int _) .nil))) ih
theorem pDs_lay : ∀ ps : List (Int × Int), PyData.canLayAll0 (ps.map pD) = true
  | [] => by simp [PyData.canLayAll0]
  | p :: ps => by simp [PyData.canLayAll0, PyData.canLay0, pD, pDs_lay ps]
theorem pDs_depth : ∀ ps : List (Int × Int), PyData.depthAll (ps.map pD) ≤ 2
  | [] => by simp [PyData.depthAll]
  | p :: ps => by
    have h1 := pDs_depth ps
    have h2 : (pD p).depth ≤ 2 := by simp [pD, PyData.depth, PyData.depthAll]
    simp only [List.map_cons, PyData.depthAll]
    omega
theorem pDs_shaped (ps : List (Int × Int)) : SeqAt.shaped (.list (ps.map pD)) = true := by
  have h1 := pDs_depth ps
  have h2 : PyData.depth (.list (ps.map pD)) ≤ 64 := by
    simp only [PyData.depth]
    omega
  show (PyData.canLay0 (.list (ps.map pD)) && decide (PyData.depth (.list (ps.map pD)) ≤ 64)) = true
  rw [Bool.and_eq_true]
  exact ⟨by simp only [PyData.canLay0]; exact pDs_lay ps, decide_eq_true h2⟩
theorem pDs_refl (ps : List (Int × Int)) : PyData.eqv (.list (ps.map pD)) (.list (ps.map pD)) = true := SeqAt.eqv_refl _ (by simp only [PyData.canLay0]; exact pDs_lay ps)
theorem TL.of_get {H : Hp} : ∀ {xs : List V} {ps : List (Int × Int)}, xs.length = ps.length → (∀ (i : Nat) x, xs[i]? = some x → ∃ q p, x = V.ref q ∧ ps[i]? = some p ∧ H q = some (.tup [.int p.1, .int p.2])) → TL H xs ps
  | [], [], _, _ => .nil
  | [], p :: ps, h, _ => by simp at h
  | x :: xs, [], h, _ => by simp at h
  | x :: xs, p :: ps, h, hg => by
    obtain ⟨q, p', rfl, hp, hq⟩ := hg 0 x rfl
    cases hp
    exact .cons hq (TL.of_get (by simpa using h) fun i y hy => hg (i + 1) y (by simpa using hy))
theorem tup_ne {pl q : Addr} {H : Hp} {xs : List V} (hp : PoolAt pl H) (h : H q = some (.tup xs)) : q ≠ pl := by
  obtain ⟨i, j, hp, _⟩ := hp
  exact ne_of h hp (by intro z; cases z)
theorem pair_no (x y : Int) : (ptF x y).lookup ("pair" : Str) = none := ptF_no _ _ (by decide +kernel) (by decide +kernel)
end Fo

set_option Elab.async false
set_option linter.all false
set_option maxRecDepth 100000
set_option maxHeartbeats 2000000
namespace Fo
open PySem L2
/-! ### filledonce.triangles -/
abbrev sTInit : Stmt := inClass (top 20) 0
abbrev sCorners : Stmt := inClass (top 20) 1
abbrev sEdges : Stmt := inClass (top 20) 2
abbrev sArea : Stmt := inClass (top 20) 3
abbrev sMoved : Stmt := inClass (top 20) 4
abbrev sTIn : Stmt := inClass (top 20) 5
abbrev sTEq : Stmt := inClass (top 20) 6
abbrev I2 := Int × Int
def sd (a b p : I2) : Int := sideI a.1 a.2 b.1 b.2 p.1 p.2
def Sm2 (n : Nat) (p : I2) : Prop := Sm n p.1 ∧ Sm n p.2
theorem Sm2.up {n m : Nat} {p : I2} (h : Sm2 n p) (l : n ≤ m) : Sm2 m p := ⟨h.1.up l, h.2.up l⟩
def tipF (l : Addr) : List (Str × V) := putF "tips" (.ref l) []
theorem tipF_tips (l : Addr) : (tipF l).lookup ("tips" : Str) = some (.ref l) := by
  unfold tipF
  rw [lookup_putF, if_pos rfl]
theorem tipF_no (l : Addr) {m : Str} (h : ¬ m = "tips") : (tipF l).lookup m = none := by
  unfold tipF
  rw [lookup_putF, if_neg h]
  rfl
/-- three Points -/
def Three (C : Addr) (v1 v2 v3 : V) (a b c : I2) (H : Hp) : Prop := IsP C v1 a.1 a.2 H ∧ IsP C v2 b.1 b.2 H ∧ IsP C v3 c.1 c.2 H
theorem Three.ex {C : Addr} {v1 v2 v3 : V} {a b c : I2} {H H' : Hp} (e : Same H H') (h : Three C v1 v2 v3 a b c H) : Three C v1 v2 v3 a b c H' := ⟨h.1.ex e, h.2.1.ex e, h.2.2.ex e⟩
/-- a Triangle with these corners -/
def IsT (C CT : Addr) (v : V) (a b c : I2) (H : Hp) : Prop := ∃ t dx l v1 v2 v3, v = .ref t ∧ H t = some (.ins CT dx (tipF l)) ∧ H l = some (.lst [v1, v2, v3]) ∧ Three C v1 v2 v3 a b c H
theorem IsT.ex {C CT : Addr} {v : V} {a b c : I2} {H H' : Hp} (e : Same H H') (h : IsT C CT v a b c H) : IsT C CT v a b c H' := by
  obtain ⟨t, dx, l, v1, v2, v3, rfl, h1, h2, h3⟩ := h
  exact ⟨t, dx, l, v1, v2, v3, rfl, e _ _ h1, e _ _ h2, h3.ex e⟩
def IsPt2 (C : Addr) (v : V) (p : I2) (H : Hp) : Prop := IsPt C v p.1 p.2 H
theorem IsPt2.ex {C : Addr} {v : V} {p : I2} {H H' : Hp} (e : Same H H') (h : IsPt2 C v p H) : IsPt2 C v p H' := IsPt.ex e h
/-- b and c, turned against the clock -/
def onB (a b c : I2) : I2 := if 0 < sd a b c then b else c
def onC (a b c : I2) : I2 := if 0 < sd a b c then c else b
def spTInit (C CT : Addr) : Sp := fun vs H Q _ => ∃ (n : Nat) (p dx : Addr) (u v w : V) (a b c : I2), vs = [.ref p, u, v, w] ∧ H p = some (.ins CT dx []) ∧ IsPt2 C u a H ∧ IsPt2 C v b H ∧ IsPt2 C w c H ∧ n < 1000 ∧ Sm2 n a ∧ Sm2 n b ∧ Sm2 n c ∧ sd a b c ≠ 0 ∧
  ∀ l v1 v2 v3 H', But p H H' → H' p = some (.ins CT dx (tipF l)) → H' l = some (.lst [v1, v2, v3]) → Three C v1 v2 v3 a (onB a b c) (onC a b c) H' → Q .non H'
def spCorners (C CT : Addr) : Sp := fun vs H Q _ => ∃ (t : V) (a b c : I2), vs = [t] ∧ IsT C CT t a b c H ∧ ∀ l v1 v2 v3 H', H l = none → Same H H' → H' l = some (.lst [v1, v2, v3]) → Three C v1 v2 v3 a b c H' → Q (.ref l) H'
/-- the list of the edges -/
def IsE (C : Addr) (v : V) (a b c : I2) (H : Hp) : Prop := ∃ l e1 e2 e3 v1 v2 v3, v = .ref l ∧ H l = some (.lst [.ref e1, .ref e2, .ref e3]) ∧ H e1 = some (.tup [v1, v2]) ∧ H e2 = some (.tup [v2, v3]) ∧ H e3 = some (.tup [v3, v1]) ∧ Three C v1 v2 v3 a b c H
theorem IsE.ex {C : Addr} {v : V} {a b c : I2} {H H' : Hp} (e : Same H H') (h : IsE C v a b c H) : IsE C v a b c H' := by
  obtain ⟨l, e1, e2, e3, v1, v2, v3, rfl, h1, h2, h3, h4, h5⟩ := h
  exact ⟨l, e1, e2, e3, v1, v2, v3, rfl, e _ _ h1, e _ _ h2, e _ _ h3, e _ _ h4, h5.ex e⟩
def spEdges (C CT : Addr) : Sp := fun vs H Q _ => ∃ (t : V) (a b c : I2), vs = [t] ∧ IsT C CT t a b c H ∧ ∀ v H', Same H H' → IsE C v a b c H' → Q v H'
def spArea (C CT : Addr) : Sp := fun vs H Q _ => ∃ (n : Nat) (t : V) (a b c : I2), vs = [t] ∧ IsT C CT t a b c H ∧ n < 1000 ∧ Sm2 n a ∧ Sm2 n b ∧ Sm2 n c ∧ ∀ H', Same H H' → Q (.int (sd a b c)) H'
def mv (p q : I2) : I2 := (p.1 + q.1, p.2 + q.2)
def spMoved (C CT : Addr) : Sp := fun vs H Q _ => ∃ (n : Nat) (t u : V) (a b c by' : I2), vs = [t, u] ∧ IsT C CT t a b c H ∧ IsPt2 C u by' H ∧ n < 999 ∧ Sm2 n a ∧ Sm2 n b ∧ Sm2 n c ∧ Sm2 n by' ∧ 0 < sd a b c ∧ ∀ v H', Same H H' → IsT C CT v (mv a by') (mv b by') (mv c by') H' → Q v H'
def inT (a b c p : I2) : Bool := decide (0 ≤ sd a b p) && (decide (0 ≤ sd b c p) && decide (0 ≤ sd c a p))
/-- the edge (a, b) is one of d e f -/
def hasE (a b d e f : I2) : Bool := (decide (d = a) && decide (e = b)) || ((decide (e = a) && decide (f = b)) || (decide (f = a) && decide (d = b)))
def eqT (a b c d e f : I2) : Bool := hasE a b d e f && hasE b c d e f
def spTEq (C CT : Addr) : Sp := fun vs H Q _ => ∃ (t u : V) (a b c : I2), vs = [t, u] ∧ IsT C CT t a b c H ∧ ((∃ d e f : I2, IsT C CT u d e f H ∧ ∀ H', Same H H' → Q (.bl (eqT a b c d e f)) H') ∨ ((∃ q xs, u = .ref q ∧ H q = some (.lst xs)) ∧ Q (.bl false) H))
/-- what the top has written of Triangle -/
structure TxtT (K : PySem.W.Frag) (mg : Str → Option Value) (CT : Addr) : Prop where
  cl : Cls K CT
  nT : NoAttr K CT "tips"
  mgT : mg "Triangle" = some (.ref CT)
  list : mg "list" = none
  all : mg "all" = none
  ha : PySem.W.findIn K (.ref CT) "__class__" = some (some (.builtin "object.__class__"))
  hm : PySem.W.mroIn K CT (.type "object") = some true
  kLT : PySem.W.kitOne K (.type "list") (.ref CT) = some false
  kTT : PySem.W.kitOne K (.ref CT) (.ref CT) = some true
/-- the defs of Triangle -/
structure TDefs (K : PySem.W.Frag) (mg : Str → Option Value) (C CT fS fTI fCo fEd fAr fEq fAd pAr : Addr) (fdS fdTI fdCo fdEd fdAr fdEq fdAd : FuncData) : Prop where
  TT : TxtT K mg CT
  FS : Fun K "side" "side" sSide fS fdS
  bS : Binds K fdS ["a", "b", "point"] []
  mS : mg "side" = some (.ref fS)
  MT : Mk K CT fTI
  FTI : Fun K "__init__" "Triangle.__init__" sTInit fTI fdTI
  bTI : Binds K fdTI ["self", "a", "b", "c"] []
  FCo : Fun K "corners" "Triangle.corners" sCorners fCo fdCo
  bCo : Binds K fdCo ["self"] []
  mCo : Meth K CT "corners" fCo
  FEd : Fun K "edges" "Triangle.edges" sEdges fEd fdEd
  bEd : Binds K fdEd ["self"] []
  mEd : Meth K CT "edges" fEd
  FAr : Fun K "area2" "Triangle.area2" sArea fAr fdAr
  bAr : Binds K fdAr ["self"] []
  pAr : PropOf K CT "area2" pAr fAr
  FEq : Fun K "__eq__" "Point.__eq__" sEq fEq fdEq
  bEq : Binds K fdEq ["self", "other"] []
  oEq : PySem.W.findIn K (.ref C) "__eq__" = some (some (.ref fEq))
  iEq : PySem.W.isFn K (.ref fEq) = true
  FAd : Fun K "__add__" "Point.__add__" sAdd fAd fdAd
  bAd : Binds K fdAd ["self", "other"] []
  oAd : OwnOp K C .Add fAd
section
variable {P : Program} {w : World} {K : PySem.W.Frag} {mg : Str → Option Value} {base : Heap}
variable {C fW fI fP fA fO CT fS fTI fCo fEd fAr fEq fAd pAr : Addr} {fdW fdI fdP fdA fdO fdS fdTI fdCo fdEd fdAr fdEq fdAd : FuncData}
theorem scTInit : FnScope ["self", "a", "b", "c", "first", "second", "third", "turn"] ["self", "a", "b", "c"] (defScope sTInit) := ⟨rfl, rfl, rfl, by decide +kernel, rfl, by decide +kernel, by decide +kernel⟩
theorem TDefs.GTI (d : TDefs K mg C CT fS fTI fCo fEd fAr fEq fAd pAr fdS fdTI fdCo fdEd fdAr fdEq fdAd) (D : Defs K mg C fW fI fP fA fO fdW fdI fdP fdA fdO) : FnOk P w K mg base CX0 8 fTI fdTI ["self", "a", "b", "c"] (spTInit C CT) := by
  have GA : FnOk P w K mg base CX0 4 fA fdA ["thing"] (spAsPoint C) := D.GA
  have GS : FnOk P w K mg base CX0 7 fS fdS ["a", "b", "point"] (spSide C) := ok_side d.FS D
  refine d.FTI.ok scTInit (fun vs H Q E h => ?_) (fun cdv A outer s H vs Q E hr h => ?_)
  · obtain ⟨n, p, dx, u, v, w, a, b, c, rfl, _⟩ := h
    rfl
  · obtain ⟨n, p, dx, u, v, w, a, b, c, rfl, hp, hu, hv, hw, n1, sa, sb, sc, ne, k⟩ := h
    have hr4 : Room 4 _ := hr.mono (by decide)
    refine ⟨_, pss_cons (ps_set (i := 4) scTInit.nd rfl (Or.inl rfl) (pe_call GA hr4 rfl D.mA D.FA.kp D.bA .nil pass0 (pa_cons (pv 1) pa_nil)))
      (pss_cons (ps_set (i := 5) scTInit.nd rfl (Or.inl rfl) (pe_call GA hr4 rfl D.mA D.FA.kp D.bA .nil pass0 (pa_cons (pv 2) pa_nil)))
      (pss_cons (ps_set (i := 6) scTInit.nd rfl (Or.inl rfl) (pe_call GA hr4 rfl D.mA D.FA.kp D.bA .nil pass0 (pa_cons (pv 3) pa_nil)))
      (pss_cons (ps_set (i := 7) scTInit.nd rfl (Or.inl rfl) (pe_call GS (hr.mono (by decide)) rfl d.mS d.FS.kp d.bS .nil pass0 (pa_cons (pv 4) (pa_cons (pv 5) (pa_cons (pv 6) pa_nil)))))
      (pss_cons (ps_if (pt_cmpR op_eq (pv 7) pe_int (nomark _)) (pss_one ps_never) pss_nil)
      (pss_one (ps_if (pt_cmpR op_gt (pv 7) pe_int (nomark _)) (pss_one (ps_fld (pv 0) (pe_lst (pa_cons (pv 4) (pa_cons (pv 5) (pa_cons (pv 6) pa_nil)))) rfl)) (pss_one (ps_fld (pv 0) (pe_lst (pa_cons (pv 4) (pa_cons (pv 6) (pa_cons (pv 5) pa_nil)))) rfl)))))))), ?_⟩
    refine ⟨_, rfl, u, a.1, a.2, rfl, hu, fun w1 H1 e1 h1 _ => ?_⟩
    refine ⟨_, rfl, v, b.1, b.2, rfl, hv.ex e1, fun w2 H2 e2 h2 _ => ?_⟩
    refine ⟨_, rfl, w, c.1, c.2, rfl, (hw.ex e1).ex e2, fun w3 H3 e3 h3 _ => ?_⟩
    have t1 := (h1.ex e2).ex e3
    have t2 := h2.ex e3
    refine ⟨_, rfl, _, rfl, _, rfl, n, w1, w2, w3, a.1, a.2, b.1, b.2, c.1, c.2, rfl, t1.pt, t2.pt, h3.pt, n1, sa.1, sa.2, sb.1, sb.2, sc.1, sc.2, fun H4 e4 => ?_⟩
    have e := ((e1.trans e2).trans e3).trans e4
    refine ⟨_, rfl, rfl, _, rfl, ?_⟩
    have nz : decide (V.int (sideI a.1 a.2 b.1 b.2 c.1 c.2) = V.int 0) = false := decide_eq_false (fun q => ne (by injection q))
    rw [nz]
    refine iteF ?_
    refine ⟨_, rfl, _, _, rfl, rfl, _, rfl, ?_⟩
    have fin : ∀ (l : Addr) (y z : V) (qb qc : I2), H4 l = none → IsP C y qb.1 qb.2 H4 → IsP C z qc.1 qc.2 H4 → qb = onB a b c → qc = onC a b c → Q .non (upd (upd H4 l (.lst [w1, y, z])) p (.ins CT dx (tipF l))) := fun l y z qb qc nl hy hz e5 e6 => by
      subst e5 e6
      have g := same_new (o := .lst [w1, y, z]) nl
      have pl : (upd H4 l (.lst [w1, y, z])) p = some (.ins CT dx []) := g _ _ (e _ _ hp)
      have np : l ≠ p := fun q => by
        rw [q, e _ _ hp] at nl
        cases nl
      have one : ∀ (v : V) (x y' : Int), IsP C v x y' H4 → IsP C v x y' (upd (upd H4 l (.lst [w1, y, z])) p (.ins CT dx (tipF l))) := fun v x y' hv => by
        obtain ⟨q, dq, rfl, hq⟩ := hv
        refine ⟨q, dq, rfl, ?_⟩
        have nq : q ≠ p := fun z => by
          rw [z, e _ _ hp] at hq
          injection hq with hq
          injection hq with _ _ h3
          have h4 := congrArg (List.lookup ("x" : Str)) h3
          rw [ptF_x] at h4
          cases h4
        rw [upd_ne nq]
        exact g _ _ hq
      refine k l w1 y z _ ((But.of (e.trans g)).trans But.upd) upd_same ?_ ⟨one _ _ _ ((t1.ex e4)), one _ _ _ hy, one _ _ _ hz⟩
      rw [upd_ne np]
      exact upd_same
    have hb4 := t2.ex e4
    have hc4 := h3.ex e4
    by_cases hs : 0 < sd a b c
    · have hd : decide ((0 : Int) < sideI a.1 a.2 b.1 b.2 c.1 c.2) = true := decide_eq_true hs
      rw [hd]
      refine iteT ?_
      refine ⟨_, rfl, _, rfl, _, rfl, (by show 3 ≤ sizeLine; decide), fun l nl => ?_⟩
      refine ⟨_, rfl, p, CT, dx, [], rfl, same_new nl _ _ (e _ _ hp), d.TT.cl, d.TT.nT, (by show 0 < 1000; decide), ?_⟩
      exact fin l w2 w3 b c nl hb4 hc4 (by unfold onB; rw [if_pos hs]) (by unfold onC; rw [if_pos hs])
    · have hd : decide ((0 : Int) < sideI a.1 a.2 b.1 b.2 c.1 c.2) = false := decide_eq_false hs
      rw [hd]
      refine iteF ?_
      refine ⟨_, rfl, _, rfl, _, rfl, (by show 3 ≤ sizeLine; decide), fun l nl => ?_⟩
      refine ⟨_, rfl, p, CT, dx, [], rfl, same_new nl _ _ (e _ _ hp), d.TT.cl, d.TT.nT, (by show 0 < 1000; decide), ?_⟩
      exact fin l w3 w2 c b nl hc4 hb4 (by unfold onB; rw [if_neg hs]) (by unfold onC; rw [if_neg hs])
end
end Fo

set_option Elab.async false
set_option linter.all false
set_option maxRecDepth 100000
set_option maxHeartbeats 2000000
namespace Fo
open PySem L2
/-! ### the methods of Triangle -/
section
variable {P : Program} {w : World} {K : PySem.W.Frag} {mg : Str → Option Value} {base : Heap}
variable {C fW fI fP fA fO CT fS fTI fCo fEd fAr fEq fAd pAr : Addr} {fdW fdI fdP fdA fdO fdS fdTI fdCo fdEd fdAr fdEq fdAd : FuncData}
/-- Triangle(u, v, w): spTInit's reading at a new instance -/
theorem make_tri {H : Hp} {u v w : V} {a b c : I2} {n : Nat} {Q : VK} {E : XK} (hu : IsPt2 C u a H) (hv : IsPt2 C v b H) (hw : IsPt2 C w c H) (n1 : n < 1000) (sa : Sm2 n a) (sb : Sm2 n b) (sc : Sm2 n c) (ne : sd a b c ≠ 0)
    (k : ∀ t H', Same H H' → IsT C CT t a (onB a b c) (onC a b c) H' → Q t H') :
    ∀ x dx, H x = none → H dx = none → dx ≠ x → spTInit C CT (.ref x :: ([u, v, w] ++ [])) (upd (upd H dx (.own x)) x (.ins CT dx [])) (fun v H2 => v = .non ∧ Q (.ref x) H2) E := fun x dx nx nd ndx => by
  have g1 : Same H (upd (upd H dx (.own x)) x (.ins CT dx [])) := (same_new nd).trans (same_new (by rw [upd_ne ndx.symm]; exact nx))
  refine ⟨n, x, dx, u, v, w, a, b, c, rfl, upd_same, hu.ex g1, hv.ex g1, hw.ex g1, n1, sa, sb, sc, ne, fun l v1 v2 v3 H' bt hx hl ht => ⟨rfl, ?_⟩⟩
  exact k _ H' (bt.same nx g1) ⟨x, dx, l, v1, v2, v3, rfl, hx, hl, ht⟩
theorem scCorners : FnScope ["self"] ["self"] (defScope sCorners) := ⟨rfl, rfl, rfl, by decide +kernel, rfl, by decide +kernel, by decide +kernel⟩
theorem TDefs.GCo (d : TDefs K mg C CT fS fTI fCo fEd fAr fEq fAd pAr fdS fdTI fdCo fdEd fdAr fdEq fdAd) : FnOk P w K mg base CX0 1 fCo fdCo ["self"] (spCorners C CT) := by
  refine d.FCo.ok scCorners (fun vs H Q E h => ?_) (fun cdv A outer s H vs Q E hr h => ?_)
  · obtain ⟨t, a, b, c, rfl, _⟩ := h
    rfl
  · obtain ⟨t, a, b, c, rfl, ⟨q, dx, l, v1, v2, v3, rfl, h1, h2, h3⟩, k⟩ := h
    refine ⟨_, pss_one (ps_ret (pe_callTy call_list_of (by rfl) d.TT.list (by decide +kernel) (pa_cons (pe_fld (pv 0) rfl) pa_nil))), ?_⟩
    refine ⟨_, rfl, q, CT, dx, _, _, rfl, h1, d.TT.cl, d.TT.nT, tipF_tips _, l, _, rfl, .inl (SqL.of h2), fun m nm => ?_⟩
    exact k m v1 v2 v3 _ nm (same_new nm) upd_same (h3.ex (same_new nm))
theorem scEdges : FnScope ["self"] ["self"] (defScope sEdges) := ⟨rfl, rfl, rfl, by decide +kernel, rfl, by decide +kernel, by decide +kernel⟩
theorem TDefs.GEd (d : TDefs K mg C CT fS fTI fCo fEd fAr fEq fAd pAr fdS fdTI fdCo fdEd fdAr fdEq fdAd) : FnOk P w K mg base CX0 1 fEd fdEd ["self"] (spEdges C CT) := by
  refine d.FEd.ok scEdges (fun vs H Q E h => ?_) (fun cdv A outer s H vs Q E hr h => ?_)
  · obtain ⟨t, a, b, c, rfl, _⟩ := h
    rfl
  · obtain ⟨t, a, b, c, rfl, ⟨q, dx, l, v1, v2, v3, rfl, h1, h2, h3⟩, k⟩ := h
    refine ⟨_, pss_one (ps_ret (pe_lst (pa_cons (pe_tup (pa_cons (pe_ix ix_list (pe_fld (pv 0) rfl) pe_int (fun _ _ => rfl)) (pa_cons (pe_ix ix_list (pe_fld (pv 0) rfl) pe_int (fun _ _ => rfl)) pa_nil)))
      (pa_cons (pe_tup (pa_cons (pe_ix ix_list (pe_fld (pv 0) rfl) pe_int (fun _ _ => rfl)) (pa_cons (pe_ix ix_list (pe_fld (pv 0) rfl) pe_int (fun _ _ => rfl)) pa_nil)))
      (pa_cons (pe_tup (pa_cons (pe_ix ix_list (pe_fld (pv 0) rfl) pe_int (fun _ _ => rfl)) (pa_cons (pe_ix ix_list (pe_fld (pv 0) rfl) pe_int (fun _ _ => rfl)) pa_nil))) pa_nil))))), ?_⟩
    have Z : 2 ≤ sizeLine := by decide
    have T := d.TT
    refine ⟨_, rfl, q, CT, dx, _, _, rfl, h1, T.cl, T.nT, tipF_tips _, l, _, _, _, rfl, rfl, SqL.of h2, atI_nat (j := 0) rfl, ?_⟩
    refine ⟨_, rfl, q, CT, dx, _, _, rfl, h1, T.cl, T.nT, tipF_tips _, l, _, _, _, rfl, rfl, SqL.of h2, atI_nat (j := 1) rfl, Z, fun t1 n1 => ?_⟩
    have g1 := same_new (o := .tup [v1, v2]) n1
    have a1 := g1 _ _ h1
    have a2 := g1 _ _ h2
    refine ⟨_, rfl, q, CT, dx, _, _, rfl, a1, T.cl, T.nT, tipF_tips _, l, _, _, _, rfl, rfl, SqL.of a2, atI_nat (j := 1) rfl, ?_⟩
    refine ⟨_, rfl, q, CT, dx, _, _, rfl, a1, T.cl, T.nT, tipF_tips _, l, _, _, _, rfl, rfl, SqL.of a2, atI_nat (j := 2) rfl, Z, fun t2 n2 => ?_⟩
    have g2 := same_new (o := .tup [v2, v3]) n2
    have b1 := g2 _ _ a1
    have b2 := g2 _ _ a2
    refine ⟨_, rfl, q, CT, dx, _, _, rfl, b1, T.cl, T.nT, tipF_tips _, l, _, _, _, rfl, rfl, SqL.of b2, atI_nat (j := 2) rfl, ?_⟩
    refine ⟨_, rfl, q, CT, dx, _, _, rfl, b1, T.cl, T.nT, tipF_tips _, l, _, _, _, rfl, rfl, SqL.of b2, atI_nat (j := 0) rfl, Z, fun t3 n3 => ?_⟩
    have g3 := same_new (o := .tup [v3, v1]) n3
    refine ⟨(by show 3 ≤ sizeLine; decide), fun m nm => ?_⟩
    have g4 := same_new (o := .lst [.ref t1, .ref t2, .ref t3]) nm
    have g := ((g1.trans g2).trans g3).trans g4
    exact k _ _ g ⟨m, t1, t2, t3, v1, v2, v3, rfl, upd_same, (g2.trans (g3.trans g4)) _ _ upd_same, (g3.trans g4) _ _ upd_same, g4 _ _ upd_same, h3.ex g⟩
theorem scArea : FnScope ["self"] ["self"] (defScope sArea) := ⟨rfl, rfl, rfl, by decide +kernel, rfl, by decide +kernel, by decide +kernel⟩
theorem TDefs.GAr (d : TDefs K mg C CT fS fTI fCo fEd fAr fEq fAd pAr fdS fdTI fdCo fdEd fdAr fdEq fdAd) (D : Defs K mg C fW fI fP fA fO fdW fdI fdP fdA fdO) : FnOk P w K mg base CX0 8 fAr fdAr ["self"] (spArea C CT) := by
  have GS : FnOk P w K mg base CX0 7 fS fdS ["a", "b", "point"] (spSide C) := ok_side d.FS D
  refine d.FAr.ok scArea (fun vs H Q E h => ?_) (fun cdv A outer s H vs Q E hr h => ?_)
  · obtain ⟨n, t, a, b, c, rfl, _⟩ := h
    rfl
  · obtain ⟨n, t, a, b, c, rfl, ⟨q, dx, l, v1, v2, v3, rfl, h1, h2, h3⟩, n1, sa, sb, sc, k⟩ := h
    refine ⟨_, pss_one (ps_ret (pe_call GS hr rfl d.mS d.FS.kp d.bS .nil pass0 (pa_cons (pe_ix ix_list (pe_fld (pv 0) rfl) pe_int (fun _ _ => rfl)) (pa_cons (pe_ix ix_list (pe_fld (pv 0) rfl) pe_int (fun _ _ => rfl)) (pa_cons (pe_ix ix_list (pe_fld (pv 0) rfl) pe_int (fun _ _ => rfl)) pa_nil))))), ?_⟩
    have T := d.TT
    refine ⟨_, rfl, q, CT, dx, _, _, rfl, h1, T.cl, T.nT, tipF_tips _, l, _, _, _, rfl, rfl, SqL.of h2, atI_nat (j := 0) rfl, ?_⟩
    refine ⟨_, rfl, q, CT, dx, _, _, rfl, h1, T.cl, T.nT, tipF_tips _, l, _, _, _, rfl, rfl, SqL.of h2, atI_nat (j := 1) rfl, ?_⟩
    refine ⟨_, rfl, q, CT, dx, _, _, rfl, h1, T.cl, T.nT, tipF_tips _, l, _, _, _, rfl, rfl, SqL.of h2, atI_nat (j := 2) rfl, ?_⟩
    exact ⟨n, v1, v2, v3, a.1, a.2, b.1, b.2, c.1, c.2, rfl, h3.1.pt, h3.2.1.pt, h3.2.2.pt, n1, sa.1, sa.2, sb.1, sb.2, sc.1, sc.2, k⟩
theorem sd_mv (a b c q : I2) : sd (mv a q) (mv b q) (mv c q) = sd a b c := by
  unfold sd sideI mv
  grind
theorem Sm.add {n : Nat} {x y : Int} (hx : Sm n x) (hy : Sm n y) : Sm (n + 1) (x + y) := by
  unfold Sm at *
  rw [Nat.pow_succ]
  omega
theorem Sm2.mv {n : Nat} {p q : I2} (hp : Sm2 n p) (hq : Sm2 n q) : Sm2 (n + 1) (mv p q) := ⟨hp.1.add hq.1, hp.2.add hq.2⟩
end
end Fo

set_option Elab.async false
set_option linter.all false
set_option maxRecDepth 100000
set_option maxHeartbeats 2000000
namespace Fo
open PySem L2
/-! ### list comprehensions with any target -/
/-- [te for g in l] -/
theorem lc_all {K : PySem.W.Frag} {l D : Addr} {g : TG} {te : TE} {sl : List Nat} {σ : L2.St} {H1 : Hp} {xs : List V} {Qd : Hp → Prop} (R : Nat → V → Hp → Prop) (rex : ∀ i v H H', Same H H' → R i v H → R i v H') (rbut : ∀ i v H H' D ys, H D = some (HO.lst ys) → But D H H' → R i v H → R i v H')
    (hl : SqL K H1 l xs) (hn : xs.length ≤ 1000)
    (step : ∀ i x H', xs[i]? = some x → Same H1 H' → ∀ Q' : VK, (∀ v H'', Same H' H'' → R i v H'' → Q' v H'') → g x (wipe σ sl) H' fun σ2 H2 => wipe σ2 sl = wipe σ sl ∧ te σ2 H2 Q')
    (hd : ∀ H' vs, Same H1 H' → H' D = some (.lst vs) → vs.length = xs.length → (∀ i v, vs[i]? = some v → R i v H') → Qd H') (hD : H1 D = none) :
    ∃ W : Nat → Nat → Hp → Prop, (∃ m, W 0 m (upd H1 D (.lst []))) ∧ ∀ i m H, W i m H → ((Itl K l).stop i H ∧ Qd H) ∨
      ((Itl K l).go i H ∧ ∃ Nx : Hp → Prop, (∀ H', Nx H' → ∃ m', m' < m ∧ W (i + 1) m' H') ∧ ∀ x H', (Itl K l).yld i H x H' → g x (wipe σ sl) H' fun σ2 H2 => wipe σ2 sl = wipe σ sl ∧ tYes σ2 H2 fun b H3 =>
      if b = true then te σ2 H3 fun y H4 => ∃ acc, H4 D = some (.lst acc) ∧ acc.length < sizeLine ∧ Nx (upd H4 D (.lst (acc ++ [y]))) else Nx H3) := by
  refine lc_list (K := K) (a := l) (xs := xs) (fun i H' => Same H1 H' ∧ ∃ vs : List V, H' D = some (.lst vs) ∧ vs.length = i ∧ ∀ j v, vs[j]? = some v → R j v H') ?_ ?_ ?_ ?_
  · exact ⟨same_new hD, [], upd_same, rfl, fun j v h => by simp at h⟩
  · rintro i H' _ ⟨e, _⟩
    exact e.seq hl
  · rintro i x H' hx ⟨e, vs, hv, hlen, hp⟩
    have hi : i < xs.length := (List.getElem?_eq_some_iff.mp hx).1
    refine step i x H' hx e (fun y H4 => ∃ acc, H4 D = some (.lst acc) ∧ acc.length < sizeLine ∧ Same H1 (upd H4 D (.lst (acc ++ [y]))) ∧ ∃ vs : List V, (upd H4 D (.lst (acc ++ [y]))) D = some (.lst vs) ∧ vs.length = i + 1 ∧ ∀ j v, vs[j]? = some v → R j v (upd H4 D (.lst (acc ++ [y])))) fun v H'' e2 h2 => ?_
    have hv2 := e2 _ _ hv
    refine ⟨vs, hv2, Nat.lt_of_lt_of_le (by omega : vs.length < 1001) (by decide), (But.upd.same hD (e.trans e2)), vs ++ [v], upd_same, by rw [List.length_append, hlen]; rfl, fun j u hu => ?_⟩
    by_cases hj : j < vs.length
    · rw [List.getElem?_append_left hj] at hu
      exact rbut _ _ _ _ _ _ hv2 But.upd (rex _ _ _ _ e2 (hp j u hu))
    · have hj2 : j = vs.length := by
        have := (List.getElem?_eq_some_iff.mp hu).1
        rw [List.length_append] at this
        simp at this
        omega
      subst hj2
      rw [List.getElem?_append_right (Nat.le_refl _)] at hu
      simp at hu
      subst hu
      rw [hlen]
      exact rbut _ _ _ _ _ _ hv2 But.upd h2
  · rintro H' ⟨e, vs, hv, hlen, hp⟩
    exact hd H' vs e hv hlen hp
/-- how many of the first i are kept -/
def kept (keep : Nat → Bool) : Nat → Nat
  | 0 => 0
  | i + 1 => kept keep i + (if keep i = true then 1 else 0)
theorem kept_zero {keep : Nat → Bool} : ∀ {n : Nat}, kept keep n = 0 ↔ ∀ j, j < n → keep j = false
  | 0 => ⟨fun _ j hj => absurd hj (Nat.not_lt_zero _), fun _ => rfl⟩
  | n + 1 => by
    have ih := kept_zero (keep := keep) (n := n)
    show kept keep n + (if keep n = true then 1 else 0) = 0 ↔ _
    constructor
    · intro h j hj
      cases hk : keep n with
      | true =>
        rw [hk, if_pos rfl] at h
        omega
      | false =>
        rw [hk] at h
        by_cases q : j = n
        · rw [q]; exact hk
        · exact ih.mp (by simpa using h) j (by omega)
    · intro h
      rw [h n (Nat.lt_succ_self _), ih.mpr fun j hj => h j (by omega)]
      rfl
/-- [c for g in l if tt] -/
theorem lc_filt {K : PySem.W.Frag} {l D : Addr} {g : TG} {tt : TT} {te : TE} {sl : List Nat} {σ : L2.St} {H1 : Hp} {xs : List V} {Qd : Hp → Prop} (keep : Nat → Bool) (c : V)
    (hl : SqL K H1 l xs) (hn : xs.length ≤ 1000)
    (step : ∀ i x H', xs[i]? = some x → Same H1 H' → ∀ Nx : Hp → Prop, ∀ Q' : VK, (keep i = false → ∀ H'', Same H' H'' → Nx H'') → (keep i = true → ∀ H'', Same H' H'' → Q' c H'') → g x (wipe σ sl) H' fun σ2 H2 => wipe σ2 sl = wipe σ sl ∧ tt σ2 H2 fun b H3 => if b = true then te σ2 H3 Q' else Nx H3)
    (hd : ∀ H', Same H1 H' → H' D = some (.lst (List.replicate (kept keep xs.length) c)) → Qd H') (hD : H1 D = none) :
    ∃ W : Nat → Nat → Hp → Prop, (∃ m, W 0 m (upd H1 D (.lst []))) ∧ ∀ i m H, W i m H → ((Itl K l).stop i H ∧ Qd H) ∨
      ((Itl K l).go i H ∧ ∃ Nx : Hp → Prop, (∀ H', Nx H' → ∃ m', m' < m ∧ W (i + 1) m' H') ∧ ∀ x H', (Itl K l).yld i H x H' → g x (wipe σ sl) H' fun σ2 H2 => wipe σ2 sl = wipe σ sl ∧ tt σ2 H2 fun b H3 =>
      if b = true then te σ2 H3 fun y H4 => ∃ acc, H4 D = some (.lst acc) ∧ acc.length < sizeLine ∧ Nx (upd H4 D (.lst (acc ++ [y]))) else Nx H3) := by
  refine lc_list (K := K) (a := l) (xs := xs) (fun i H' => Same H1 H' ∧ i ≤ xs.length ∧ H' D = some (.lst (List.replicate (kept keep i) c))) ?_ ?_ ?_ ?_
  · exact ⟨same_new hD, Nat.zero_le _, upd_same⟩
  · rintro i H' _ ⟨e, _⟩
    exact e.seq hl
  · rintro i x H' hx ⟨e, hi', hv⟩
    have hi : i < xs.length := (List.getElem?_eq_some_iff.mp hx).1
    have hk : ∀ j, kept keep j ≤ j := fun j => by
      induction j with
      | zero => exact Nat.le_refl _
      | succ j ih =>
        show kept keep j + _ ≤ j + 1
        split <;> omega
    refine step i x H' hx e _ _ (fun hf H'' e2 => ?_) fun ht H'' e2 => ?_
    · refine ⟨e.trans e2, hi, ?_⟩
      show H'' D = some (.lst (List.replicate (kept keep i + (if keep i = true then 1 else 0)) c))
      rw [hf]
      exact e2 _ _ hv
    · have := hk i
      refine ⟨_, e2 _ _ hv, Nat.lt_of_lt_of_le (by rw [List.length_replicate]; omega : _ < 1001) (by decide), (But.upd.same hD (e.trans e2)), hi, ?_⟩
      rw [upd_same]
      show some (HO.lst _) = some (.lst (List.replicate (kept keep i + (if keep i = true then 1 else 0)) c))
      rw [ht, if_pos rfl, List.replicate_succ']
  · rintro H' ⟨e, _, hv⟩
    exact hd H' e hv
/-- [te for g in range(n)] -/
theorem lc_rAll {D : Addr} {lo : Int} {n : Nat} {g : TG} {te : TE} {sl : List Nat} {σ : L2.St} {H1 : Hp} {Qd : Hp → Prop} (R : Nat → V → Hp → Prop) (rex : ∀ i v H H', Same H H' → R i v H → R i v H') (rbut : ∀ i v H H' D ys, H D = some (HO.lst ys) → But D H H' → R i v H → R i v H')
    (hn : n ≤ 1000)
    (step : ∀ i H', i < n → Same H1 H' → ∀ Q' : VK, (∀ v H'', Same H' H'' → R i v H'' → Q' v H'') → g (.int (lo + i)) (wipe σ sl) H' fun σ2 H2 => wipe σ2 sl = wipe σ sl ∧ te σ2 H2 Q')
    (hd : ∀ H' vs, Same H1 H' → H' D = some (.lst vs) → vs.length = n → (∀ i v, vs[i]? = some v → R i v H') → Qd H') (hD : H1 D = none) :
    ∃ W : Nat → Nat → Hp → Prop, (∃ m, W 0 m (upd H1 D (.lst []))) ∧ ∀ i m H, W i m H → ((Itr lo n).stop i H ∧ Qd H) ∨
      ((Itr lo n).go i H ∧ ∃ Nx : Hp → Prop, (∀ H', Nx H' → ∃ m', m' < m ∧ W (i + 1) m' H') ∧ ∀ x H', (Itr lo n).yld i H x H' → g x (wipe σ sl) H' fun σ2 H2 => wipe σ2 sl = wipe σ sl ∧ tYes σ2 H2 fun b H3 =>
      if b = true then te σ2 H3 fun y H4 => ∃ acc, H4 D = some (.lst acc) ∧ acc.length < sizeLine ∧ Nx (upd H4 D (.lst (acc ++ [y]))) else Nx H3) := by
  refine lc_range (lo := lo) (n := n) (fun i H' => Same H1 H' ∧ ∃ vs : List V, H' D = some (.lst vs) ∧ vs.length = i ∧ ∀ j v, vs[j]? = some v → R j v H') ?_ ?_ ?_
  · exact ⟨same_new hD, [], upd_same, rfl, fun j v h => by simp at h⟩
  · rintro i H' hi ⟨e, vs, hv, hlen, hp⟩
    refine step i H' hi e (fun y H4 => ∃ acc, H4 D = some (.lst acc) ∧ acc.length < sizeLine ∧ Same H1 (upd H4 D (.lst (acc ++ [y]))) ∧ ∃ vs : List V, (upd H4 D (.lst (acc ++ [y]))) D = some (.lst vs) ∧ vs.length = i + 1 ∧ ∀ j v, vs[j]? = some v → R j v (upd H4 D (.lst (acc ++ [y])))) fun v H'' e2 h2 => ?_
    have hv2 := e2 _ _ hv
    refine ⟨vs, hv2, Nat.lt_of_lt_of_le (by omega : vs.length < 1001) (by decide), (But.upd.same hD (e.trans e2)), vs ++ [v], upd_same, by rw [List.length_append, hlen]; rfl, fun j u hu => ?_⟩
    by_cases hj : j < vs.length
    · rw [List.getElem?_append_left hj] at hu
      exact rbut _ _ _ _ _ _ hv2 But.upd (rex _ _ _ _ e2 (hp j u hu))
    · have hj2 : j = vs.length := by
        have := (List.getElem?_eq_some_iff.mp hu).1
        rw [List.length_append] at this
        simp at this
        omega
      subst hj2
      rw [List.getElem?_append_right (Nat.le_refl _)] at hu
      simp at hu
      subst hu
      rw [hlen]
      exact rbut _ _ _ _ _ _ hv2 But.upd h2
  · rintro H' ⟨e, vs, hv, hlen, hp⟩
    exact hd H' vs e hv hlen hp
theorem IsP.but {C D : Addr} {v : V} {x y : Int} {H H' : Hp} {ys : List V} (hD : H D = some (.lst ys)) (b : But D H H') (h : IsP C v x y H) : IsP C v x y H' := by
  obtain ⟨a, dx, rfl, h⟩ := h
  exact ⟨a, dx, rfl, b _ _ (ne_of h hD (by intro z; cases z)) h⟩
theorem two3 {e1 e2 e3 x : V} {i : Nat} (h : [e1, e2, e3][i]? = some x) : (i = 0 ∧ x = e1) ∨ (i = 1 ∧ x = e2) ∨ (i = 2 ∧ x = e3) := by
  match i, h with
  | 0, h => exact .inl ⟨rfl, (Option.some.inj h).symm⟩
  | 1, h => exact .inr (.inl ⟨rfl, (Option.some.inj h).symm⟩)
  | 2, h => exact .inr (.inr ⟨rfl, (Option.some.inj h).symm⟩)
  | n + 3, h => simp at h
theorem len3' {vs : List V} (h : vs.length = 3) : ∃ a b c, vs = [a, b, c] := by
  match vs, h with
  | [a, b, c], _ => exact ⟨a, b, c, rfl⟩
end Fo

set_option Elab.async false
set_option linter.all false
set_option maxRecDepth 100000
set_option maxHeartbeats 2000000
namespace Fo
open PySem L2
/-! ### the law's own words of triangles -/
abbrev sLSide : Stmt := top 25
abbrev sCorn : Stmt := top 26
abbrev sWays : Stmt := top 27
def rLenK (K : PySem.W.Frag) : List V → Hp → VK → Prop := fun xs H Q => ∃ p ys, xs = [V.ref p] ∧ (SqL K H p ys ∨ SqT K H p ys) ∧ Q (V.int ys.length) H
abbrev Tp (H : Hp) (q : Addr) (p : I2) : Prop := H q = some (.tup [.int p.1, .int p.2])
theorem seq_gen {t1 t2 : TS} {D : Ends} {σ : L2.St} {H : Hp} (cond : L2.St → Hp → Prop) (h1 : ∀ N : L2.St → Hp → Prop, (∀ σ' H', cond σ' H' → N σ' H') → t1 { D with nx := N } σ H) (h2 : ∀ σ' H', cond σ' H' → t2 D σ' H') : tSeq t1 t2 D σ H := h1 _ h2
/-- three tuples of numbers -/
structure T3 (H : Hp) (qa qb qc : Addr) (a b c : I2) : Prop where
  a : Tp H qa a
  b : Tp H qb b
  c : Tp H qc c
theorem T3.ex {H H' : Hp} {qa qb qc : Addr} {a b c : I2} (e : Same H H') (h : T3 H qa qb qc a b c) : T3 H' qa qb qc a b c := ⟨e _ _ h.a, e _ _ h.b, e _ _ h.c⟩
def spLSide : Sp := fun vs H Q _ => ∃ (n : Nat) (qa qb qp : Addr) (a b p : I2), vs = [.ref qa, .ref qb, .ref qp] ∧ T3 H qa qb qp a b p ∧ n < 1000 ∧ Sm2 n a ∧ Sm2 n b ∧ Sm2 n p ∧ Q (.int (sd a b p)) H
def spCorn : Sp := fun vs H Q _ => ∃ p : Addr, vs = [.ref p, .int 8] ∧ PoolAt p H ∧ ∀ l qa qb qc a b c H', But p H H' → PoolAt p H' → H' l = some (.lst [.ref qa, .ref qb, .ref qc]) → T3 H' qa qb qc a b c → 0 < sd a b c → Sm2 5 a → Sm2 5 b → Sm2 5 c → Q (.ref l) H'
def spWays (K : PySem.W.Frag) : Sp := fun vs H Q _ => ∃ (l : Addr) (x y z : V), vs = [.ref l] ∧ SqL K H l [x, y, z] ∧ ∀ m e1 e2 e3 H', H m = none → Same H H' → H' m = some (.lst [.ref e1, .ref e2, .ref e3]) → H' e1 = some (.tup [x, y]) → H' e2 = some (.tup [y, z]) → H' e3 = some (.tup [z, x]) → Q (.ref m) H'
section
variable {P : Program} {w : World} {K : PySem.W.Frag} {mg : Str → Option Value} {base : Heap}
theorem scLSide : FnScope ["a", "b", "p"] ["a", "b", "p"] (defScope sLSide) := ⟨rfl, rfl, rfl, by decide +kernel, rfl, by decide +kernel, by decide +kernel⟩
theorem ok_lside {f : Addr} {fd : FuncData} (F : Fun K "_law_side" "_law_side" sLSide f fd) : FnOk P w K mg base CX0 1 f fd ["a", "b", "p"] spLSide := by
  refine F.ok scLSide (fun vs H Q E h => ?_) (fun cdv A outer s H vs Q E hr h => ?_)
  · obtain ⟨n, qa, qb, qp, a, b, p, rfl, _⟩ := h
    rfl
  · obtain ⟨n, qa, qb, qp, a, b, p, rfl, t, n1, sa, sb, sp, k⟩ := h
    refine ⟨_, pss_one (ps_ret (pe_op op_sub
      (pe_op op_mulW (pe_op op_sub (pe_ix ix_tup (pv 1) pe_int (fun _ _ => rfl)) (pe_ix ix_tup (pv 0) pe_int (fun _ _ => rfl))) (pe_op op_sub (pe_ix ix_tup (pv 2) pe_int (fun _ _ => rfl)) (pe_ix ix_tup (pv 0) pe_int (fun _ _ => rfl))))
      (pe_op op_mulW (pe_op op_sub (pe_ix ix_tup (pv 1) pe_int (fun _ _ => rfl)) (pe_ix ix_tup (pv 0) pe_int (fun _ _ => rfl))) (pe_op op_sub (pe_ix ix_tup (pv 2) pe_int (fun _ _ => rfl)) (pe_ix ix_tup (pv 0) pe_int (fun _ _ => rfl)))))), ?_⟩
    refine ⟨_, rfl, qb, _, _, _, rfl, rfl, SqT.of t.b, atI_nat (j := 0) rfl, _, rfl, qa, _, _, _, rfl, rfl, SqT.of t.a, atI_nat (j := 0) rfl, _, _, rfl, rfl, ?_⟩
    refine ⟨_, rfl, qp, _, _, _, rfl, rfl, SqT.of t.c, atI_nat (j := 1) rfl, _, rfl, qa, _, _, _, rfl, rfl, SqT.of t.a, atI_nat (j := 1) rfl, _, _, rfl, rfl, ?_⟩
    refine ⟨_, _, rfl, rfl, (sb.1.sub sa.1).mul (sp.2.sub sa.2) (Nat.succ_pos _) n1, ?_⟩
    refine ⟨_, rfl, qb, _, _, _, rfl, rfl, SqT.of t.b, atI_nat (j := 1) rfl, _, rfl, qa, _, _, _, rfl, rfl, SqT.of t.a, atI_nat (j := 1) rfl, _, _, rfl, rfl, ?_⟩
    refine ⟨_, rfl, qp, _, _, _, rfl, rfl, SqT.of t.c, atI_nat (j := 0) rfl, _, rfl, qa, _, _, _, rfl, rfl, SqT.of t.a, atI_nat (j := 0) rfl, _, _, rfl, rfl, ?_⟩
    refine ⟨_, _, rfl, rfl, (sb.2.sub sa.2).mul (sp.1.sub sa.1) (Nat.succ_pos _) n1, ?_⟩
    exact ⟨_, _, rfl, rfl, k⟩
theorem scWays : FnScope ["corners_here", "k"] ["corners_here"] (defScope sWays) := ⟨rfl, rfl, rfl, by decide +kernel, rfl, by decide +kernel, by decide +kernel⟩
theorem ok_ways {f : Addr} {fd : FuncData} (F : Fun K "_law_ways" "_law_ways" sWays f fd) (T : TxtL mg) : FnOk P w K mg base CX0 1 f fd ["corners_here"] (spWays K) := by
  refine F.ok scWays (fun vs H Q E h => ?_) (fun cdv A outer s H vs Q E hr h => ?_)
  · obtain ⟨l, x, y, z, rfl, _⟩ := h
    rfl
  · obtain ⟨l, x, y, z, rfl, hl, k⟩ := h
    refine ⟨_, pss_one (ps_ret (pe_lc (own := [("k", 1)]) (g := gName 1) (tt := tYes) rfl scWays.nd (pi_range1 rfl T.range (pa_cons (pe_callB call_len_seq (by rfl) T.len PySem.boot_len (pa_cons (pv 0) pa_nil)) pa_nil))
      (blkOk_by (own := [("k", 1)]) (N := ["corners_here", "k"]) (sc := defScope sWays) (by decide +kernel)) (fun _ _ _ _ _ => pg_name (i := 1) scWays.nd rfl (Or.inl rfl)) (fun _ _ _ _ _ => pts_nil)
      (fun _ _ _ _ _ => pe_tup (pa_cons (pe_ix (r := rIxL K) ix_list (pv 0) (pv 1) (fun _ _ => rfl)) (pa_cons (pe_ix (r := rIxL K) ix_list (pv 0) (pe_op op_mod (pe_op op_add (pv 1) pe_int) (pe_callB (r := rLenK K) call_len_seq (by rfl) T.len PySem.boot_len (pa_cons (pv 0) pa_nil))) (fun _ _ => rfl)) pa_nil))))), ?_⟩
    refine ⟨_, rfl, l, _, rfl, .inl hl, 3, rfl, by decide, by decide, fun D0 nD => ?_⟩
    refine lc_rAll (lo := 0) (n := 3) (sl := [1]) (fun i v H' => ∃ e, v = .ref e ∧ H' e = some (.tup (if i = 0 then [x, y] else if i = 1 then [y, z] else [z, x]))) (fun i v H H' e h => by obtain ⟨q, h1, h2⟩ := h; exact ⟨q, h1, e _ _ h2⟩)
      (fun i v H H' D ys hD b h => by obtain ⟨q, h1, h2⟩ := h; exact ⟨q, h1, b _ _ (ne_of h2 hD (by intro z; cases z)) h2⟩) (by decide) ?_ ?_ nD
    · intro i H2 hi e2 Q' k'
      have hl2 := e2.seq hl
      have : i = 0 ∨ i = 1 ∨ i = 2 := by omega
      refine ⟨rfl, ?_⟩
      rcases this with rfl | rfl | rfl
      · refine ⟨_, rfl, _, rfl, l, _, _, _, rfl, rfl, hl2, atI_nat (j := 0) rfl, _, rfl, _, rfl, _, _, rfl, rfl, _, rfl, l, _, rfl, .inl hl2, _, _, rfl, rfl, (by show (0 : Int) < 3; decide), l, _, _, _, rfl, rfl, hl2, (show atI [x, y, z] (1 : Int) = some y from atI_nat (j := 1) rfl), (by show 2 ≤ sizeLine; decide), fun t nt => ?_⟩
        exact k' _ _ (same_new nt) ⟨t, rfl, upd_same⟩
      · refine ⟨_, rfl, _, rfl, l, _, _, _, rfl, rfl, hl2, atI_nat (j := 1) rfl, _, rfl, _, rfl, _, _, rfl, rfl, _, rfl, l, _, rfl, .inl hl2, _, _, rfl, rfl, (by show (0 : Int) < 3; decide), l, _, _, _, rfl, rfl, hl2, (show atI [x, y, z] (2 : Int) = some z from atI_nat (j := 2) rfl), (by show 2 ≤ sizeLine; decide), fun t nt => ?_⟩
        exact k' _ _ (same_new nt) ⟨t, rfl, upd_same⟩
      · refine ⟨_, rfl, _, rfl, l, _, _, _, rfl, rfl, hl2, atI_nat (j := 2) rfl, _, rfl, _, rfl, _, _, rfl, rfl, _, rfl, l, _, rfl, .inl hl2, _, _, rfl, rfl, (by show (0 : Int) < 3; decide), l, _, _, _, rfl, rfl, hl2, (by rw [show ((0 + ((2 : Nat) : Int) + 1) % (([x, y, z] : List V).length : Int)) = ((0 : Nat) : Int) from by simp]; exact atI_nat (j := 0) rfl), (by show 2 ≤ sizeLine; decide), fun t nt => ?_⟩
        exact k' _ _ (same_new nt) ⟨t, rfl, upd_same⟩
    · intro H2 vs e2 hv hlen hR
      obtain ⟨x1, x2, x3, rfl⟩ := len3' hlen
      obtain ⟨t1, rfl, r1⟩ := hR 0 x1 rfl
      obtain ⟨t2, rfl, r2⟩ := hR 1 x2 rfl
      obtain ⟨t3, rfl, r3⟩ := hR 2 x3 rfl
      exact k D0 t1 t2 t3 H2 nD e2 hv r1 r2 r3
theorem scCorn : FnScope ["pool", "size_here", "a", "b", "c"] ["pool", "size_here"] (defScope sCorn) := ⟨rfl, rfl, rfl, by decide +kernel, rfl, by decide +kernel, by decide +kernel⟩
theorem sm5 {x : Int} (h0 : -31 ≤ x) (h1 : x ≤ 31) : Sm 5 x := by
  unfold Sm
  omega
theorem ok_corn {f fD fPr fLs : Addr} {fd fdD fdPr fdLs : FuncData} (F : Fun K "_law_corners" "_law_corners" sCorn f fd) (T : TxtL mg) (FD : Fun K "_law_draw" "_law_draw" sDraw fD fdD) (bD : Binds K fdD ["pool", "many"] []) (mD : mg "_law_draw" = some (.ref fD))
    (FPr : Fun K "_law_pair" "_law_pair" sPair fPr fdPr) (bPr : Binds K fdPr ["pool", "size_here"] []) (mPr : mg "_law_pair" = some (.ref fPr)) (FLs : Fun K "_law_side" "_law_side" sLSide fLs fdLs) (bLs : Binds K fdLs ["a", "b", "p"] []) (mLs : mg "_law_side" = some (.ref fLs)) :
    FnOk P w K mg base CX0 3 f fd ["pool", "size_here"] spCorn := by
  have GD : FnOk P w K mg base CX0 1 fD fdD ["pool", "many"] spDraw := ok_draw FD T
  have GP : FnOk P w K mg base CX0 2 fPr fdPr ["pool", "size_here"] spPair := ok_pair FPr T FD bD mD
  have GL : FnOk P w K mg base CX0 1 fLs fdLs ["a", "b", "p"] spLSide := ok_lside FLs
  refine F.ok scCorn (fun vs H Q E h => ?_) (fun cdv A outer s H vs Q E hr h => ?_)
  · obtain ⟨p, rfl, _⟩ := h
    rfl
  · obtain ⟨p, rfl, hp, k⟩ := h
    have hr1 : Room 1 _ := hr.mono (by decide)
    refine ⟨_, pss_cons (ps_par3 (i := 2) (j := 3) (l := 4) (by rfl) scCorn.nd rfl rfl rfl (by decide) (by decide) (by decide) rfl rfl rfl (pa_cons (pe_call GP hr rfl mPr FPr.kp bPr .nil pass0 (pa_cons (pv 0) (pa_cons (pv 1) pa_nil))) (pa_cons (pe_call GP hr rfl mPr FPr.kp bPr .nil pass0 (pa_cons (pv 0) (pa_cons (pv 1) pa_nil))) (pa_cons (pe_call GP hr rfl mPr FPr.kp bPr .nil pass0 (pa_cons (pv 0) (pa_cons (pv 1) pa_nil))) pa_nil))) (by rfl))
      (pss_cons (ps_if (pt_cmpR op_eq (pe_call GL hr1 rfl mLs FLs.kp bLs .nil pass0 (pa_cons (pv 2) (pa_cons (pv 3) (pa_cons (pv 4) pa_nil)))) pe_int (nomark _))
        (pss_one (ps_par (i := 3) (j := 4) (by rfl) scCorn.nd rfl rfl (by decide) rfl rfl (pa_cons (pe_tup (pa_cons (pe_op op_add (pe_op op_add (pe_ix ix_tup (pv 2) pe_int (fun _ _ => rfl)) pe_int) (pe_call GD hr1 rfl mD FD.kp bD .nil pass0 (pa_cons (pv 0) (pa_cons pe_int pa_nil)))) (pa_cons (pe_ix ix_tup (pv 2) pe_int (fun _ _ => rfl)) pa_nil)))
          (pa_cons (pe_tup (pa_cons (pe_op op_add (pe_ix ix_tup (pv 2) pe_int (fun _ _ => rfl)) (pe_call GD hr1 rfl mD FD.kp bD .nil pass0 (pa_cons (pv 0) (pa_cons pe_int pa_nil)))) (pa_cons (pe_op op_add (pe_ix ix_tup (pv 2) pe_int (fun _ _ => rfl)) pe_int) pa_nil))) pa_nil)) (by rfl))) pss_nil)
      (pss_one (ps_ret (pe_ifExp (pt_cmpR op_gt (pe_call GL hr1 rfl mLs FLs.kp bLs .nil pass0 (pa_cons (pv 2) (pa_cons (pv 3) (pa_cons (pv 4) pa_nil)))) pe_int (nomark _)) (pe_lst (pa_cons (pv 2) (pa_cons (pv 3) (pa_cons (pv 4) pa_nil)))) (pe_lst (pa_cons (pv 2) (pa_cons (pv 4) (pa_cons (pv 3) pa_nil)))))))), ?_⟩
    refine seq_gen (fun σ' H' => ∃ qa qb qc a b c, σ' = [some (.ref p), some (.int 8), some (.ref qa), some (.ref qb), some (.ref qc)] ∧ But p H H' ∧ PoolAt p H' ∧ T3 H' qa qb qc a b c ∧ (-8 ≤ a.1 ∧ a.1 ≤ 8 ∧ -8 ≤ a.2 ∧ a.2 ≤ 8) ∧ (-8 ≤ b.1 ∧ b.1 ≤ 8 ∧ -8 ≤ b.2 ∧ b.2 ≤ 8) ∧ (-8 ≤ c.1 ∧ c.1 ≤ 8 ∧ -8 ≤ c.2 ∧ c.2 ≤ 8)) (fun N hN => ?_) ?_
    · refine ⟨_, rfl, _, rfl, p, 8, rfl, hp, by decide, by decide, fun q1 x1 y1 H1 b1 p1 h1 c1 c2 c3 c4 => ?_⟩
      refine ⟨_, rfl, _, rfl, p, 8, rfl, p1, by decide, by decide, fun q2 x2 y2 H2 b2 p2 h2 d1 d2 d3 d4 => ?_⟩
      refine ⟨_, rfl, _, rfl, p, 8, rfl, p2, by decide, by decide, fun q3 x3 y3 H3 b3 p3 h3 e1 e2 e3 e4 => ?_⟩
      refine ⟨_, _, _, rfl, ?_⟩
      exact hN _ _ ⟨q1, q2, q3, (x1, y1), (x2, y2), (x3, y3), rfl, (b1.trans b2).trans b3, p3, ⟨b3 _ _ (tup_ne p2 (b2 _ _ (tup_ne p1 h1) h1)) (b2 _ _ (tup_ne p1 h1) h1), b3 _ _ (tup_ne p2 h2) h2, h3⟩, ⟨c1, c2, c3, c4⟩, ⟨d1, d2, d3, d4⟩, ⟨e1, e2, e3, e4⟩⟩
    rintro σ H2 ⟨qa, qb, qc, a, b, c, rfl, b2, p2, t2, ra, rb, rc⟩
    refine seq_gen (fun σ' H' => ∃ qb qc b c, σ' = [some (.ref p), some (.int 8), some (.ref qa), some (.ref qb), some (.ref qc)] ∧ But p H H' ∧ PoolAt p H' ∧ T3 H' qa qb qc a b c ∧ sd a b c ≠ 0 ∧ Sm2 5 b ∧ Sm2 5 c) (fun N hN => ?_) ?_
    · refine ⟨_, rfl, _, rfl, _, rfl, 5, qa, qb, qc, a, b, c, rfl, t2, by decide, ⟨sm5 (by omega) (by omega), sm5 (by omega) (by omega)⟩, ⟨sm5 (by omega) (by omega), sm5 (by omega) (by omega)⟩, ⟨sm5 (by omega) (by omega), sm5 (by omega) (by omega)⟩, rfl, _, rfl, ?_⟩
      by_cases hz : sd a b c = 0
      · rw [int_eqT hz]
        refine iteT ?_
        refine ⟨_, rfl, qa, _, _, _, rfl, rfl, SqT.of t2.a, atI_nat (j := 0) rfl, _, _, rfl, rfl, _, rfl, p, 3, rfl, p2, by decide, by decide, fun r1 H3 r10 r11 b3 p3 => ?_⟩
        have a3 := b3 _ _ (tup_ne p2 t2.a) t2.a
        refine ⟨_, _, rfl, rfl, _, rfl, qa, _, _, _, rfl, rfl, SqT.of a3, atI_nat (j := 1) rfl, (by show 2 ≤ sizeLine; decide), fun s1 ns1 => ?_⟩
        have g1 := same_new (o := .tup [.int (a.1 + 1 + r1), .int a.2]) ns1
        have a4 := g1 _ _ a3
        have p4 := p3.ex g1
        refine ⟨_, rfl, qa, _, _, _, rfl, rfl, SqT.of a4, atI_nat (j := 0) rfl, _, rfl, p, 3, rfl, p4, by decide, by decide, fun r2 H5 r20 r21 b5 p5 => ?_⟩
        have a5 := b5 _ _ (tup_ne p4 a4) a4
        have s5 := b5 _ _ (tup_ne p4 (upd_same (H := H3) (a := s1) (o := .tup [.int (a.1 + 1 + r1), .int a.2]))) upd_same
        refine ⟨_, _, rfl, rfl, _, rfl, qa, _, _, _, rfl, rfl, SqT.of a5, atI_nat (j := 1) rfl, _, _, rfl, rfl, (by show 2 ≤ sizeLine; decide), fun s2 ns2 => ?_⟩
        have g2 := same_new (o := .tup [.int (a.1 + r2), .int (a.2 + 2)]) ns2
        refine ⟨_, _, rfl, ?_⟩
        have g23 := g2
        refine hN _ _ ⟨s1, s2, (a.1 + 1 + r1, a.2), (a.1 + r2, a.2 + 2), rfl, (((b2.trans b3).trans (But.of g1)).trans b5).trans (But.of g23), p5.ex g23, ⟨g23 _ _ a5, g23 _ _ s5, upd_same⟩, ?_, ⟨sm5 (by show -31 ≤ a.1 + 1 + r1; omega) (by show a.1 + 1 + r1 ≤ 31; omega), sm5 (by show -31 ≤ a.2; omega) (by show a.2 ≤ 31; omega)⟩, ⟨sm5 (by show -31 ≤ a.1 + r2; omega) (by show a.1 + r2 ≤ 31; omega), sm5 (by show -31 ≤ a.2 + 2; omega) (by show a.2 + 2 ≤ 31; omega)⟩⟩
        have e : sd a (a.1 + 1 + r1, a.2) (a.1 + r2, a.2 + 2) = 2 * (1 + r1) := by
          unfold sd sideI
          grind
        rw [e]
        omega
      · rw [int_eqF hz]
        refine iteF ?_
        exact hN _ _ ⟨qb, qc, b, c, rfl, b2, p2, t2, hz, ⟨sm5 (by omega) (by omega), sm5 (by omega) (by omega)⟩, ⟨sm5 (by omega) (by omega), sm5 (by omega) (by omega)⟩⟩
    rintro σ H3 ⟨qb, qc, b, c, rfl, b3, p3, t3, nz, sb, sc⟩
    have sa : Sm2 5 a := ⟨sm5 (by omega) (by omega), sm5 (by omega) (by omega)⟩
    refine ⟨_, rfl, _, rfl, _, rfl, 5, qa, qb, qc, a, b, c, rfl, t3, by decide, sa, sb, sc, _, _, rfl, rfl, _, rfl, ?_⟩
    by_cases hs : 0 < sd a b c
    · rw [decide_eq_true hs]
      refine iteT ?_
      refine ⟨_, rfl, _, rfl, _, rfl, (by show 3 ≤ sizeLine; decide), fun l nl => ?_⟩
      have g := same_new (o := .lst [.ref qa, .ref qb, .ref qc]) nl
      exact k l qa qb qc a b c _ (b3.trans (But.of g)) (p3.ex g) upd_same (t3.ex g) hs sa sb sc
    · rw [decide_eq_false hs]
      refine iteF ?_
      refine ⟨_, rfl, _, rfl, _, rfl, (by show 3 ≤ sizeLine; decide), fun l nl => ?_⟩
      have g := same_new (o := .lst [.ref qa, .ref qc, .ref qb]) nl
      have t4 := t3.ex g
      have e : sd a c b = - sd a b c := by
        unfold sd sideI
        grind
      exact k l qa qc qb a c b _ (b3.trans (But.of g)) (p3.ex g) upd_same ⟨t4.a, t4.c, t4.b⟩ (by omega) sa sc sb
end
end Fo

set_option Elab.async false
set_option linter.all false
set_option maxRecDepth 100000
set_option maxHeartbeats 2000000
namespace Fo
open PySem L2
/-! ### filledonce.values -/
abbrev sWei : Stmt := top 16
abbrev sVal : Stmt := top 17
abbrev sChk : Stmt := top 18
def XDn (v : V) : HO := .xd [((Str.ofString "number"), v)]
section
variable {K : PySem.W.Frag}
theorem kit_list : PySem.W.kitAny K (.type "list") [.type "list", .type "tuple"] = some true := kitAny_cons (b := true) (kit_ty (by decide +kernel)) (fun z => nomatch z) fun _ => rfl
theorem kit_tuple : PySem.W.kitAny K (.type "tuple") [.type "list", .type "tuple"] = some true := kitAny_cons (b := false) (kit_ty (by decide +kernel)) (fun _ => kitAny_cons (b := true) (kit_ty (by decide +kernel)) (fun z => nomatch z) fun _ => rfl) fun z => nomatch z
theorem kit_no {a : String} (h1 : kitB a "list" = some false) (h2 : kitB a "tuple" = some false) : PySem.W.kitAny K (.type a) [.type "list", .type "tuple"] = some false := kitAny_cons (b := false) (kit_ty h1) (fun _ => kitAny_cons (b := false) (kit_ty h2) (fun _ => kitAny_nil) fun z => nomatch z) fun z => nomatch z
end
abbrev lt2 : List V := [.ty "list", .ty "tuple"]
theorem lt2_ok : Paired ClsV lt2 [.type "list", .type "tuple"] := .cons (.ty _) (.cons (.ty _) .nil)
/-- three whole numbers in a list or a tuple -/
def Is3 (H : Hp) (v : V) (x y z : Int) : Prop := ∃ a, v = .ref a ∧ (H a = some (.lst [.int x, .int y, .int z]) ∨ H a = some (.tup [.int x, .int y, .int z]))
theorem Is3.ex {H H' : Hp} {v : V} {x y z : Int} (e : Same H H') (h : Is3 H v x y z) : Is3 H' v x y z := by
  obtain ⟨a, rfl, h⟩ := h
  exact ⟨a, rfl, h.imp (e _ _) (e _ _)⟩
/-- what is no list and no tuple -/
inductive NoS (H : Hp) : V → Prop
  | non : NoS H .non
  | str (z : Str) : NoS H (.str z)
  | dct {a : Addr} {kvs : List (L2.Key × V)} (h : H a = some (.dK kvs)) : NoS H (.ref a)
theorem NoS.ex {H H' : Hp} {v : V} (e : Same H H') (h : NoS H v) : NoS H' v := by
  cases h with
  | non => exact .non
  | str z => exact .str z
  | dct h => exact .dct (e _ _ h)
/-- values that are none, and what is told of them -/
def BadV (H : Hp) (v nv : V) : Prop := (NoS H v ∧ nv = .non) ∨ (∃ (a : Addr) (xs : List V), v = .ref a ∧ H a = some (.lst xs) ∧ xs.length ≠ 3 ∧ nv = .non) ∨
  (∃ (a : Addr) (xs : List V) (k : Nat) (y : V), v = .ref a ∧ H a = some (.lst xs) ∧ xs.length = 3 ∧ (∀ i x, i < k → xs[i]? = some x → ∃ j, x = .int j) ∧ xs[k]? = some y ∧ Scal y ∧ wholeV y = false ∧ nv = .int (k : Nat))
theorem BadV.ex {H H' : Hp} {v nv : V} (e : Same H H') (h : BadV H v nv) : BadV H' v nv := by
  rcases h with ⟨h, r⟩ | ⟨a, xs, h1, h2, r⟩ | ⟨a, xs, k, y, h1, h2, r⟩
  · exact .inl ⟨h.ex e, r⟩
  · exact .inr (.inl ⟨a, xs, h1, e _ _ h2, r⟩)
  · exact .inr (.inr ⟨a, xs, k, y, h1, e _ _ h2, r⟩)
def spWei (C CT : Addr) : Sp := fun vs H Q _ => ∃ (n : Nat) (t z : V) (a b c p : I2), vs = [t, z] ∧ IsT C CT t a b c H ∧ IsPt2 C z p H ∧ n < 1000 ∧ Sm2 n a ∧ Sm2 n b ∧ Sm2 n c ∧ Sm2 n p ∧ ∀ q H', Same H H' → H' q = some (.tup [.int (sd b c p), .int (sd c a p), .int (sd a b p)]) → Q (.ref q) H'
def spWeiX (CI : Addr) : Sp := fun vs H _ E => ∃ t z : V, vs = [t, z] ∧ Bad H z ∧ ∀ d H', Same H H' → H' d = some (XD z) → E (.ref CI) (some d) H'
def spChk : Sp := fun vs H Q _ => ∃ (v : V) (x y z : Int), vs = [v] ∧ Is3 H v x y z ∧ ∀ H', Same H H' → Q .non H'
def spChkX (CV : Addr) : Sp := fun vs H _ E => ∃ v nv : V, vs = [v] ∧ BadV H v nv ∧ ∀ d H', Same H H' → H' d = some (XDn nv) → E (.ref CV) (some d) H'
/-- what is divided -/
def tot (a b c p : I2) (x y z : Int) : Int := sd b c p * x + (sd c a p * y + (sd a b p * z + 0))
def spVal (C CT : Addr) : Sp := fun vs H Q _ => ∃ (n : Nat) (t v z : V) (a b c p : I2) (x y w : Int), vs = [t, v, z] ∧ IsT C CT t a b c H ∧ Is3 H v x y w ∧ IsPt2 C z p H ∧ n < 400 ∧ Sm2 n a ∧ Sm2 n b ∧ Sm2 n c ∧ Sm2 n p ∧ Sm 400 x ∧ Sm 400 y ∧ Sm 400 w ∧ 0 < sd a b c ∧
  ∀ q H', Same H H' → H' q = some (.tup [.int (tot a b c p x y w / (Int.gcd (tot a b c p x y w) (sd a b c) : Int)), .int (sd a b c / (Int.gcd (tot a b c p x y w) (sd a b c) : Int))]) → Q (.ref q) H'
def spValX (C CT CI CV : Addr) : Sp := fun vs H _ E => ∃ t v z : V, vs = [t, v, z] ∧
  ((Bad H z ∧ ∀ d H', Same H H' → H' d = some (XD z) → E (.ref CI) (some d) H') ∨
   (∃ (n : Nat) (a b c p : I2) (nv : V), IsT C CT t a b c H ∧ IsPt2 C z p H ∧ n < 1000 ∧ Sm2 n a ∧ Sm2 n b ∧ Sm2 n c ∧ Sm2 n p ∧ BadV H v nv ∧ ∀ d H', Same H H' → H' d = some (XDn nv) → E (.ref CV) (some d) H'))
theorem sd_sm {n : Nat} {a b p : I2} (sa : Sm2 n a) (sb : Sm2 n b) (sp : Sm2 n p) : Sm (2 * n + 3) (sd a b p) := by
  have h1 : Sm ((n + 1) + (n + 1)) ((b.1 - a.1) * (p.2 - a.2)) := wide_lt (sb.1.sub sa.1) (sp.2.sub sa.2)
  have h2 : Sm ((n + 1) + (n + 1)) ((b.2 - a.2) * (p.1 - a.1)) := wide_lt (sb.2.sub sa.2) (sp.1.sub sa.1)
  have h3 := h1.sub h2
  rw [show (n + 1) + (n + 1) + 1 = 2 * n + 3 by omega] at h3
  exact h3
structure VTxt (mg : Str → Option Value) : Prop where
  sum : mg "sum" = none
  zip : mg "zip" = none
  enum : mg "enumerate" = none
  list : mg "list" = none
  abs : mg "abs" = none
structure VDefs (K : PySem.W.Frag) (mg : Str → Option Value) (fG fWe fCk fVa : Addr) (fdG fdWe fdCk fdVa : FuncData) : Prop where
  T : VTxt mg
  FG : Fun K "common_divisor" "common_divisor" sGcd fG fdG
  bG : Binds K fdG ["one", "other"] []
  mG : mg "common_divisor" = some (.ref fG)
  FWe : Fun K "weights" "weights" sWei fWe fdWe
  bWe : Binds K fdWe ["triangle", "point"] []
  mWe : mg "weights" = some (.ref fWe)
  FCk : Fun K "check_values" "check_values" sChk fCk fdCk
  bCk : Binds K fdCk ["values"] []
  mCk : mg "check_values" = some (.ref fCk)
  FVa : Fun K "value_at" "value_at" sVal fVa fdVa
  bVa : Binds K fdVa ["triangle", "values", "point"] []
  mVa : mg "value_at" = some (.ref fVa)
section
variable {P : Program} {w : World} {K : PySem.W.Frag} {mg : Str → Option Value} {base : Heap}
variable {C fW fI fP fA fO CT fS fTI fCo fEd fAr fEq fAd pAr CI fII CV fVI fG fWe fCk fVa : Addr} {fdW fdI fdP fdA fdO fdS fdTI fdCo fdEd fdAr fdEq fdAd fdG fdWe fdCk fdVa : FuncData}
theorem scWei : FnScope ["triangle", "point", "place", "a", "b", "c"] ["triangle", "point"] (defScope sWei) := ⟨rfl, rfl, rfl, by decide +kernel, rfl, by decide +kernel, by decide +kernel⟩
theorem ok_wei (D : Defs K mg C fW fI fP fA fO fdW fdI fdP fdA fdO) (d : TDefs K mg C CT fS fTI fCo fEd fAr fEq fAd pAr fdS fdTI fdCo fdEd fdAr fdEq fdAd) (Vd : VDefs K mg fG fWe fCk fVa fdG fdWe fdCk fdVa) : FnOk P w K mg base CX0 8 fWe fdWe ["triangle", "point"] (spWei C CT) := by
  have GA : FnOk P w K mg base CX0 4 fA fdA ["thing"] (spAsPoint C) := D.GA
  have GS : FnOk P w K mg base CX0 7 fS fdS ["a", "b", "point"] (spSide C) := ok_side d.FS D
  have GCo : FnOk P w K mg base CX0 1 fCo fdCo ["self"] (spCorners C CT) := d.GCo
  refine Vd.FWe.ok scWei (fun vs H Q E h => ?_) (fun cdv A outer s H vs Q E hr h => ?_)
  · obtain ⟨n, t, z, a, b, c, p, rfl, _⟩ := h
    rfl
  · obtain ⟨n, t, z, a, b, c, p, rfl, hT, hz, n1, sa, sb, sc, sp, k⟩ := h
    refine ⟨_, pss_cons (ps_set (i := 2) scWei.nd rfl (Or.inl rfl) (pe_call GA (hr.mono (by decide)) rfl D.mA D.FA.kp D.bA .nil pass0 (pa_cons (pv 1) pa_nil)))
      (pss_cons (ps_asg (pe_meth0 (pv 0) d.TT.cl d.mCo GCo (hr.mono (by decide)) d.bCo .nil pass0) (pg_unl rfl (pgs_cons (pg_name (i := 3) scWei.nd rfl (Or.inl rfl)) (pgs_cons (pg_name (i := 4) scWei.nd rfl (Or.inl rfl)) (pgs_cons (pg_name (i := 5) scWei.nd rfl (Or.inl rfl)) pgs_nil)))))
      (pss_one (ps_ret (pe_tup (pa_cons (pe_call GS hr rfl d.mS d.FS.kp d.bS .nil pass0 (pa_cons (pv 4) (pa_cons (pv 5) (pa_cons (pv 2) pa_nil)))) (pa_cons (pe_call GS hr rfl d.mS d.FS.kp d.bS .nil pass0 (pa_cons (pv 5) (pa_cons (pv 3) (pa_cons (pv 2) pa_nil)))) (pa_cons (pe_call GS hr rfl d.mS d.FS.kp d.bS .nil pass0 (pa_cons (pv 3) (pa_cons (pv 4) (pa_cons (pv 2) pa_nil)))) pa_nil))))))), ?_⟩
    refine ⟨_, rfl, z, p.1, p.2, rfl, hz, fun w1 H1 e1 h1 _ => ?_⟩
    have hT1 := hT.ex e1
    obtain ⟨tr, dx, l6, q1, q2, q3, rfl, htr, _⟩ := id hT1
    refine ⟨_, rfl, tr, dx, _, rfl, htr, tipF_no _ (by decide +kernel), _, a, b, c, rfl, hT1, fun lc z1 z2 z3 H2 nlc e2 hlc th => ?_⟩
    refine ⟨lc, _, rfl, SqL.of hlc, rfl, _, _, rfl, _, _, rfl, _, _, rfl, rfl, ?_⟩
    have hp := h1.ex e2
    refine ⟨_, rfl, _, rfl, _, rfl, n, z2, z3, w1, b.1, b.2, c.1, c.2, p.1, p.2, rfl, th.2.1.pt, th.2.2.pt, hp.pt, n1, sb.1, sb.2, sc.1, sc.2, sp.1, sp.2, fun H3 e3 => ?_⟩
    refine ⟨_, rfl, _, rfl, _, rfl, n, z3, z1, w1, c.1, c.2, a.1, a.2, p.1, p.2, rfl, (th.2.2.ex e3).pt, (th.1.ex e3).pt, (hp.ex e3).pt, n1, sc.1, sc.2, sa.1, sa.2, sp.1, sp.2, fun H4 e4 => ?_⟩
    have e34 := e3.trans e4
    refine ⟨_, rfl, _, rfl, _, rfl, n, z1, z2, w1, a.1, a.2, b.1, b.2, p.1, p.2, rfl, (th.1.ex e34).pt, (th.2.1.ex e34).pt, (hp.ex e34).pt, n1, sa.1, sa.2, sb.1, sb.2, sp.1, sp.2, fun H5 e5 => ?_⟩
    refine ⟨(by show 3 ≤ sizeLine; decide), fun q nq => ?_⟩
    exact k q _ (e1.trans (e2.trans (e34.trans (e5.trans (same_new nq))))) upd_same
theorem ok_weiX (D : Defs K mg C fW fI fP fA fO fdW fdI fdP fdA fdO) (TX : TxtX P K mg C CI fII) (Vd : VDefs K mg fG fWe fCk fVa fdG fdWe fdCk fdVa) : FnOk P w K mg base (L2.CX P w) 4 fWe fdWe ["triangle", "point"] (spWeiX CI) := by
  have GA : FnOk P w K mg base (L2.CX P w) 3 fA fdA ["thing"] (spBadX CI) := ok_as_pointX D TX
  refine Vd.FWe.okX scWei (fun vs H Q E h => ?_) (fun cdv A outer s H vs Q E hr h => ?_)
  · obtain ⟨t, z, rfl, _⟩ := h
    rfl
  · obtain ⟨t, z, rfl, bad, k⟩ := h
    refine ⟨_, pss_cons (ps_set (i := 2) scWei.nd rfl (Or.inl rfl) (pe_call (E := E) GA hr rfl D.mA D.FA.kp D.bA .nil (passes_call (takes_of rfl rfl rfl rfl) fun _ _ _ _ h => h) (pa_cons (pv 1) pa_nil)))
      (pss_cons ps_never (pss_one ps_never)), ?_⟩
    exact ⟨_, rfl, z, rfl, bad, k⟩
theorem scChk : FnScope ["values", "number", "worth"] ["values"] (defScope sChk) := ⟨rfl, rfl, rfl, by decide +kernel, rfl, by decide +kernel, by decide +kernel⟩
theorem get3 {x y z : Int} {j : Nat} {v : V} (h : [V.int x, V.int y, V.int z][j]? = some v) : ∃ i, v = .int i := by
  rcases two3 h with ⟨_, rfl⟩ | ⟨_, rfl⟩ | ⟨_, rfl⟩ <;> exact ⟨_, rfl⟩
theorem ok_chk (D : Defs K mg C fW fI fP fA fO fdW fdI fdP fdA fdO) (Vd : VDefs K mg fG fWe fCk fVa fdG fdWe fdCk fdVa) : FnOk P w K mg base CX0 2 fCk fdCk ["values"] spChk := by
  have GW : FnOk P w K mg base CX0 1 fW fdW ["value"] spWholeX := ok_wholeX D.FW D.T
  have T := D.T
  refine Vd.FCk.ok scChk (fun vs H Q E h => ?_) (fun cdv A outer s H vs Q E hr h => ?_)
  · obtain ⟨v, x, y, z, rfl, _⟩ := h
    rfl
  · obtain ⟨v, x, y, z, rfl, h3, k⟩ := h
    refine ⟨_, pss_cons (ps_if (PW.pt (pw_or (pt_not (pt_val (pe_callB call_isiT (by rfl) T.isi (by decide +kernel) (pa_cons (pv 0) (pa_cons (pe_tup (pa_cons (pe_bltn (v := .ty "list") (by rfl) Vd.T.list (by decide +kernel) rfl) (pa_cons (pe_bltn (v := .ty "tuple") (by rfl) T.tuple (by decide +kernel) rfl) pa_nil))) pa_nil)))))
        (pw_or1 (pt_cmpR op_ne (pe_callB call_len_seq (by rfl) T.len PySem.boot_len (pa_cons (pv 0) pa_nil)) pe_int (nomark _))))) (pss_one ps_never) pss_nil)
      (pss_one (ps_for PassesOwn.never rfl (pi_enumX (by rfl) Vd.T.enum (pa_cons (pv 0) pa_nil)) (pg_tup rfl (pgs_cons (pg_name (i := 1) scChk.nd rfl (Or.inl rfl)) (pgs_cons (pg_name (i := 2) scChk.nd rfl (Or.inl rfl)) pgs_nil)))
        (pss_one (ps_if (pt_not (pt_val (pe_call GW hr rfl D.mW D.FW.kp D.bW .nil pass0 (pa_cons (pv 2) pa_nil)))) (pss_one ps_never) pss_nil)))), ?_⟩
    obtain ⟨a, rfl, ha⟩ := h3
    have turn : ∀ (j : Nat) (v : V) (t : Addr) (H2 : Hp), [V.int x, V.int y, V.int z][j]? = some v → ∃ i, v = .int i := fun j v t H2 hv => get3 hv
    rcases ha with ha | ha
    · refine ⟨_, rfl, (by show 2 ≤ sizeLine; decide), fun tp ntp => ?_⟩
      have g := same_new (o := .tup lt2) ntp
      have ha1 := g _ _ ha
      refine ⟨_, tp, lt2, _, _, true, rfl, upd_same, lt2_ok, .base (.lst ha1), kit_list, true, rfl, ?_⟩
      refine iteF ?_
      refine ⟨_, rfl, a, _, rfl, .inl (SqL.of ha1), rfl, _, rfl, iteNS rfl ?_⟩
      refine ⟨_, rfl, a, _, rfl, .inl ⟨SqL.of ha1, ?_⟩⟩
      refine for_enumL (K := K) (a := a) (xs := [V.int x, V.int y, V.int z]) (fun j σ' H' => ∃ v1 v2 : Option V, σ' = [some (.ref a), v1, v2] ∧ Same (upd H tp (.tup lt2)) H') ⟨_, _, rfl, Same.refl _⟩ (fun j σ' H' h => by
        obtain ⟨_, _, _, e⟩ := h
        exact SqL.of (e _ _ ha1)) ?_ ?_
      · rintro j v t σ H2 hv ⟨v1, v2, rfl, e2⟩ nt
        obtain ⟨i, rfl⟩ := get3 hv
        refine ⟨t, _, rfl, SqT.of upd_same, rfl, _, _, rfl, _, _, rfl, rfl, ?_⟩
        refine ⟨_, rfl, .int i, rfl, trivial, true, rfl, ?_⟩
        refine iteF ?_
        exact ⟨_, _, rfl, e2.trans (same_new nt)⟩
      · rintro σ H2 ⟨v1, v2, rfl, e2⟩
        exact k H2 (g.trans e2)
    · refine ⟨_, rfl, (by show 2 ≤ sizeLine; decide), fun tp ntp => ?_⟩
      have g := same_new (o := .tup lt2) ntp
      have ha1 := g _ _ ha
      refine ⟨_, tp, lt2, _, _, true, rfl, upd_same, lt2_ok, .base (.tup ha1), kit_tuple, true, rfl, ?_⟩
      refine iteF ?_
      refine ⟨_, rfl, a, _, rfl, .inr (SqT.of ha1), rfl, _, rfl, iteNS rfl ?_⟩
      refine ⟨_, rfl, a, _, rfl, .inr ⟨SqT.of ha1, ?_⟩⟩
      refine for_enumT (K := K) (a := a) (xs := [V.int x, V.int y, V.int z]) (fun j σ' H' => ∃ v1 v2 : Option V, σ' = [some (.ref a), v1, v2] ∧ Same (upd H tp (.tup lt2)) H') ⟨_, _, rfl, Same.refl _⟩ (fun j σ' H' h => by
        obtain ⟨_, _, _, e⟩ := h
        exact SqT.of (e _ _ ha1)) ?_ ?_
      · rintro j v t σ H2 hv ⟨v1, v2, rfl, e2⟩ nt
        obtain ⟨i, rfl⟩ := get3 hv
        refine ⟨t, _, rfl, SqT.of upd_same, rfl, _, _, rfl, _, _, rfl, rfl, ?_⟩
        refine ⟨_, rfl, .int i, rfl, trivial, true, rfl, ?_⟩
        refine iteF ?_
        exact ⟨_, _, rfl, e2.trans (same_new nt)⟩
      · rintro σ H2 ⟨v1, v2, rfl, e2⟩
        exact k H2 (g.trans e2)
theorem ok_chkX (D : Defs K mg C fW fI fP fA fO fdW fdI fdP fdA fdO) (Vd : VDefs K mg fG fWe fCk fVa fdG fdWe fdCk fdVa) (xV : FoX_number.XTxt P K mg CV fVI) (gV : mg "InvalidValues" = some (.ref CV)) : FnOk P w K mg base (L2.CX P w) 3 fCk fdCk ["values"] (spChkX CV) := by
  have GW : FnOk P w K mg base CX0 1 fW fdW ["value"] spWholeX := ok_wholeX D.FW D.T
  have T := D.T
  refine Vd.FCk.okX scChk (fun vs H Q E h => ?_) (fun cdv A outer s H vs Q E hr h => ?_)
  · obtain ⟨v, nv, rfl, _⟩ := h
    rfl
  · obtain ⟨v, nv, rfl, hb, k⟩ := h
    have hr1 : Room 1 _ := hr.mono (by decide)
    refine ⟨_, pss_cons (ps_if (PW.pt (pw_or (pt_not (pt_val (pe_callB call_isiT (by rfl) T.isi (by decide +kernel) (pa_cons (pv 0) (pa_cons (pe_tup (pa_cons (pe_bltn (v := .ty "list") (by rfl) Vd.T.list (by decide +kernel) rfl) (pa_cons (pe_bltn (v := .ty "tuple") (by rfl) T.tuple (by decide +kernel) rfl) pa_nil))) pa_nil)))))
        (pw_or1 (pt_cmpR op_ne (pe_callB call_len_seq (by rfl) T.len PySem.boot_len (pa_cons (pv 0) pa_nil)) pe_int (nomark _))))) (pss_one (ps_raise_number (W := fun cls d _ H => E cls d H) rfl xV gV hr (takes_of rfl rfl rfl rfl) (pa_cons pe_non pa_nil))) pss_nil)
      (pss_one (ps_for (passes_of rfl) rfl (pi_enumX (by rfl) Vd.T.enum (pa_cons (pv 0) pa_nil)) (pg_tup rfl (pgs_cons (pg_name (i := 1) scChk.nd rfl (Or.inl rfl)) (pgs_cons (pg_name (i := 2) scChk.nd rfl (Or.inl rfl)) pgs_nil)))
        (pss_one (ps_if (pt_not (pt_val (pe_call GW hr1 rfl D.mW D.FW.kp D.bW .nil pass0 (pa_cons (pv 2) pa_nil)))) (pss_one (ps_raise_number (W := fun cls d _ H => E cls d H) rfl xV gV hr (takes_of rfl rfl rfl rfl) (pa_cons (pv 1) pa_nil))) pss_nil)))), ?_⟩
    refine ⟨_, rfl, (by show 2 ≤ sizeLine; decide), fun tp ntp => ?_⟩
    have g := same_new (o := .tup lt2) ntp
    have fin : ∀ (H1 : Hp) d, Same H H1 → H1 d = none → nv = .non → E (.ref CV) (some d) (upd H1 d (XDn .non)) := fun H1 d e nd en => by
      have kk := k d (upd H1 d (XDn .non)) (e.trans (same_new nd))
      rw [en] at kk
      exact kk upd_same
    rcases hb with ⟨hn, en⟩ | ⟨a, xs, rfl, ha, ne, en⟩ | ⟨a, xs, j0, y, rfl, ha, l3, hi, hy, sy, wy, en⟩
    · have hn1 := hn.ex g
      cases hn1 with
      | non => exact ⟨_, tp, lt2, _, _, false, rfl, upd_same, lt2_ok, .base .non, kit_no (by decide +kernel) (by decide +kernel), false, rfl, iteT ⟨_, rfl, fun d nd => fin _ d g nd en⟩⟩
      | str z => exact ⟨_, tp, lt2, _, _, false, rfl, upd_same, lt2_ok, .base (.str z), kit_no (by decide +kernel) (by decide +kernel), false, rfl, iteT ⟨_, rfl, fun d nd => fin _ d g nd en⟩⟩
      | dct h => exact ⟨_, tp, lt2, _, _, false, rfl, upd_same, lt2_ok, .base (.dK h), kit_no (by decide +kernel) (by decide +kernel), false, rfl, iteT ⟨_, rfl, fun d nd => fin _ d g nd en⟩⟩
    · have ha1 := g _ _ ha
      refine ⟨_, tp, lt2, _, _, true, rfl, upd_same, lt2_ok, .base (.lst ha1), kit_list, true, rfl, ?_⟩
      refine iteF ?_
      refine ⟨_, rfl, a, _, rfl, .inl (SqL.of ha1), rfl, _, rfl, ?_⟩
      rw [int_eqF (by omega)]
      exact iteT ⟨_, rfl, fun d nd => fin _ d g nd en⟩
    · have ha1 := g _ _ ha
      refine ⟨_, tp, lt2, _, _, true, rfl, upd_same, lt2_ok, .base (.lst ha1), kit_list, true, rfl, ?_⟩
      refine iteF ?_
      refine ⟨_, rfl, a, _, rfl, .inl (SqL.of ha1), rfl, _, rfl, ?_⟩
      rw [int_eqT (by omega)]
      refine iteF ?_
      refine ⟨_, rfl, a, _, rfl, .inl ⟨SqL.of ha1, ?_⟩⟩
      have jl : j0 < xs.length := (List.getElem?_eq_some_iff.mp hy).1
      refine for_enumL (K := K) (a := a) (xs := xs) (fun j σ' H' => ∃ v1 v2 : Option V, σ' = [some (.ref a), v1, v2] ∧ Same (upd H tp (.tup lt2)) H' ∧ j ≤ j0) ⟨_, _, rfl, Same.refl _, Nat.zero_le _⟩ (fun j σ' H' h => by
        obtain ⟨_, _, _, e, _⟩ := h
        exact SqL.of (e _ _ ha1)) ?_ ?_
      · rintro j v t σ H2 hv ⟨v1, v2, rfl, e2, hj⟩ nt
        have g3 := same_new (o := .tup [.int (j : Nat), v]) nt
        refine ⟨t, _, rfl, SqT.of upd_same, rfl, _, _, rfl, _, _, rfl, rfl, ?_⟩
        by_cases hlt : j < j0
        · obtain ⟨i, rfl⟩ := hi j v hlt hv
          refine ⟨_, rfl, .int i, rfl, trivial, true, rfl, ?_⟩
          refine iteF ?_
          exact ⟨_, _, rfl, e2.trans g3, hlt⟩
        · have hj2 : j = j0 := by omega
          subst hj2
          rw [hy] at hv
          cases hv
          refine ⟨_, rfl, y, rfl, sy, false, by rw [wy], ?_⟩
          refine iteT ?_
          refine ⟨_, rfl, _, rfl, fun d nd => ?_⟩
          have kk := k d (upd (upd H2 t (.tup [.int (j : Nat), y])) d (XDn (.int (j : Nat)))) (g.trans (e2.trans (g3.trans (same_new nd))))
          rw [en] at kk
          exact kk upd_same
      · rintro σ H2 ⟨v1, v2, rfl, e2, hj⟩
        omega
end
end Fo

set_option Elab.async false
set_option linter.all false
set_option maxRecDepth 100000
set_option maxHeartbeats 2000000
namespace Fo
open PySem L2
section
variable {P : Program} {w : World} {K : PySem.W.Frag} {mg : Str → Option Value} {base : Heap}
variable {C fW fI fP fA fO CT fS fTI fCo fEd fAr fEq fAd pAr CI fII CV fVI fG fWe fCk fVa : Addr} {fdW fdI fdP fdA fdO fdS fdTI fdCo fdEd fdAr fdEq fdAd fdG fdWe fdCk fdVa : FuncData}
abbrev valN : List Str := ["triangle", "values", "point", "parts", "total", "area", "shared", "part", "worth"]
theorem scVal : FnScope valN ["triangle", "values", "point"] (defScope sVal) := ⟨rfl, rfl, rfl, by decide +kernel, rfl, by decide +kernel, by decide +kernel⟩
theorem gcd_cd {i T A : Int} {m : Nat} (hA : 0 < A) (sA : Sm m A) (m1 : m ≤ 9000) (m0 : 0 < m) : CDivW i (Int.gcd T A : Int) := by
  have h0 : 0 < Int.gcd T A := Int.gcd_pos_of_ne_zero_right _ (by omega)
  have h1 : Int.gcd T A ≤ A.natAbs := Nat.le_of_dvd (by omega) (Nat.gcd_dvd_right _ _)
  refine wide_div (b := m) (by omega) ?_ m0 m1
  show ((Int.gcd T A : Nat) : Int).natAbs < 2 ^ m
  rw [Int.natAbs_natCast]
  exact Nat.lt_of_le_of_lt h1 sA
theorem ok_val (D : Defs K mg C fW fI fP fA fO fdW fdI fdP fdA fdO) (d : TDefs K mg C CT fS fTI fCo fEd fAr fEq fAd pAr fdS fdTI fdCo fdEd fdAr fdEq fdAd) (Vd : VDefs K mg fG fWe fCk fVa fdG fdWe fdCk fdVa) : FnOk P w K mg base CX0 10 fVa fdVa ["triangle", "values", "point"] (spVal C CT) := by
  have GWe : FnOk P w K mg base CX0 8 fWe fdWe ["triangle", "point"] (spWei C CT) := ok_wei D d Vd
  have GCk : FnOk P w K mg base CX0 2 fCk fdCk ["values"] spChk := ok_chk D Vd
  have GAr : FnOk P w K mg base CX0 8 fAr fdAr ["self"] (spArea C CT) := d.GAr D
  have GG : FnOk P w K mg base CX0 1 fG fdG ["one", "other"] spGcd := ok_gcd Vd.FG Vd.T.abs
  refine Vd.FVa.ok scVal (fun vs H Q E h => ?_) (fun cdv A outer s H vs Q E hr h => ?_)
  · obtain ⟨n, t, v, z, a, b, c, p, x, y, w', rfl, _⟩ := h
    rfl
  · obtain ⟨n, t, v, z, a, b, c, p, x, y, w', rfl, hT, h3, hz, n1, sa, sb, sc, sp, sx, sy, sw, pos, k⟩ := h
    refine ⟨_, pss_cons (ps_set (i := 3) scVal.nd rfl (Or.inl rfl) (pe_call GWe (hr.mono (by decide)) rfl Vd.mWe Vd.FWe.kp Vd.bWe .nil pass0 (pa_cons (pv 0) (pa_cons (pv 2) pa_nil))))
      (pss_cons (ps_expr (pe_call GCk (hr.mono (by decide)) rfl Vd.mCk Vd.FCk.kp Vd.bCk .nil pass0 (pa_cons (pv 1) pa_nil)))
      (pss_cons (ps_set (i := 4) scVal.nd rfl (Or.inl rfl) (pe_callB (cr_sum rfl) (by rfl) Vd.T.sum (by decide +kernel) (pa_cons (pe_lc (own := [("part", 7), ("worth", 8)]) (g := gTup K 2 (gCons (gName 7) (gCons (gName 8) gNil))) (tt := tYes) rfl scVal.nd (pi_zipTX (by rfl) Vd.T.zip (pa_cons (pv 3) (pa_cons (pv 1) pa_nil))) (blkOk_by (own := [("part", 7), ("worth", 8)]) (N := valN) (sc := defScope sVal) (by decide +kernel))
        (fun _ _ _ _ _ => pg_tup rfl (pgs_cons (pg_name (i := 7) scVal.nd rfl (Or.inl rfl)) (pgs_cons (pg_name (i := 8) scVal.nd rfl (Or.inl rfl)) pgs_nil))) (fun _ _ _ _ _ => pts_nil) (fun _ _ _ _ _ => pe_op op_mulW (pv 7) (pv 8))) pa_nil)))
      (pss_cons (ps_set (i := 5) scVal.nd rfl (Or.inl rfl) (pe_prop (pv 0) d.TT.cl d.pAr GAr hr d.bAr .nil pass0 rfl))
      (pss_cons (ps_set (i := 6) scVal.nd rfl (Or.inl rfl) (pe_call GG (hr.mono (by decide)) rfl Vd.mG Vd.FG.kp Vd.bG .nil pass0 (pa_cons (pv 4) (pa_cons (pv 5) pa_nil))))
      (pss_one (ps_ret (pe_tup (pa_cons (pe_op op_fdivW (pv 4) (pv 6)) (pa_cons (pe_op op_fdivW (pv 5) (pv 6)) pa_nil))))))))), ?_⟩
    have s_bc : Sm (2 * n + 3) (sd b c p) := sd_sm sb sc sp
    have s_ca : Sm (2 * n + 3) (sd c a p) := sd_sm sc sa sp
    have s_ab : Sm (2 * n + 3) (sd a b p) := sd_sm sa sb sp
    have s_A : Sm (2 * n + 3) (sd a b c) := sd_sm sa sb sc
    refine ⟨_, rfl, _, rfl, n, t, z, a, b, c, p, rfl, hT, hz, by omega, sa, sb, sc, sp, fun q H2 e2 hq => ?_⟩
    refine ⟨_, rfl, v, x, y, w', rfl, h3.ex e2, fun H3 e3 => ?_⟩
    have hq3 := e3 _ _ hq
    have e13 := e2.trans e3
    obtain ⟨va, rfl, hv3⟩ := h3.ex e13
    have hT3 := hT.ex e13
    rcases hv3 with hv3 | hv3
    · refine ⟨_, rfl, _, rfl, q, va, _, _, rfl, SqT.of hq3, .inl ⟨SqL.of hv3, fun D0 nD => ?_⟩⟩
      refine lc_zipG (n := 3) (sl := [7, 8]) [V.int (sd b c p), V.int (sd c a p), V.int (sd a b p)] [V.int x, V.int y, V.int w'] (fun H' => Same H3 H') (fun i H' => Same H3 H' ∧ H' D0 = some (.lst (([sd b c p * x, sd c a p * y, sd a b p * w'].take i).map V.int))) (fun i H' h => h.1)
        (fun i H' e hi => ?_) (fun H' e => ?_) (fun i H' v H'' e hi yd => ?_) ⟨same_new nD, upd_same⟩ (fun i u v T H' hi hu hv p' nT => ?_) (fun H' p' => ?_)
      · have q3' := e _ _ hq3
        have v3' := e _ _ hv3
        have hc : i = 0 ∨ i = 1 ∨ i = 2 := by omega
        rcases hc with rfl | rfl | rfl
        · exact ⟨_, _, _, _, SqT.of q3', SqL.of v3', rfl, rfl⟩
        · exact ⟨_, _, _, _, SqT.of q3', SqL.of v3', rfl, rfl⟩
        · exact ⟨_, _, _, _, SqT.of q3', SqL.of v3', rfl, rfl⟩
      · exact ⟨_, _, SqT.of (e _ _ hq3), SqL.of (e _ _ hv3), Nat.le_refl 3, Nat.le_refl 3, .inl rfl⟩
      · obtain ⟨T, x', y', rfl, hT', rfl, f1, f2⟩ := yd
        exact ⟨T, x', y', rfl, hT', rfl, f1 _ (SqT.of (e _ _ hq3)), f2 _ (SqL.of (e _ _ hv3))⟩
      · obtain ⟨e, hD⟩ := p'
        have gT := same_new (o := .tup [u, v]) nT
        have DT : D0 ≠ T := (ne_of_none hD nT)
        have hD' := gT _ _ hD
        have hc : i = 0 ∨ i = 1 ∨ i = 2 := by omega
        rcases hc with rfl | rfl | rfl
        · cases hu
          cases hv
          refine ⟨T, _, rfl, SqT.of upd_same, rfl, _, _, rfl, _, _, rfl, rfl, rfl, ?_⟩
          refine ⟨_, rfl, _, rfl, _, _, rfl, rfl, wide_mul s_bc sx (by omega) (by decide) (by omega), ?_⟩
          exact ⟨_, hD', (by show 0 < sizeLine; decide), But.upd.same nD (e.trans gT), upd_same⟩
        · cases hu
          cases hv
          refine ⟨T, _, rfl, SqT.of upd_same, rfl, _, _, rfl, _, _, rfl, rfl, rfl, ?_⟩
          refine ⟨_, rfl, _, rfl, _, _, rfl, rfl, wide_mul s_ca sy (by omega) (by decide) (by omega), ?_⟩
          exact ⟨_, hD', (by show 1 < sizeLine; decide), But.upd.same nD (e.trans gT), upd_same⟩
        · cases hu
          cases hv
          refine ⟨T, _, rfl, SqT.of upd_same, rfl, _, _, rfl, _, _, rfl, rfl, rfl, ?_⟩
          refine ⟨_, rfl, _, rfl, _, _, rfl, rfl, wide_mul s_ab sw (by omega) (by decide) (by omega), ?_⟩
          exact ⟨_, hD', (by show 2 < sizeLine; decide), But.upd.same nD (e.trans gT), upd_same⟩
      · obtain ⟨e4, hD⟩ := p'
        refine ⟨D0, [sd b c p * x, sd c a p * y, sd a b p * w'], rfl, SqL.of hD, ?_⟩
        have hT4 := hT3.ex e4
        obtain ⟨tr, dx, l6, q1, q2, q3, rfl, htr, _⟩ := id hT4
        refine ⟨_, rfl, tr, dx, _, rfl, htr, n, _, a, b, c, rfl, hT4, by omega, sa, sb, sc, fun H5 e5 => ?_⟩
        refine ⟨_, rfl, _, rfl, tot a b c p x y w', sd a b c, rfl, ?_⟩
        refine ⟨_, rfl, _, rfl, _, _, rfl, rfl, gcd_cd pos s_A (by omega) (by omega), _, rfl, _, rfl, _, _, rfl, rfl, gcd_cd pos s_A (by omega) (by omega), (by show 2 ≤ sizeLine; decide), fun q' nq' => ?_⟩
        exact k q' _ (e13.trans (e4.trans (e5.trans (same_new nq')))) upd_same
    · refine ⟨_, rfl, _, rfl, q, va, _, _, rfl, SqT.of hq3, .inr ⟨SqT.of hv3, fun D0 nD => ?_⟩⟩
      refine lc_zipG (n := 3) (sl := [7, 8]) [V.int (sd b c p), V.int (sd c a p), V.int (sd a b p)] [V.int x, V.int y, V.int w'] (fun H' => Same H3 H') (fun i H' => Same H3 H' ∧ H' D0 = some (.lst (([sd b c p * x, sd c a p * y, sd a b p * w'].take i).map V.int))) (fun i H' h => h.1)
        (fun i H' e hi => ?_) (fun H' e => ?_) (fun i H' v H'' e hi yd => ?_) ⟨same_new nD, upd_same⟩ (fun i u v T H' hi hu hv p' nT => ?_) (fun H' p' => ?_)
      · have q3' := e _ _ hq3
        have v3' := e _ _ hv3
        have hc : i = 0 ∨ i = 1 ∨ i = 2 := by omega
        rcases hc with rfl | rfl | rfl
        · exact ⟨_, _, _, _, SqT.of q3', SqT.of v3', rfl, rfl⟩
        · exact ⟨_, _, _, _, SqT.of q3', SqT.of v3', rfl, rfl⟩
        · exact ⟨_, _, _, _, SqT.of q3', SqT.of v3', rfl, rfl⟩
      · exact ⟨_, _, SqT.of (e _ _ hq3), SqT.of (e _ _ hv3), .inl (Nat.le_refl 3)⟩
      · obtain ⟨T, x', y', rfl, hT', rfl, f1, f2⟩ := yd
        exact ⟨T, x', y', rfl, hT', rfl, f1 _ (SqT.of (e _ _ hq3)), f2 _ (SqT.of (e _ _ hv3))⟩
      · obtain ⟨e, hD⟩ := p'
        have gT := same_new (o := .tup [u, v]) nT
        have DT : D0 ≠ T := (ne_of_none hD nT)
        have hD' := gT _ _ hD
        have hc : i = 0 ∨ i = 1 ∨ i = 2 := by omega
        rcases hc with rfl | rfl | rfl
        · cases hu
          cases hv
          refine ⟨T, _, rfl, SqT.of upd_same, rfl, _, _, rfl, _, _, rfl, rfl, rfl, ?_⟩
          refine ⟨_, rfl, _, rfl, _, _, rfl, rfl, wide_mul s_bc sx (by omega) (by decide) (by omega), ?_⟩
          exact ⟨_, hD', (by show 0 < sizeLine; decide), But.upd.same nD (e.trans gT), upd_same⟩
        · cases hu
          cases hv
          refine ⟨T, _, rfl, SqT.of upd_same, rfl, _, _, rfl, _, _, rfl, rfl, rfl, ?_⟩
          refine ⟨_, rfl, _, rfl, _, _, rfl, rfl, wide_mul s_ca sy (by omega) (by decide) (by omega), ?_⟩
          exact ⟨_, hD', (by show 1 < sizeLine; decide), But.upd.same nD (e.trans gT), upd_same⟩
        · cases hu
          cases hv
          refine ⟨T, _, rfl, SqT.of upd_same, rfl, _, _, rfl, _, _, rfl, rfl, rfl, ?_⟩
          refine ⟨_, rfl, _, rfl, _, _, rfl, rfl, wide_mul s_ab sw (by omega) (by decide) (by omega), ?_⟩
          exact ⟨_, hD', (by show 2 < sizeLine; decide), But.upd.same nD (e.trans gT), upd_same⟩
      · obtain ⟨e4, hD⟩ := p'
        refine ⟨D0, [sd b c p * x, sd c a p * y, sd a b p * w'], rfl, SqL.of hD, ?_⟩
        have hT4 := hT3.ex e4
        obtain ⟨tr, dx, l6, q1, q2, q3, rfl, htr, _⟩ := id hT4
        refine ⟨_, rfl, tr, dx, _, rfl, htr, n, _, a, b, c, rfl, hT4, by omega, sa, sb, sc, fun H5 e5 => ?_⟩
        refine ⟨_, rfl, _, rfl, tot a b c p x y w', sd a b c, rfl, ?_⟩
        refine ⟨_, rfl, _, rfl, _, _, rfl, rfl, gcd_cd pos s_A (by omega) (by omega), _, rfl, _, rfl, _, _, rfl, rfl, gcd_cd pos s_A (by omega) (by omega), (by show 2 ≤ sizeLine; decide), fun q' nq' => ?_⟩
        exact k q' _ (e13.trans (e4.trans (e5.trans (same_new nq')))) upd_same
end
end Fo

set_option Elab.async false
set_option linter.all false
set_option maxRecDepth 100000
set_option maxHeartbeats 2000000
namespace Fo
open PySem L2
abbrev sLVal : Stmt := top 29
abbrev sSame : Stmt := top 30
abbrev sRefused : Stmt := top 28
def spLVal : Sp := fun vs H Q _ => ∃ p : Addr, vs = [.ref p] ∧ PoolAt p H ∧ ∀ (r : Int) H', Sm 100 r → But p H H' → PoolAt p H' → Q (.int r) H'
abbrev prm : List Int := [2, 3, 5, 7, 11, 13]
def spSame : Sp := fun vs H Q _ => ∃ (q : Addr) (f0 f1 t b : Int), vs = [.ref q, .int t, .int b] ∧ H q = some (.tup [.int f0, .int f1]) ∧ 0 < f1 ∧ f0 * b = t * f1 ∧ (∀ m : Int, 2 ≤ m → ¬ (f0 % m = 0 ∧ f1 % m = 0)) ∧ Sm 3000 f0 ∧ Sm 3000 f1 ∧ Sm 3000 t ∧ Sm 3000 b ∧ ∀ H', Same H H' → Q (.bl true) H'
def spRef (K : PySem.W.Frag) (C CT : Addr) : Sp := fun vs H Q _ => ∃ t v z : V, vs = [t, v, z] ∧
  ((Bad H z ∧ ∃ d : PyData, ShowsOk d ∧ Dp K H z d ∧ ∀ q H', Same H H' → H' q = some (.tup [.str "point", .str d.shown]) → Q (.ref q) H') ∨
   (∃ (n : Nat) (a b c p : I2) (nv : V), IsT C CT t a b c H ∧ IsPt2 C z p H ∧ n < 1000 ∧ Sm2 n a ∧ Sm2 n b ∧ Sm2 n c ∧ Sm2 n p ∧ BadV H v nv ∧ ∀ q H', Same H H' → H' q = some (.tup [.str "values", nv]) → Q (.ref q) H'))
structure RTxt (P : Program) (K : PySem.W.Frag) (mg : Str → Option Value) (C CI fII CV fVI CF : Addr) : Prop where
  TX : TxtX P K mg C CI fII
  xV : FoX_number.XTxt P K mg CV fVI
  gV : mg "InvalidValues" = some (.ref CV)
  gF : mg "FillError" = some (.ref CF)
  exI : PySem.W.exmOne K (.ref CI) (.ref CF) = some true
  exV : PySem.W.exmOne K (.ref CV) (.ref CF) = some true
  isI : XIsC K CI
  isV : XIsC K CV
  kII : PySem.W.kitOne K (.ref CI) (.ref CI) = some true
  kVI : PySem.W.kitOne K (.ref CV) (.ref CI) = some false
  kVV : PySem.W.kitOne K (.ref CV) (.ref CV) = some true
  zR : mg "repr" = none
theorem p30 : (10 : Int) ^ (30 : Int).toNat = 1000000000000000000000000000000 := by decide
theorem sm100 {x : Int} (h1 : -1000000000000000000000000000100 ≤ x) (h2 : x ≤ 1000000000000000000000000000100) : Sm 100 x := by
  have h : (1000000000000000000000000000100 : Nat) < 2 ^ 100 := by decide
  unfold Sm
  omega
theorem PoolAt.ne {p l : Addr} {H : Hp} (h : PoolAt p H) (hl : H l = none) : l ≠ p := by
  obtain ⟨i, j, hp, _⟩ := h
  exact (ne_of_none hp hl).symm
section
variable {P : Program} {w : World} {K : PySem.W.Frag} {mg : Str → Option Value} {base : Heap}
variable {C fW fI fP fA fO CT fS fTI fCo fEd fAr fEq fAd pAr CI fII CV fVI CF fG fWe fCk fVa : Addr} {fdW fdI fdP fdA fdO fdS fdTI fdCo fdEd fdAr fdEq fdAd fdG fdWe fdCk fdVa : FuncData}
theorem ok_valX (D : Defs K mg C fW fI fP fA fO fdW fdI fdP fdA fdO) (d : TDefs K mg C CT fS fTI fCo fEd fAr fEq fAd pAr fdS fdTI fdCo fdEd fdAr fdEq fdAd) (Vd : VDefs K mg fG fWe fCk fVa fdG fdWe fdCk fdVa) (R : RTxt P K mg C CI fII CV fVI CF) : FnOk P w K mg base (L2.CX P w) 9 fVa fdVa ["triangle", "values", "point"] (spValX C CT CI CV) := by
  have GWe : FnOk P w K mg base (L2.CX P w) 8 fWe fdWe ["triangle", "point"] (fun vs H Q E => spWei C CT vs H Q E ∨ spWeiX CI vs H Q E) := (FnOk.up (ok_wei D d Vd)).or (FnOk.lift (ok_weiX D R.TX Vd) (by decide))
  have GCk : FnOk P w K mg base (L2.CX P w) 3 fCk fdCk ["values"] (spChkX CV) := ok_chkX D Vd R.xV R.gV
  refine Vd.FVa.okX scVal (fun vs H Q E h => ?_) (fun cdv A outer s H vs Q E hr h => ?_)
  · obtain ⟨t, v, z, rfl, _⟩ := h
    rfl
  · obtain ⟨t, v, z, rfl, hc⟩ := h
    refine ⟨_, pss_cons (ps_set (i := 3) scVal.nd rfl (Or.inl rfl) (pe_call (E := E) GWe hr rfl Vd.mWe Vd.FWe.kp Vd.bWe .nil (passes_call (takes_of rfl rfl rfl rfl) fun _ _ _ _ h => h) (pa_cons (pv 0) (pa_cons (pv 2) pa_nil))))
      (pss_cons (ps_expr (pe_call (E := E) GCk (hr.mono (by decide)) rfl Vd.mCk Vd.FCk.kp Vd.bCk .nil (passes_call (takes_of rfl rfl rfl rfl) fun _ _ _ _ h => h) (pa_cons (pv 1) pa_nil)))
      (pss_cons ps_never (pss_cons ps_never (pss_cons ps_never (pss_one ps_never))))), ?_⟩
    rcases hc with ⟨bad, k⟩ | ⟨n, a, b, c, p, nv, hT, hz, n1, sa, sb, sc, sp, hb, k⟩
    · exact ⟨_, rfl, _, rfl, .inr ⟨t, z, rfl, bad, k⟩⟩
    · refine ⟨_, rfl, _, rfl, .inl ⟨n, t, z, a, b, c, p, rfl, hT, hz, n1, sa, sb, sc, sp, fun q H2 e2 hq => ?_⟩⟩
      exact ⟨_, rfl, v, nv, rfl, hb.ex e2, fun dd H' e' hd => k dd H' (e2.trans e') hd⟩
theorem scLVal : FnScope ["pool", "number"] ["pool"] (defScope sLVal) := ⟨rfl, rfl, rfl, by decide +kernel, rfl, by decide +kernel, by decide +kernel⟩
theorem ok_lval {f fD : Addr} {fd fdD : FuncData} (F : Fun K "_law_value" "_law_value" sLVal f fd) (T : TxtL mg) (FD : Fun K "_law_draw" "_law_draw" sDraw fD fdD) (bD : Binds K fdD ["pool", "many"] []) (mD : mg "_law_draw" = some (.ref fD)) : FnOk P w K mg base CX0 2 f fd ["pool"] spLVal := by
  have GD : FnOk P w K mg base CX0 1 fD fdD ["pool", "many"] spDraw := ok_draw FD T
  refine F.ok scLVal (fun vs H Q E h => ?_) (fun cdv A outer s H vs Q E hr h => ?_)
  · obtain ⟨p, rfl, _⟩ := h
    rfl
  · obtain ⟨p, rfl, hp, k⟩ := h
    refine ⟨_, pss_cons (ps_set (i := 1) scLVal.nd rfl (Or.inl rfl) (pe_ix ix_list (pe_lst (pa_cons (pe_call GD hr rfl mD FD.kp bD .nil pass0 (pa_cons (pv 0) (pa_cons pe_int pa_nil))) (pa_cons (pe_call GD hr rfl mD FD.kp bD .nil pass0 (pa_cons (pv 0) (pa_cons pe_int pa_nil))) (pa_cons (pe_op op_sub (pe_op op_pow pe_int pe_int) (pe_call GD hr rfl mD FD.kp bD .nil pass0 (pa_cons (pv 0) (pa_cons pe_int pa_nil)))) pa_nil)))) (pe_call GD hr rfl mD FD.kp bD .nil pass0 (pa_cons (pv 0) (pa_cons pe_int pa_nil))) (fun _ _ => rfl)))
      (pss_one (ps_ret (pe_ifExp (pt_cmpR op_eq (pe_call GD hr rfl mD FD.kp bD .nil pass0 (pa_cons (pv 0) (pa_cons pe_int pa_nil))) pe_int (nomark _)) (pv 1) (pe_un un_neg (pv 1))))), ?_⟩
    refine ⟨_, rfl, p, 9, rfl, hp, by decide, by decide, fun r1 H1 r10 r11 b1 p1 => ?_⟩
    refine ⟨_, rfl, p, 99, rfl, p1, by decide, by decide, fun r2 H2 r20 r21 b2 p2 => ?_⟩
    refine ⟨_, _, rfl, rfl, ⟨by decide, by decide, by decide⟩, _, rfl, p, 9, rfl, p2, by decide, by decide, fun r3 H3 r30 r31 b3 p3 => ?_⟩
    refine ⟨_, _, rfl, rfl, (by show 3 ≤ sizeLine; decide), fun l nl => ?_⟩
    have lp := p3.ne nl
    have e4 := same_new (o := .lst [V.int r1, V.int r2, V.int (10 ^ (30 : Int).toNat - r3)]) nl
    refine ⟨_, rfl, p, 3, rfl, p3.ex e4, by decide, by decide, fun r4 H4 r40 r41 b4 p4 => ?_⟩
    have hl := b4 _ _ lp upd_same
    have b5 := ((b1.trans b2).trans b3).trans ((But.of e4).trans b4)
    obtain ⟨z, hz, sz⟩ : ∃ z : Int, atI [V.int r1, V.int r2, V.int (10 ^ (30 : Int).toNat - r3)] r4 = some (V.int z) ∧ Sm 100 z := by
      have r4c : r4 = 0 ∨ r4 = 1 ∨ r4 = 2 := by omega
      rcases r4c with rfl | rfl | rfl
      · exact ⟨_, atI_nat (j := 0) rfl, sm100 (by omega) (by omega)⟩
      · exact ⟨_, atI_nat (j := 1) rfl, sm100 (by omega) (by omega)⟩
      · exact ⟨_, atI_nat (j := 2) rfl, by rw [p30]; exact sm100 (by omega) (by omega)⟩
    refine ⟨l, _, _, _, rfl, rfl, SqL.of hl, hz, ?_⟩
    refine ⟨_, rfl, p, 2, rfl, p4, by decide, by decide, fun r5 H5 r50 r51 b6 p6 => ?_⟩
    refine ⟨rfl, _, rfl, ?_⟩
    refine ite2 (fun _ => ?_) (fun _ => ?_)
    · exact ⟨_, rfl, k z _ sz (b5.trans b6) p6⟩
    · refine ⟨_, rfl, _, rfl, k (-z) _ ?_ (b5.trans b6) p6⟩
      unfold Sm at *
      omega
theorem scSame : FnScope ["found", "top", "bottom", "part"] ["found", "top", "bottom"] (defScope sSame) := ⟨rfl, rfl, rfl, by decide +kernel, rfl, by decide +kernel, by decide +kernel⟩
theorem prm_get {j : Nat} {v : V} (h : (prm.map V.int)[j]? = some v) : ∃ m : Int, v = .int m ∧ 2 ≤ m := by
  match j, h with
  | 0, h => exact ⟨2, (Option.some.inj h).symm, by decide⟩
  | 1, h => exact ⟨3, (Option.some.inj h).symm, by decide⟩
  | 2, h => exact ⟨5, (Option.some.inj h).symm, by decide⟩
  | 3, h => exact ⟨7, (Option.some.inj h).symm, by decide⟩
  | 4, h => exact ⟨11, (Option.some.inj h).symm, by decide⟩
  | 5, h => exact ⟨13, (Option.some.inj h).symm, by decide⟩
  | n + 6, h => simp at h
theorem ok_same {f : Addr} {fd : FuncData} (F : Fun K "_law_same" "_law_same" sSame f fd) : FnOk P w K mg base CX0 1 f fd ["found", "top", "bottom"] spSame := by
  refine F.ok scSame (fun vs H Q E h => ?_) (fun cdv A outer s H vs Q E hr h => ?_)
  · obtain ⟨q, f0, f1, t, b, rfl, _⟩ := h
    rfl
  · obtain ⟨q, f0, f1, t, b, rfl, hq, f1p, eq, cop, s0, s1, st, sb, k⟩ := h
    refine ⟨_, pss_cons (ps_if (PW.pt (pw_or (pt_cmpR op_le (pe_ix ix_tup (pv 0) pe_int (fun _ _ => rfl)) pe_int (nomark _)) (pw_or1 (pt_cmpR op_ne (pe_op op_mulW (pe_ix ix_tup (pv 0) pe_int (fun _ _ => rfl)) (pv 2)) (pe_op op_mulW (pv 1) (pe_ix ix_tup (pv 0) pe_int (fun _ _ => rfl))) (nomark _))))) (pss_one (ps_ret pe_bl)) pss_nil)
      (pss_cons (ps_for PassesOwn.never rfl (pi_list (pe_lst (pa_cons pe_int (pa_cons pe_int (pa_cons pe_int (pa_cons pe_int (pa_cons pe_int (pa_cons pe_int pa_nil)))))))) (pg_name (i := 3) scSame.nd rfl (Or.inl rfl))
        (pss_one (ps_if (PW.pt (pw_and (pt_cmpR op_eq (pe_op op_mod (pe_ix ix_tup (pv 0) pe_int (fun _ _ => rfl)) (pv 3)) pe_int (nomark _)) (pw_and1 (pt_cmpR op_eq (pe_op op_mod (pe_ix ix_tup (pv 0) pe_int (fun _ _ => rfl)) (pv 3)) pe_int (nomark _))))) (pss_one (ps_ret pe_bl)) pss_nil)))
      (pss_one (ps_ret pe_bl))), ?_⟩
    refine ⟨_, rfl, q, _, _, _, rfl, rfl, SqT.of hq, atI_nat (j := 1) rfl, _, _, rfl, rfl, _, rfl, ?_⟩
    rw [decide_eq_false (show ¬ f1 ≤ 0 by omega)]
    refine iteF ?_
    refine ⟨_, rfl, q, _, _, _, rfl, rfl, SqT.of hq, atI_nat (j := 0) rfl, _, rfl, _, _, rfl, rfl, wide_mul s0 sb (by decide) (by decide) (by decide), ?_⟩
    refine ⟨_, rfl, _, rfl, q, _, _, _, rfl, rfl, SqT.of hq, atI_nat (j := 1) rfl, _, _, rfl, rfl, wide_mul st s1 (by decide) (by decide) (by decide), rfl, _, rfl, iteNS (congrArg V.int eq) ?_⟩
    refine ⟨(by show 6 ≤ sizeLine; decide), fun l nl => ⟨l, rfl, ⟨_, SqL.of upd_same⟩, ?_⟩⟩
    have g := same_new (o := .lst [V.int 2, V.int 3, V.int 5, V.int 7, V.int 11, V.int 13]) nl
    refine for_list (K := K) (a := l) (xs := prm.map V.int) (fun j σ' H' => ∃ v3 : Option V, σ' = [some (.ref q), some (.int t), some (.int b), v3] ∧ H' = upd H l (.lst [V.int 2, V.int 3, V.int 5, V.int 7, V.int 11, V.int 13])) ⟨_, rfl, rfl⟩ (fun j σ' H' _ h => by
      obtain ⟨_, _, e⟩ := h
      subst e
      exact SqL.of upd_same) ?_ ?_
    · rintro j v σ H' hv ⟨v3, rfl, rfl⟩
      obtain ⟨m, rfl, m2⟩ := prm_get hv
      have hq1 := g _ _ hq
      refine ⟨_, rfl, q, _, _, _, rfl, rfl, SqT.of hq1, atI_nat (j := 0) rfl, _, rfl, _, _, rfl, rfl, by omega, rfl, _, rfl, ?_⟩
      by_cases h0 : f0 % m = 0
      · rw [int_eqT h0]
        refine iteT ?_
        refine ⟨_, rfl, q, _, _, _, rfl, rfl, SqT.of hq1, atI_nat (j := 1) rfl, _, rfl, _, _, rfl, rfl, by omega, rfl, _, rfl, ?_⟩
        rw [int_eqF (fun h1 => cop m m2 ⟨h0, h1⟩)]
        refine iteF ?_
        exact ⟨_, rfl, rfl⟩
      · rw [int_eqF h0]
        refine iteF ?_
        exact ⟨_, rfl, rfl⟩
    · rintro σ H' ⟨v3, rfl, rfl⟩
      exact k _ g
theorem scRef : FnScope ["triangle", "values", "point", "e"] ["triangle", "values", "point"] (defScope sRefused) := ⟨rfl, rfl, rfl, by decide +kernel, rfl, by decide +kernel, by decide +kernel⟩
theorem ok_ref {f : Addr} {fd : FuncData} (F : Fun K "_law_refused" "_law_refused" sRefused f fd) (D : Defs K mg C fW fI fP fA fO fdW fdI fdP fdA fdO) (d : TDefs K mg C CT fS fTI fCo fEd fAr fEq fAd pAr fdS fdTI fdCo fdEd fdAr fdEq fdAd) (Vd : VDefs K mg fG fWe fCk fVa fdG fdWe fdCk fdVa) (R : RTxt P K mg C CI fII CV fVI CF) : FnG P w K mg base CX0 10 f fd ["triangle", "values", "point"] (spRef K C CT) := by
  have GO : FnOk P w K mg base (L2.CX P w) 9 fVa fdVa ["triangle", "values", "point"] (spValX C CT CI CV) := ok_valX D d Vd R
  have T := D.T
  refine F.okG scRef (fun vs H Q E h => ?_) (fun cdv A outer s H vs Q E hgd hr h => ?_)
  · obtain ⟨t, v, z, rfl, _⟩ := h
    rfl
  · obtain ⟨t, v, z, rfl, hc⟩ := h
    have hu : (A.deeper (PyProof.Rows.envOfC (Str.ofString "_law_refused") (defScope sRefused) s.heap.objs.size f cdv)).units + 64 < cLine := by
      have := hr.un
      omega
    have cR : ∀ (a : Addr) (pn : List (Addr × Obj)), CallR ((cxOf CX0 P w K mg base ["triangle", "values", "point", "e"] "_law_refused" (defScope sRefused) f cdv A outer s H E).nox.suite a pn) (.builtin "repr") (rReprD K) := fun a pn => call_reprD hgd hu
    have hT : ∃ (tb : WX → TS) (ts : Addr → Value → Option Addr → TS), PS (cxOf CX0 P w K mg base ["triangle", "values", "point", "e"] "_law_refused" (defScope sRefused) f cdv A outer s H E).nox ((defBody sRefused).getD 0 (.Pass ⟨0, 0, 0, 0⟩)) (fun D σ H => tb (wAs K (.ref CF) 3 ts (fun _ _ _ _ => False) D) D σ H) ∧
        (∀ (W : WX) (D' : Ends), spValX C CT CI CV [t, v, z] H (fun _ _ => True) (EW W 4) → tb W D' (start ["triangle", "values", "point", "e"] [t, v, z]) H) ∧
        (∀ (a dd : Addr) (o : V) (d : PyData) (σ : L2.St) (H' : Hp) (D' : Ends), σ[3]? = some (some (.ref a)) → H' dd = some (XD o) → Dp K H' o d → ShowsOk d → (∀ t H2, Same H' H2 → H2 t = some (.tup [.str "point", .str d.shown]) → D'.rt (.ref t) H2) → ts a (.ref CI) (some dd) D' σ H') ∧
        (∀ (a dd : Addr) (o : V) (σ : L2.St) (H' : Hp) (D' : Ends), σ[3]? = some (some (.ref a)) → H' dd = some (XDn o) → (∀ t H2, Same H' H2 → H2 t = some (.tup [.str "values", o]) → D'.rt (.ref t) H2) → ts a (.ref CV) (some dd) D' σ H') := by
      refine ⟨_, _, ps_try_as (i := 3) (c := .ref CF) (Wout := fun _ _ _ _ => False) rfl rfl scRef.nd rfl rfl ⟨rfl, by decide, .inl R.gF⟩ takes0
        (fun W pn xe tk po => pss_one (ps_expr (pe_call (E := EW W 4) GO hr rfl Vd.mVa Vd.FVa.kp Vd.bVa .nil (passesW tk rfl) (pa_cons (pv 0) (pa_cons (pv 1) (pa_cons (pv 2) pa_nil))))))
        (fun a oe cls dd pn hz hf => pss_cons (ps_if (pt_val (pe_callB (call_isX hz hf) (by rfl) T.isi (by decide +kernel) (pa_cons (pv 3) (pa_cons (pe_glob (v := .ref CI) rfl R.TX.gI rfl) pa_nil))))
            (pss_one (ps_ret (pe_tup (pa_cons pe_str (pa_cons (pe_callB (cR a ((a, oe) :: pn)) (by rfl) R.zR (by decide +kernel) (pa_cons (pe_by_thing R.TX.xI hz hf (pv 3)) pa_nil)) pa_nil))))) pss_nil)
          (pss_one (ps_ret (pe_tup (pa_cons pe_str (pa_cons (pe_and (pe_callB (call_isX hz hf) (by rfl) T.isi (by decide +kernel) (pa_cons (pv 3) (pa_cons (pe_glob (v := .ref CV) rfl R.gV rfl) pa_nil)))
            (pe_one (pe_by_number R.xV hz hf (pv 3)))) pa_nil)))))), ?_, ?_, ?_⟩
      · intro W D' hb
        obtain ⟨t', v', z', e, hb⟩ := hb
        cases e
        exact ⟨_, rfl, _, rfl, _, rfl, t, v, z, rfl, hb⟩
      · intro a dd o d σ H' D' hσ hd hdp sh kk
        refine ⟨_, hσ, CI, dd, _, _, _, true, rfl, rfl, rfl, hd, .own CI, R.isI, R.kII, true, rfl, ?_⟩
        refine iteT ?_
        refine ⟨_, hσ, rfl, rfl, dd, o, rfl, hd, o, d, rfl, hdp, sh.s, sh.nd, sh.dp, sh.z, (by show 2 ≤ sizeLine; decide), fun t nt => ?_⟩
        exact kk t _ (same_new nt) upd_same
      · intro a dd o σ H' D' hσ hd kk
        refine ⟨_, hσ, CV, dd, _, _, _, false, rfl, rfl, rfl, hd, .own CI, R.isV, R.kVI, false, rfl, ?_⟩
        refine iteF ?_
        refine ⟨_, hσ, CV, dd, _, _, _, true, rfl, rfl, rfl, hd, .own CV, R.isV, R.kVV, true, rfl, ?_⟩
        refine iteT ?_
        refine ⟨_, hσ, rfl, rfl, dd, o, rfl, hd, (by show 2 ≤ sizeLine; decide), fun t nt => ?_⟩
        exact kk t _ (same_new nt) upd_same
    obtain ⟨tb, ts, hPS, hA, sA, sB⟩ := hT
    refine ⟨_, pss_cons hPS (pss_one ps_never), ?_⟩
    rcases hc with ⟨bad, d, sh, hdp, k⟩ | ⟨n, a, b, c, p, nv, hT', hz', n1, sa, sb, sc, sp, hb, k⟩
    · refine hA _ _ ⟨t, v, z, rfl, .inl ⟨bad, fun dd H' e' h1 σ hσ => ⟨true, R.exI, fun _ x nx => ?_, fun z => nomatch z⟩⟩⟩
      refine sA x dd z d _ H' _ ?_ h1 (Dp.ex e' d z hdp) sh fun t H2 e2 g1 => k t H2 (e'.trans e2) g1
      rw [List.getElem?_set_self (by omega)]
    · refine hA _ _ ⟨t, v, z, rfl, .inr ⟨n, a, b, c, p, nv, hT', hz', n1, sa, sb, sc, sp, hb, fun dd H' e' h1 σ hσ => ⟨true, R.exV, fun _ x nx => ?_, fun z => nomatch z⟩⟩⟩
      refine sB x dd nv _ H' _ ?_ h1 fun t H2 e2 g1 => k t H2 (e'.trans e2) g1
      rw [List.getElem?_set_self (by omega)]
end
end Fo

set_option Elab.async false
set_option linter.all false
set_option maxRecDepth 100000
set_option maxHeartbeats 2000000
namespace Fo
open PySem L2
/-! ### the mathematics of values -/
theorem gcd_facts {T A : Int} (hA : 0 < A) : 0 < A / (Int.gcd T A : Int) ∧ T / (Int.gcd T A : Int) * A = T * (A / (Int.gcd T A : Int)) ∧ ∀ m : Int, 2 ≤ m → ¬ (T / (Int.gcd T A : Int) % m = 0 ∧ A / (Int.gcd T A : Int) % m = 0) := by
  have h0 : 0 < Int.gcd T A := Int.gcd_pos_of_ne_zero_right _ (by omega)
  have hg : (0 : Int) < (Int.gcd T A : Int) := by omega
  obtain ⟨t, ht⟩ : (Int.gcd T A : Int) ∣ T := Int.gcd_dvd_left ..
  obtain ⟨a, ha⟩ : (Int.gcd T A : Int) ∣ A := Int.gcd_dvd_right ..
  have e1 : T / (Int.gcd T A : Int) = t := by
    conv => lhs; arg 1; rw [ht]
    exact Int.mul_ediv_cancel_left _ (by omega)
  have e2 : A / (Int.gcd T A : Int) = a := by
    conv => lhs; arg 1; rw [ha]
    exact Int.mul_ediv_cancel_left _ (by omega)
  rw [e1, e2]
  refine ⟨?_, ?_, ?_⟩
  · apply Int.not_le.mp
    intro h
    have : (Int.gcd T A : Int) * a ≤ 0 := Int.mul_nonpos_of_nonneg_of_nonpos (by omega) h
    omega
  · have h1 : t * A = t * ((Int.gcd T A : Int) * a) := congrArg (t * ·) ha
    have h2 : T * a = (Int.gcd T A : Int) * t * a := congrArg (· * a) ht
    rw [h1, h2, Int.mul_left_comm, Int.mul_assoc]
  · rintro m m2 ⟨h1, h2⟩
    have d1 : m ∣ t := Int.dvd_of_emod_eq_zero h1
    have d2 : m ∣ a := Int.dvd_of_emod_eq_zero h2
    have d3 : (Int.gcd T A : Int) * m ∣ T := by
      obtain ⟨u, rfl⟩ := d1
      exact ⟨u, by rw [Int.mul_assoc]; exact ht⟩
    have d4 : (Int.gcd T A : Int) * m ∣ A := by
      obtain ⟨u, rfl⟩ := d2
      exact ⟨u, by rw [Int.mul_assoc]; exact ha⟩
    have d5 : (Int.gcd T A : Int) * m ∣ (Int.gcd T A : Int) := Int.dvd_coe_gcd d3 d4
    have d6 := Int.le_of_dvd hg d5
    have d7 : (Int.gcd T A : Int) * 2 ≤ (Int.gcd T A : Int) * m := Int.mul_le_mul_of_nonneg_left m2 (by omega)
    omega
theorem gcd_whole {A r : Int} (hA : 0 < A) : A * r / (Int.gcd (A * r) A : Int) = r ∧ A / (Int.gcd (A * r) A : Int) = 1 := by
  have e : (Int.gcd (A * r) A : Int) = A := by
    rw [Int.gcd_eq_natAbs_right ⟨r, rfl⟩]
    omega
  rw [e]
  exact ⟨Int.mul_ediv_cancel_left _ (by omega), Int.ediv_self (by omega)⟩
theorem wsum (a b c p : I2) : sd b c p + (sd c a p + (sd a b p + 0)) = sd a b c := by
  unfold sd sideI
  grind
theorem tot_a (a b c : I2) (x y z : Int) : tot a b c a x y z = sd a b c * x := by
  unfold tot sd sideI
  grind
theorem tot_b (a b c : I2) (x y z : Int) : tot a b c b x y z = sd a b c * y := by
  unfold tot sd sideI
  grind
def onL (a b : I2) (m : Int) : I2 := (a.1 + m * (b.1 - a.1), a.2 + m * (b.2 - a.2))
def opp (a b c : I2) : I2 := (a.1 + b.1 - c.1, a.2 + b.2 - c.2)
theorem tot_l (a b c : I2) (m x y z : Int) : tot a b c (onL a b m) x y z = sd a b c * (x + m * (y - x)) := by
  unfold tot sd sideI onL
  grind
theorem sd_opp (a b c : I2) : sd b a (opp a b c) = sd a b c := by
  unfold sd sideI opp
  grind
theorem tot_o (a b c : I2) (m x y z : Int) : tot b a (opp a b c) (onL a b m) y x z = sd a b c * (x + m * (y - x)) := by
  unfold tot sd sideI onL opp
  grind
theorem Sm.of {n : Nat} {x : Int} {m : Nat} (h0 : -(m : Int) ≤ x) (h1 : x ≤ m) (h : m < 2 ^ n) : Sm n x := by
  unfold Sm
  omega
theorem div_sm {n : Nat} {x g : Int} (h : Sm n x) (hg : 0 < g) (d : g ∣ x) : Sm n (x / g) := by
  unfold Sm at *
  obtain ⟨t, rfl⟩ := d
  rw [Int.mul_ediv_cancel_left _ (by omega)]
  rw [Int.natAbs_mul] at h
  have : t.natAbs ≤ g.natAbs * t.natAbs := Nat.le_mul_of_pos_left _ (by omega)
  omega
theorem tot_sm {n k : Nat} {a b c p : I2} {x y z : Int} (sa : Sm2 n a) (sb : Sm2 n b) (sc : Sm2 n c) (sp : Sm2 n p) (sx : Sm k x) (sy : Sm k y) (sz : Sm k z) : Sm ((2 * n + 3 + k) + 1 + 1) (tot a b c p x y z) := by
  have h1 : Sm (2 * n + 3 + k) (sd b c p * x) := wide_lt (sd_sm sb sc sp) sx
  have h2 : Sm (2 * n + 3 + k) (sd c a p * y) := wide_lt (sd_sm sc sa sp) sy
  have h3 : Sm (2 * n + 3 + k) (sd a b p * z) := wide_lt (sd_sm sa sb sp) sz
  unfold tot
  rw [Int.add_zero]
  exact (h1.up (Nat.le_add_right _ 1)).add (h2.add h3)
end Fo

set_option Elab.async false
set_option linter.all false
set_option maxRecDepth 100000
set_option maxHeartbeats 2000000
namespace Fo
open PySem L2
abbrev sLaw : Stmt := top 31
abbrev lawN : List Str := ["script", "k", "pool", "a", "b", "c", "triangle", "values", "given", "p", "parts", "top", "d", "many", "on_line", "other", "bad", "number", "turn", "part", "value"]
theorem scLaw : FnScope lawN ["script"] (defScope sLaw) := ⟨rfl, rfl, rfl, by decide +kernel, rfl, by decide +kernel, by decide +kernel⟩
def spLaw (K : PySem.W.Frag) : Sp := fun vs H Q _ => ∃ (a : Addr) (ns : List Int), vs = [.ref a] ∧ SqL K H a (ns.map V.int) ∧ ns.length ≤ 63 ∧ ∀ H', Q (.bl true) H'
structure LDefs (P : Program) (K : PySem.W.Frag) (mg : Str → Option Value) (C CI fII CV fVI CF fH fD fPr fLs fCn fLv fSa fR : Addr) (fdH fdD fdPr fdLs fdCn fdLv fdSa fdR : FuncData) : Prop where
  TL : TxtL mg
  E : RTxt P K mg C CI fII CV fVI CF
  FH : Fun K "_law_hand" "_law_hand" sHand fH fdH
  bH : Binds K fdH ["script", "k"] []
  mH : mg "_law_hand" = some (.ref fH)
  FD : Fun K "_law_draw" "_law_draw" sDraw fD fdD
  bD : Binds K fdD ["pool", "many"] []
  mD : mg "_law_draw" = some (.ref fD)
  FPr : Fun K "_law_pair" "_law_pair" sPair fPr fdPr
  bPr : Binds K fdPr ["pool", "size_here"] []
  mPr : mg "_law_pair" = some (.ref fPr)
  FLs : Fun K "_law_side" "_law_side" sLSide fLs fdLs
  bLs : Binds K fdLs ["a", "b", "p"] []
  mLs : mg "_law_side" = some (.ref fLs)
  FCn : Fun K "_law_corners" "_law_corners" sCorn fCn fdCn
  bCn : Binds K fdCn ["pool", "size_here"] []
  mCn : mg "_law_corners" = some (.ref fCn)
  FLv : Fun K "_law_value" "_law_value" sLVal fLv fdLv
  bLv : Binds K fdLv ["pool"] []
  mLv : mg "_law_value" = some (.ref fLv)
  FSa : Fun K "_law_same" "_law_same" sSame fSa fdSa
  bSa : Binds K fdSa ["found", "top", "bottom"] []
  mSa : mg "_law_same" = some (.ref fSa)
  FR : Fun K "_law_refused" "_law_refused" sRefused fR fdR
  bR : Binds K fdR ["triangle", "values", "point"] []
  mR : mg "_law_refused" = some (.ref fR)
theorem shows_by {d : PyData} (h : (d.showable && !d.hasDict && decide (d.depth ≤ 60) && decide (d.shown.length ≤ 1000)) = true) : ShowsOk d := by
  simp only [Bool.and_eq_true, Bool.not_eq_true', decide_eq_true_eq] at h
  exact ⟨h.1.1.1, h.1.1.2, h.1.2, Nat.le_trans h.2 (by decide)⟩
theorem sh_self {d : PyData} (h : SeqAt.shaped d = true) : PyData.eqv d d = true := by
  unfold SeqAt.shaped at h
  rw [Bool.and_eq_true] at h
  exact SeqAt.eqv_refl _ h.1
theorem shT2 (n m : Int) : SeqAt.shaped (.tuple [.int n, .int m]) = true := by
  show (PyData.canLay0 (.tuple [.int n, .int m]) && decide (PyData.depth (.tuple [.int n, .int m]) ≤ 64)) = true
  simp [PyData.canLay0, PyData.canLayAll0, PyData.depth, PyData.depthAll]
theorem shT3 (n m k : Int) : SeqAt.shaped (.tuple [.int n, .int m, .int k]) = true := by
  show (PyData.canLay0 (.tuple [.int n, .int m, .int k]) && decide (PyData.depth (.tuple [.int n, .int m, .int k]) ≤ 64)) = true
  simp [PyData.canLay0, PyData.canLayAll0, PyData.depth, PyData.depthAll]
theorem shL3 (n m k : Int) : SeqAt.shaped (.list [.int n, .int m, .int k]) = true := by
  show (PyData.canLay0 (.list [.int n, .int m, .int k]) && decide (PyData.depth (.list [.int n, .int m, .int k]) ≤ 64)) = true
  simp [PyData.canLay0, PyData.canLayAll0, PyData.depth, PyData.depthAll]
theorem on1 {a b c : I2} (h : 0 < sd a b c) : onB a b c = b ∧ onC a b c = c := by
  unfold onB onC
  rw [if_pos h, if_pos h]
  exact ⟨rfl, rfl⟩
theorem T3.butP {H H' : Hp} {pl qa qb qc : Addr} {a b c : I2} (hp : PoolAt pl H) (e : But pl H H') (h : T3 H qa qb qc a b c) : T3 H' qa qb qc a b c := ⟨e _ _ (tup_ne hp h.a) h.a, e _ _ (tup_ne hp h.b) h.b, e _ _ (tup_ne hp h.c) h.c⟩
theorem IsP.butP {C pl : Addr} {v : V} {x y : Int} {H H' : Hp} (p : PoolAt pl H) (b : But pl H H') (h : IsP C v x y H) : IsP C v x y H' := by
  obtain ⟨i, j, hp, _⟩ := p
  exact h.but hp b
theorem IsT.butP {C CT pl : Addr} {v : V} {a b c : I2} {H H' : Hp} (p : PoolAt pl H) (bt : But pl H H') (h : IsT C CT v a b c H) : IsT C CT v a b c H' := by
  obtain ⟨t, dx, l, v1, v2, v3, rfl, h1, h2, h3⟩ := h
  obtain ⟨i, j, hp, r⟩ := id p
  have n1 : t ≠ pl := ne_of h1 hp (by intro z; cases z)
  have n2 : l ≠ pl := fun e => by
    rw [e, hp] at h2
    injection h2 with h2
    injection h2 with h2
    injection h2 with _ h2
    injection h2 with _ h2
    cases h2
  exact ⟨t, dx, l, v1, v2, v3, rfl, bt _ _ n1 h1, bt _ _ n2 h2, h3.1.butP p bt, h3.2.1.butP p bt, h3.2.2.butP p bt⟩
/-- each is a pair of small numbers -/
def PL (H : Hp) (vs : List V) : Prop := ∀ (i : Nat) (v : V), vs[i]? = some v → ∃ (q : Addr) (p : I2), v = .ref q ∧ Tp H q p ∧ Sm2 5 p
theorem PL.ex {H H' : Hp} {vs : List V} (e : Same H H') (h : PL H vs) : PL H' vs := fun i v hv => by
  obtain ⟨q, p, h1, h2, h3⟩ := h i v hv
  exact ⟨q, p, h1, e _ _ h2, h3⟩
theorem PL.butP {H H' : Hp} {pl : Addr} {vs : List V} (hp : PoolAt pl H) (e : But pl H H') (h : PL H vs) : PL H' vs := fun i v hv => by
  obtain ⟨q, p, h1, h2, h3⟩ := h i v hv
  exact ⟨q, p, h1, e _ _ (tup_ne hp h2) h2, h3⟩
theorem PL.but {H H' : Hp} {D : Addr} {vs ys : List V} (hD : H D = some (.lst ys)) (e : But D H H') (h : PL H vs) : PL H' vs := fun i v hv => by
  obtain ⟨q, p, h1, h2, h3⟩ := h i v hv
  exact ⟨q, p, h1, e _ _ (ne_of h2 hD (by intro z; cases z)) h2, h3⟩
theorem PL.nil {H : Hp} : PL H [] := fun i v hv => by simp at hv
theorem PL.append {H : Hp} {vs ws : List V} (h : PL H vs) (h' : PL H ws) : PL H (vs ++ ws) := fun i v hv => by
  by_cases hi : i < vs.length
  · rw [List.getElem?_append_left hi] at hv
    exact h i v hv
  · rw [List.getElem?_append_right (by omega)] at hv
    exact h' _ v hv
theorem PL.one {H : Hp} {q : Addr} {p : I2} (h : Tp H q p) (s : Sm2 5 p) : PL H [.ref q] := fun i v hv => by
  match i, hv with
  | 0, hv =>
    cases hv
    exact ⟨q, p, rfl, h, s⟩
  | i + 1, hv => simp at hv
theorem smP {z : Int} (z0 : -9 ≤ z) (z1 : z ≤ 9) : Sm 5 z := by
  unfold Sm
  omega
/-- numbers in a row -/
def NL (vs : List V) : Prop := ∀ (i : Nat) (v : V), vs[i]? = some v → ∃ z : Int, v = .int z ∧ Sm 100 z
theorem NL.snoc {vs : List V} {z : Int} (h : NL vs) (s : Sm 100 z) : NL (vs ++ [.int z]) := fun i v hv => by
  by_cases hi : i < vs.length
  · rw [List.getElem?_append_left hi] at hv
    exact h i v hv
  · rw [List.getElem?_append_right (by omega)] at hv
    match e : i - vs.length, hv with
    | 0, hv =>
      cases hv
      exact ⟨z, rfl, s⟩
    | k + 1, hv => simp at hv
theorem NL.three {vs : List V} (h : NL vs) (l : vs.length = 3) : ∃ x y z : Int, vs = [.int x, .int y, .int z] ∧ Sm 100 x ∧ Sm 100 y ∧ Sm 100 z := by
  obtain ⟨a, b, c, rfl⟩ := len3' l
  obtain ⟨x, rfl, sx⟩ := h 0 _ rfl
  obtain ⟨y, rfl, sy⟩ := h 1 _ rfl
  obtain ⟨z, rfl, sz⟩ := h 2 _ rfl
  exact ⟨x, y, z, rfl, sx, sy, sz⟩
/-- what stands while a case is asked -/
structure St (C CT : Addr) (pl qa qb qc tr vl gl : Addr) (a b c : I2) (x y z : Int) (H : Hp) : Prop where
  pool : PoolAt pl H
  t : T3 H qa qb qc a b c
  tri : IsT C CT (.ref tr) a b c H
  vals : H vl = some (.lst [.int x, .int y, .int z])
  given : H gl = some (.lst [.int x, .int y, .int z])
  nv : vl ≠ pl
  ng : gl ≠ pl
section
variable {C CT pl qa qb qc tr vl gl : Addr} {a b c : I2} {x y z : Int} {H H' : Hp}
theorem St.ex (s : St C CT pl qa qb qc tr vl gl a b c x y z H) (e : Same H H') : St C CT pl qa qb qc tr vl gl a b c x y z H' :=
  ⟨s.pool.ex e, s.t.ex e, s.tri.ex e, e _ _ s.vals, e _ _ s.given, s.nv, s.ng⟩
theorem St.but (s : St C CT pl qa qb qc tr vl gl a b c x y z H) (b' : But pl H H') (p : PoolAt pl H') : St C CT pl qa qb qc tr vl gl a b c x y z H' :=
  ⟨p, s.t.butP s.pool b', s.tri.butP s.pool b', b' _ _ s.nv s.vals, b' _ _ s.ng s.given, s.nv, s.ng⟩
end
section
variable {P : Program} {w : World} {K : PySem.W.Frag} {mg : Str → Option Value} {base : Heap}
variable {C fW fI fP fA fO CT fS fTI fCo fEd fAr fEq fAd pAr CI fII CV fVI CF fG fWe fCk fVa fH fD fPr fLs fCn fLv fSa fR : Addr} {fdW fdI fdP fdA fdO fdS fdTI fdCo fdEd fdAr fdEq fdAd fdG fdWe fdCk fdVa fdH fdD fdPr fdLs fdCn fdLv fdSa fdR : FuncData}
theorem ok_law {f : Addr} {fd : FuncData} (F : Fun K "law" "law" sLaw f fd) (D : Defs K mg C fW fI fP fA fO fdW fdI fdP fdA fdO) (d : TDefs K mg C CT fS fTI fCo fEd fAr fEq fAd pAr fdS fdTI fdCo fdEd fdAr fdEq fdAd) (Vd : VDefs K mg fG fWe fCk fVa fdG fdWe fdCk fdVa)
    (L : LDefs P K mg C CI fII CV fVI CF fH fD fPr fLs fCn fLv fSa fR fdH fdD fdPr fdLs fdCn fdLv fdSa fdR) : FnG P w K mg base CX0 11 f fd ["script"] (spLaw K) := by
  have GR : FnG P w K mg base CX0 10 fR fdR ["triangle", "values", "point"] (spRef K C CT) := ok_ref L.FR D d Vd L.E
  have GVa : FnOk P w K mg base CX0 10 fVa fdVa ["triangle", "values", "point"] (spVal C CT) := ok_val D d Vd
  have GWe : FnOk P w K mg base CX0 8 fWe fdWe ["triangle", "point"] (spWei C CT) := ok_wei D d Vd
  have GAr : FnOk P w K mg base CX0 8 fAr fdAr ["self"] (spArea C CT) := d.GAr D
  have GTI : FnOk P w K mg base CX0 8 fTI fdTI ["self", "a", "b", "c"] (spTInit C CT) := d.GTI D
  have GI : FnOk P w K mg base CX0 2 fI fdI ["self", "x", "y"] (spInit C) := D.GI
  have GH : FnOk P w K mg base CX0 1 fH fdH ["script", "k"] (spHand K) := ok_hand L.FH L.TL
  have GD : FnOk P w K mg base CX0 1 fD fdD ["pool", "many"] spDraw := ok_draw L.FD L.TL
  have GPr : FnOk P w K mg base CX0 2 fPr fdPr ["pool", "size_here"] spPair := ok_pair L.FPr L.TL L.FD L.bD L.mD
  have GLs : FnOk P w K mg base CX0 1 fLs fdLs ["a", "b", "p"] spLSide := ok_lside L.FLs
  have GCn : FnOk P w K mg base CX0 3 fCn fdCn ["pool", "size_here"] spCorn := ok_corn L.FCn L.TL L.FD L.bD L.mD L.FPr L.bPr L.mPr L.FLs L.bLs L.mLs
  have GLv : FnOk P w K mg base CX0 2 fLv fdLv ["pool"] spLVal := ok_lval L.FLv L.TL L.FD L.bD L.mD
  have GSa : FnOk P w K mg base CX0 1 fSa fdSa ["found", "top", "bottom"] spSame := ok_same L.FSa
  refine F.okG scLaw (fun vs H Q E h => ?_) (fun cdv A outer s H vs Q E hgd0 hr hq => ?_)
  · obtain ⟨a, ns, rfl, _⟩ := h
    rfl
  · obtain ⟨sa, ns, rfl, hS, hlen, k⟩ := hq
    have hgd : (A.deeper (PyProof.Rows.envOfC (Str.ofString "law") (defScope sLaw) s.heap.objs.size f cdv)).guards = some [] := hgd0
    have hr9 : Room 9 _ := hr.mono (by decide)
    have hr8 : Room 8 _ := hr.mono (by decide)
    have hr3 : Room 3 _ := hr.mono (by decide)
    have hr2 : Room 2 _ := hr.mono (by decide)
    have hr1 : Room 1 _ := hr.mono (by decide)
    refine ⟨_, pss_cons (ps_for PassesOwn.never rfl (pi_range1 rfl L.TL.range (pa_cons (pe_callB (call_max2 rfl) (by rfl) L.TL.max (by decide +kernel) (pa_cons pe_int (pa_cons (pe_callB (call_min2 rfl) (by rfl) L.TL.min (by decide +kernel) (pa_cons (pe_callB call_len_seq (by rfl) L.TL.len PySem.boot_len (pa_cons (pv 0) pa_nil)) (pa_cons pe_int pa_nil))) pa_nil))) pa_nil)) (pg_name (i := 1) scLaw.nd rfl (Or.inl rfl))
        (pss_cons (ps_set (i := 2) scLaw.nd rfl (Or.inr rfl) (pe_call GH hr1 rfl L.mH L.FH.kp L.bH .nil pass0 (pa_cons (pv 0) (pa_cons (pv 1) pa_nil))))
        (pss_cons (ps_asg (pe_call GCn hr3 rfl L.mCn L.FCn.kp L.bCn .nil pass0 (pa_cons (pv 2) (pa_cons pe_int pa_nil))) (pg_unl rfl (pgs_cons (pg_name (i := 3) scLaw.nd rfl (Or.inl rfl)) (pgs_cons (pg_name (i := 4) scLaw.nd rfl (Or.inl rfl)) (pgs_cons (pg_name (i := 5) scLaw.nd rfl (Or.inl rfl)) pgs_nil)))))
        (pss_cons (ps_set (i := 6) scLaw.nd rfl (Or.inl rfl) (pe_make d.MT GTI hr9 rfl d.TT.mgT d.bTI .nil pass0 (pa_cons (pv 3) (pa_cons (pv 4) (pa_cons (pv 5) pa_nil)))))
        (pss_cons (ps_setLc (i := 7) (own := [("turn", 18)]) (g := gName 18) (tt := tYes) rfl scLaw.nd rfl rfl (sw_true rfl rfl rfl (by decide +kernel)) (pi_range1 rfl L.TL.range (pa_cons pe_int pa_nil)) (blkOk_by (own := [("turn", 18)]) (N := lawN) (sc := defScope sLaw) (by decide +kernel)) (fun _ _ _ _ _ => (pg_name (i := 18) scLaw.nd rfl (Or.inl rfl))) (fun _ _ _ _ _ => pts_nil) (fun _ _ _ _ _ => (pe_call GLv hr2 rfl L.mLv L.FLv.kp L.bLv .nil pass0 (pa_cons (pv 2) pa_nil))))
        (pss_cons (ps_set (i := 8) scLaw.nd rfl (Or.inl rfl) (pe_callTy call_list_of (by rfl) Vd.T.list (by decide +kernel) (pa_cons (pv 7) pa_nil)))
        (pss_cons (ps_for PassesOwn.never rfl (pi_list (pe_op op_cat (pe_lst (pa_cons (pv 3) (pa_cons (pv 4) (pa_cons (pv 5) pa_nil)))) (pe_lc (own := [("turn", 18)]) (g := gName 18) (tt := tYes) rfl scLaw.nd (pi_range1 rfl L.TL.range (pa_cons pe_int pa_nil)) (blkOk_by (own := [("turn", 18)]) (N := lawN) (sc := defScope sLaw) (by decide +kernel)) (fun _ _ _ _ _ => (pg_name (i := 18) scLaw.nd rfl (Or.inl rfl))) (fun _ _ _ _ _ => pts_nil) (fun _ _ _ _ _ => (pe_call GPr hr2 rfl L.mPr L.FPr.kp L.bPr .nil pass0 (pa_cons (pv 2) (pa_cons pe_int pa_nil))))))) (pg_name (i := 9) scLaw.nd rfl (Or.inl rfl))
        (pss_cons (ps_set (i := 10) scLaw.nd rfl (Or.inl rfl) (pe_tup (pa_cons (pe_call GLs hr1 rfl L.mLs L.FLs.kp L.bLs .nil pass0 (pa_cons (pv 4) (pa_cons (pv 5) (pa_cons (pv 9) pa_nil)))) (pa_cons (pe_call GLs hr1 rfl L.mLs L.FLs.kp L.bLs .nil pass0 (pa_cons (pv 5) (pa_cons (pv 3) (pa_cons (pv 9) pa_nil)))) (pa_cons (pe_call GLs hr1 rfl L.mLs L.FLs.kp L.bLs .nil pass0 (pa_cons (pv 3) (pa_cons (pv 4) (pa_cons (pv 9) pa_nil)))) pa_nil)))))
        (pss_cons (ps_if (PW.pt (pw_or (pt_cmpR (op_neD hr.units) (pe_call GWe hr8 rfl Vd.mWe Vd.FWe.kp Vd.bWe .nil pass0 (pa_cons (pv 6) (pa_cons (pe_make D.M GI hr3 rfl D.T.mgC D.bI .nil pass0 (pa_cons (pe_ix (r := rIxT K) ix_tup (pv 9) pe_int (fun _ _ => rfl)) (pa_cons (pe_ix (r := rIxT K) ix_tup (pv 9) pe_int (fun _ _ => rfl)) pa_nil))) pa_nil))) (pv 10) (nomark _)) (pw_or1 (pt_cmpR op_ne (pe_callB (cr_sumT rfl) (by rfl) Vd.T.sum (by decide +kernel) (pa_cons (pv 10) pa_nil)) (pe_prop (pv 6) d.TT.cl d.pAr GAr hr9 d.bAr .nil pass0 rfl) (nomark _))))) (pss_one (ps_ret pe_bl)) pss_nil)
        (pss_cons (ps_set (i := 11) scLaw.nd rfl (Or.inl rfl) (pe_callB (cr_sum rfl) (by rfl) Vd.T.sum (by decide +kernel) (pa_cons (pe_lc (own := [("part", 19), ("value", 20)]) (g := gTup K 2 (gCons (gName 19) (gCons (gName 20) gNil))) (tt := tYes) rfl scLaw.nd (pi_zipTX (by rfl) Vd.T.zip (pa_cons (pv 10) (pa_cons (pv 7) pa_nil))) (blkOk_by (own := [("part", 19), ("value", 20)]) (N := lawN) (sc := defScope sLaw) (by decide +kernel)) (fun _ _ _ _ _ => (pg_tup rfl (pgs_cons (pg_name (i := 19) scLaw.nd rfl (Or.inl rfl)) (pgs_cons (pg_name (i := 20) scLaw.nd rfl (Or.inl rfl)) pgs_nil)))) (fun _ _ _ _ _ => pts_nil) (fun _ _ _ _ _ => (pe_op op_mulW (pv 19) (pv 20)))) pa_nil)))
        (pss_one (ps_if (PW.pt (pw_or (pt_not (pt_val (pe_call GSa hr1 rfl L.mSa L.FSa.kp L.bSa .nil pass0 (pa_cons (pe_call GVa hr rfl Vd.mVa Vd.FVa.kp Vd.bVa .nil pass0 (pa_cons (pv 6) (pa_cons (pv 8) (pa_cons (pv 9) pa_nil)))) (pa_cons (pv 11) (pa_cons (pe_prop (pv 6) d.TT.cl d.pAr GAr hr9 d.bAr .nil pass0 rfl) pa_nil)))))) (pw_or1 (pt_cmpR (op_neD hr.units) (pv 8) (pv 7) (nomark _))))) (pss_one (ps_ret pe_bl)) pss_nil))))))
        (pss_cons (ps_if (PW.pt (pw_or (pt_cmpR (op_neD hr.units) (pe_call GVa hr rfl Vd.mVa Vd.FVa.kp Vd.bVa .nil pass0 (pa_cons (pv 6) (pa_cons (pe_callTy call_tuple_of (by rfl) D.T.tuple (by decide +kernel) (pa_cons (pv 7) pa_nil)) (pa_cons (pv 3) pa_nil)))) (pe_tup (pa_cons (pe_ix (r := rIxL K) ix_list (pv 7) pe_int (fun _ _ => rfl)) (pa_cons pe_int pa_nil))) (nomark _)) (pw_or1 (pt_cmpR (op_neD hr.units) (pe_call GVa hr rfl Vd.mVa Vd.FVa.kp Vd.bVa .nil pass0 (pa_cons (pv 6) (pa_cons (pv 7) (pa_cons (pv 4) pa_nil)))) (pe_tup (pa_cons (pe_ix (r := rIxL K) ix_list (pv 7) pe_int (fun _ _ => rfl)) (pa_cons pe_int pa_nil))) (nomark _))))) (pss_one (ps_ret pe_bl)) pss_nil)
        (pss_cons (ps_set (i := 12) scLaw.nd rfl (Or.inl rfl) (pe_tup (pa_cons (pe_op op_sub (pe_op op_add (pe_ix (r := rIxT K) ix_tup (pv 3) pe_int (fun _ _ => rfl)) (pe_ix (r := rIxT K) ix_tup (pv 4) pe_int (fun _ _ => rfl))) (pe_ix (r := rIxT K) ix_tup (pv 5) pe_int (fun _ _ => rfl))) (pa_cons (pe_op op_sub (pe_op op_add (pe_ix (r := rIxT K) ix_tup (pv 3) pe_int (fun _ _ => rfl)) (pe_ix (r := rIxT K) ix_tup (pv 4) pe_int (fun _ _ => rfl))) (pe_ix (r := rIxT K) ix_tup (pv 5) pe_int (fun _ _ => rfl))) pa_nil))))
        (pss_cons (ps_set (i := 13) scLaw.nd rfl (Or.inl rfl) (pe_op op_sub (pe_call GD hr1 rfl L.mD L.FD.kp L.bD .nil pass0 (pa_cons (pv 2) (pa_cons pe_int pa_nil))) pe_int))
        (pss_cons (ps_set (i := 14) scLaw.nd rfl (Or.inl rfl) (pe_tup (pa_cons (pe_op op_add (pe_ix (r := rIxT K) ix_tup (pv 3) pe_int (fun _ _ => rfl)) (pe_op op_mulW (pv 13) (pe_op op_sub (pe_ix (r := rIxT K) ix_tup (pv 4) pe_int (fun _ _ => rfl)) (pe_ix (r := rIxT K) ix_tup (pv 3) pe_int (fun _ _ => rfl))))) (pa_cons (pe_op op_add (pe_ix (r := rIxT K) ix_tup (pv 3) pe_int (fun _ _ => rfl)) (pe_op op_mulW (pv 13) (pe_op op_sub (pe_ix (r := rIxT K) ix_tup (pv 4) pe_int (fun _ _ => rfl)) (pe_ix (r := rIxT K) ix_tup (pv 3) pe_int (fun _ _ => rfl))))) pa_nil))))
        (pss_cons (ps_set (i := 15) scLaw.nd rfl (Or.inl rfl) (pe_call GVa hr rfl Vd.mVa Vd.FVa.kp Vd.bVa .nil pass0 (pa_cons (pe_make d.MT GTI hr9 rfl d.TT.mgT d.bTI .nil pass0 (pa_cons (pv 4) (pa_cons (pv 3) (pa_cons (pv 12) pa_nil)))) (pa_cons (pe_lst (pa_cons (pe_ix (r := rIxL K) ix_list (pv 7) pe_int (fun _ _ => rfl)) (pa_cons (pe_ix (r := rIxL K) ix_list (pv 7) pe_int (fun _ _ => rfl)) (pa_cons (pe_call GLv hr2 rfl L.mLv L.FLv.kp L.bLv .nil pass0 (pa_cons (pv 2) pa_nil)) pa_nil)))) (pa_cons (pv 14) pa_nil)))))
        (pss_cons (ps_if (PW.pt (pw_or (pt_cmpR (op_neD hr.units) (pv 15) (pe_call GVa hr rfl Vd.mVa Vd.FVa.kp Vd.bVa .nil pass0 (pa_cons (pv 6) (pa_cons (pv 7) (pa_cons (pv 14) pa_nil)))) (nomark _)) (pw_or1 (pt_cmpR (op_neD hr.units) (pv 15) (pe_tup (pa_cons (pe_op op_add (pe_ix (r := rIxL K) ix_list (pv 7) pe_int (fun _ _ => rfl)) (pe_op op_mulW (pv 13) (pe_op op_sub (pe_ix (r := rIxL K) ix_list (pv 7) pe_int (fun _ _ => rfl)) (pe_ix (r := rIxL K) ix_list (pv 7) pe_int (fun _ _ => rfl))))) (pa_cons pe_int pa_nil))) (nomark _))))) (pss_one (ps_ret pe_bl)) pss_nil)
        (pss_cons (ps_for PassesOwn.never rfl (pi_list (pe_lst (pa_cons pe_non (pa_cons (pe_slice sl_list (pv 7) po_none (po_some pe_int)) (pa_cons (pe_op op_cat (pv 7) (pe_lst (pa_cons pe_int pa_nil))) (pa_cons pe_str (pa_cons (pe_disp (pps_cons pe_int pe_int pps_nil) (by rfl) (by rfl) (fun z => by cases z) (by decide)) pa_nil))))))) (pg_name (i := 16) scLaw.nd rfl (Or.inl rfl))
        (pss_one (ps_if (pt_cmpR (op_neD hr.units) (pe_callG GR hgd hr rfl L.mR L.FR.kp L.bR pass0 (pa_cons (pv 6) (pa_cons (pv 16) (pa_cons (pv 3) pa_nil)))) (pe_tup (pa_cons pe_str (pa_cons pe_non pa_nil))) (nomark _)) (pss_one (ps_ret pe_bl)) pss_nil)))
        (pss_cons (ps_for PassesOwn.never rfl (pi_list (pe_lst (pa_cons (pe_tup (pa_cons pe_int (pa_cons (pe_lst (pa_cons pe_int (pa_cons pe_non (pa_cons pe_bl pa_nil)))) pa_nil))) (pa_cons (pe_tup (pa_cons pe_int (pa_cons (pe_lst (pa_cons pe_int (pa_cons pe_int (pa_cons pe_bl pa_nil)))) pa_nil))) (pa_cons (pe_tup (pa_cons pe_int (pa_cons (pe_lst (pa_cons pe_str (pa_cons pe_int (pa_cons pe_int pa_nil)))) pa_nil))) pa_nil))))) (pg_tup rfl (pgs_cons (pg_name (i := 17) scLaw.nd rfl (Or.inl rfl)) (pgs_cons (pg_name (i := 16) scLaw.nd rfl (Or.inl rfl)) pgs_nil)))
        (pss_one (ps_if (pt_cmpR (op_neD hr.units) (pe_callG GR hgd hr rfl L.mR L.FR.kp L.bR pass0 (pa_cons (pv 6) (pa_cons (pv 16) (pa_cons (pv 3) pa_nil)))) (pe_tup (pa_cons pe_str (pa_cons (pv 17) pa_nil))) (nomark _)) (pss_one (ps_ret pe_bl)) pss_nil)))
        (pss_one (ps_if (pt_cmpR (op_neD hr.units) (pe_callG GR hgd hr rfl L.mR L.FR.kp L.bR pass0 (pa_cons (pv 6) (pa_cons pe_non (pa_cons (pe_tup (pa_cons pe_int pa_nil)) pa_nil)))) (pe_tup (pa_cons pe_str (pa_cons pe_str pa_nil))) (nomark _)) (pss_one (ps_ret pe_bl)) pss_nil)))))))))))))))))
      (pss_one (ps_ret pe_bl)), ?_⟩
    -- range(max(1, min(len(script), 8)))
    refine ⟨_, rfl, sa, _, rfl, .inl hS, _, _, rfl, _, _, rfl, ?_⟩
    have hn8 : ∀ z : Int, z = (if (if (8 : Int) < ((ns.map V.int).length : Int) then (8 : Int) else ((ns.map V.int).length : Int)) > 1 then (if (8 : Int) < ((ns.map V.int).length : Int) then (8 : Int) else ((ns.map V.int).length : Int)) else 1) → 0 ≤ z ∧ z ≤ 8 := by
      intro z hz
      split at hz <;> split at hz <;> omega
    obtain ⟨n0, n8⟩ := hn8 _ rfl
    refine ⟨_, rfl, by omega, by omega, ?_⟩
    refine for_range (lo := 0) (fun i σ H' => ∃ v1 v2 v3 v4 v5 v6 v7 v8 v9 v10 v11 v12 v13 v14 v15 v16 v17 v18 v19 v20 : Option V, σ = [some (.ref sa), v1, v2, v3, v4, v5, v6, v7, v8, v9, v10, v11, v12, v13, v14, v15, v16, v17, v18, v19, v20] ∧ Same H H')
      ⟨_, _, _, _, _, _, _, _, _, _, _, _, _, _, _, _, _, _, _, _, rfl, Same.refl _⟩ ?_ ?_
    case refine_2 =>
      rintro σ H' ⟨v1, v2, v3, v4, v5, v6, v7, v8, v9, v10, v11, v12, v13, v14, v15, v16, v17, v18, v19, v20, rfl, eH⟩
      exact k _
    rintro i σ H0 hi ⟨v1, v2, v3, v4, v5, v6, v7, v8, v9, v10, v11, v12, v13, v14, v15, v16, v17, v18, v19, v20, rfl, eH⟩
    -- pool
    refine ⟨_, rfl, _, rfl, sa, ns, _, rfl, eH.seq hS, hlen, by omega, by omega, fun pl H1 hpl e1 p1 => ?_⟩
    clear hn8 n0 n8 hi
    -- a, b, c
    refine ⟨_, rfl, pl, rfl, p1, fun lq qa qb qc a b c H2 b2 p2 hlq t2 pos sA sB sC => ?_⟩
    have e2 := b2.same hpl e1
    refine ⟨lq, _, rfl, SqL.of hlq, rfl, _, _, rfl, _, _, rfl, _, _, rfl, rfl, ?_⟩
    clear e1 p1 b2 hlq
    -- triangle
    dsimp only
    refine seq_gen (fun σ' H' => ∃ (u1 : Option V) (tr : Addr), σ' = [some (.ref sa), u1, some (.ref pl), some (.ref qa), some (.ref qb), some (.ref qc), some (.ref tr), v7, v8, v9, v10, v11, v12, v13, v14, v15, v16, v17, v18, v19, v20] ∧ Same H2 H' ∧ IsT C CT (.ref tr) a b c H') (fun N hN => ?_) ?_
    · refine ⟨_, rfl, _, rfl, _, rfl, ?_⟩
      refine fun x dx nx nd ne => make_tri (C := C) (CT := CT) (n := 5) (Q := fun v H' => N [some (.ref sa), some (.int (0 + (i : Int))), some (.ref pl), some (.ref qa), some (.ref qb), some (.ref qc), some v, v7, v8, v9, v10, v11, v12, v13, v14, v15, v16, v17, v18, v19, v20] H') ⟨qa, rfl, .inr t2.a⟩ ⟨qb, rfl, .inr t2.b⟩ ⟨qc, rfl, .inr t2.c⟩ (by decide) sA sB sC (by omega) (fun t H3 e3 h3 => ?_) x dx nx nd ne
      rw [(on1 pos).1, (on1 pos).2] at h3
      obtain ⟨tr, _, _, _, _, _, rfl, _⟩ := id h3
      exact hN _ _ ⟨_, tr, rfl, e3, h3⟩
    rintro σ H3 ⟨u1, tr, rfl, e3', hT3⟩
    have e3 := e2.trans e3'
    have p3 := p2.ex e3'
    have t3 := t2.ex e3'
    clear e2 p2 t2 e3'
    -- values
    refine seq_gen (fun σ' H' => ∃ (u18 : Option V) (vl : Addr) (x y z : Int), σ' = [some (.ref sa), u1, some (.ref pl), some (.ref qa), some (.ref qb), some (.ref qc), some (.ref tr), some (.ref vl), v8, v9, v10, v11, v12, v13, v14, v15, v16, v17, u18, v19, v20] ∧ But pl H3 H' ∧ PoolAt pl H' ∧ H' vl = some (.lst [.int x, .int y, .int z]) ∧ vl ≠ pl ∧ Sm 100 x ∧ Sm 100 y ∧ Sm 100 z) (fun N hN => ?_) ?_
    · refine ⟨_, rfl, by decide, by decide, fun D0 nD => ?_⟩
      have pD : D0 ≠ pl := p3.ne nD
      refine lc_range (lo := 0) (n := 3) (fun i H' => But pl H3 H' ∧ PoolAt pl H' ∧ ∃ vs : List V, H' D0 = some (.lst vs) ∧ vs.length = i ∧ NL vs)
        ⟨But.of (same_new nD), p3.ex (same_new nD), [], upd_same, rfl, fun i v h => by simp at h⟩ ?_ ?_
      · rintro j H4 hj ⟨b4, p4, vs, hD, hvl, hE⟩
        refine ⟨rfl, ?_⟩
        unfold tYes
        dsimp only
        rw [if_pos rfl]
        refine ⟨_, rfl, pl, rfl, p4, fun r H5 sr b5 p5 => ?_⟩
        have hD5 := b5 _ _ pD hD
        refine ⟨vs, hD5, Nat.lt_of_lt_of_le (by omega : vs.length < 100) (by decide), fun b' o nb hb' => ?_, ?_, vs ++ [.int r], upd_same, by rw [List.length_append, hvl]; rfl, hE.snoc sr⟩
        · rw [upd_ne (ne_of_none hb' nD)]
          exact b5 _ _ nb (b4 _ _ nb hb')
        · obtain ⟨i6, j6, h6, r6⟩ := p5
          exact ⟨i6, j6, by rw [upd_ne pD.symm]; exact h6, r6⟩
      · rintro H4 ⟨b4, p4, vs, hD, hvl, hE⟩
        obtain ⟨x, y, z, rfl, sx, sy, sz⟩ := hE.three hvl
        exact hN _ _ ⟨_, D0, x, y, z, rfl, b4, p4, hD, pD, sx, sy, sz⟩
    rintro σ H4 ⟨u18, vl, x, y, z, rfl, b4, p4, hv4, nv, sx, sy, sz⟩
    have e4 := b4.same hpl e3
    have t4 := t3.butP p3 b4
    have hT4 := hT3.butP p3 b4
    clear e3 t3 hT3 p3 b4
    -- given
    refine ⟨_, rfl, vl, _, rfl, .inl (SqL.of hv4), fun gl ngl => ?_⟩
    have gG := same_new (o := .lst [.int x, .int y, .int z]) ngl
    have S5 : St C CT pl qa qb qc tr vl gl a b c x y z (upd H4 gl (.lst [.int x, .int y, .int z])) := ⟨p4.ex gG, t4.ex gG, hT4.ex gG, gG _ _ hv4, upd_same, nv, p4.ne ngl⟩
    have e5 := e4.trans gG
    generalize upd H4 gl (.lst [.int x, .int y, .int z]) = H5 at *
    clear e4 t4 hT4 p4 hv4 gG
    -- for p in [a, b, c] + ..
    dsimp only
    refine seq_gen (fun σ' H' => ∃ u9 u10 u11 u18 u19 u20 : Option V, σ' = [some (.ref sa), u1, some (.ref pl), some (.ref qa), some (.ref qb), some (.ref qc), some (.ref tr), some (.ref vl), some (.ref gl), u9, u10, u11, v12, v13, v14, v15, v16, v17, u18, u19, u20] ∧ Same H0 H' ∧ St C CT pl qa qb qc tr vl gl a b c x y z H') (fun N hN => ?_) ?_
    · refine ⟨_, rfl, _, rfl, _, rfl, (by show 3 ≤ sizeLine; decide), fun l1 nl1 => ?_⟩
      have g1 := same_new (o := .lst [V.ref qa, V.ref qb, V.ref qc]) nl1
      have nl1p : l1 ≠ pl := S5.pool.ne nl1
      have S6 := S5.ex g1
      have hl1 := upd_same (H := H5) (a := l1) (o := .lst [V.ref qa, V.ref qb, V.ref qc])
      have e6 := e5.trans g1
      generalize upd H5 l1 (.lst [V.ref qa, V.ref qb, V.ref qc]) = H6 at *
      refine ⟨_, rfl, by decide, by decide, fun D0 nD => ?_⟩
      have pD : D0 ≠ pl := S6.pool.ne nD
      have lD : l1 ≠ D0 := ne_of_none hl1 nD
      refine lc_range (lo := 0) (n := 6) (fun i H' => But pl H6 H' ∧ PoolAt pl H' ∧ ∃ vs : List V, H' D0 = some (.lst vs) ∧ vs.length = i ∧ PL H' vs)
        ⟨But.of (same_new nD), S6.pool.ex (same_new nD), [], upd_same, rfl, PL.nil⟩ ?_ ?_
      · rintro j H7 hj ⟨b7, p7, vs, hD, hvl, hE⟩
        refine ⟨rfl, ?_⟩
        unfold tYes
        dsimp only
        rw [if_pos rfl]
        refine ⟨_, rfl, pl, 9, rfl, p7, by decide, by decide, fun q px py H8 b8 p8 hq px0 px1 py0 py1 => ?_⟩
        have hD8 := b8 _ _ pD hD
        have bD : But D0 H8 (upd H8 D0 (.lst (vs ++ [.ref q]))) := But.upd
        refine ⟨vs, hD8, Nat.lt_of_lt_of_le (by omega : vs.length < 100) (by decide), fun b' o nb hb' => ?_, ?_, vs ++ [.ref q], upd_same, by rw [List.length_append, hvl]; rfl, ?_⟩
        · rw [upd_ne (ne_of_none hb' nD)]
          exact b8 _ _ nb (b7 _ _ nb hb')
        · obtain ⟨i6, j6, h6, r6⟩ := p8
          exact ⟨i6, j6, by rw [upd_ne pD.symm]; exact h6, r6⟩
        · exact ((hE.butP p7 b8).append (PL.one (p := (px, py)) hq ⟨smP px0 px1, smP py0 py1⟩)).but hD8 bD
      · rintro H7 ⟨b7, p7, vs, hD, hvl, hE⟩
        have S7 := S6.but b7 p7
        have e7 := b7.same hpl e6
        refine ⟨_, _, _, _, rfl, rfl, b7 _ _ nl1p hl1, hD, Nat.le_trans (by simp; omega : _ ≤ 100) (by decide), fun wl nwl => ?_⟩
        have g8 := same_new (o := .lst ([V.ref qa, V.ref qb, V.ref qc] ++ vs)) nwl
        have S8 := S7.ex g8
        have e8 := e7.trans g8
        have hwl := upd_same (H := H7) (a := wl) (o := .lst ([V.ref qa, V.ref qb, V.ref qc] ++ vs))
        have nw : wl ≠ pl := S7.pool.ne nwl
        have hP : PL (upd H7 wl (.lst ([V.ref qa, V.ref qb, V.ref qc] ++ vs))) ([V.ref qa, V.ref qb, V.ref qc] ++ vs) := PL.append (fun i v hv => by
          rcases two3 hv with ⟨_, rfl⟩ | ⟨_, rfl⟩ | ⟨_, rfl⟩
          · exact ⟨qa, a, rfl, S8.t.a, sA⟩
          · exact ⟨qb, b, rfl, S8.t.b, sB⟩
          · exact ⟨qc, c, rfl, S8.t.c, sC⟩) (hE.ex g8)
        refine ⟨wl, rfl, ⟨_, SqL.of hwl⟩, ?_⟩
        generalize upd H7 wl (.lst ([V.ref qa, V.ref qb, V.ref qc] ++ vs)) = H8 at *
        generalize [V.ref qa, V.ref qb, V.ref qc] ++ vs = ws at *
        refine for_list (K := K) (a := wl) (xs := ws) (fun j σ' H' => ∃ u9 u10 u11 u18 u19 u20 : Option V, σ' = [some (.ref sa), u1, some (.ref pl), some (.ref qa), some (.ref qb), some (.ref qc), some (.ref tr), some (.ref vl), some (.ref gl), u9, u10, u11, v12, v13, v14, v15, v16, v17, u18, u19, u20] ∧ Same H8 H') ⟨_, _, _, _, _, _, rfl, Same.refl _⟩ (fun j σ' H' _ h => by
          obtain ⟨_, _, _, _, _, _, _, e⟩ := h
          exact SqL.of (e _ _ hwl)) ?_ ?_
        case refine_2 =>
          rintro σ H' ⟨u9, u10, u11, u18, u19, u20, rfl, e⟩
          exact hN _ _ ⟨_, _, _, _, _, _, rfl, e8.trans e, S8.ex e⟩
        rintro j v σ H9 hv ⟨u9, u10, u11, u18', u19, u20, rfl, e9⟩
        have S9 := S8.ex e9
        obtain ⟨qp, p, rfl, hp, sp⟩ := hP.ex e9 j v hv
        refine ⟨_, rfl, _, rfl, _, rfl, 5, qb, qc, qp, b, c, p, rfl, ⟨S9.t.b, S9.t.c, hp⟩, by decide, sB, sC, sp, ?_⟩
        refine ⟨_, rfl, _, rfl, _, rfl, 5, qc, qa, qp, c, a, p, rfl, ⟨S9.t.c, S9.t.a, hp⟩, by decide, sC, sA, sp, ?_⟩
        refine ⟨_, rfl, _, rfl, _, rfl, 5, qa, qb, qp, a, b, p, rfl, ⟨S9.t.a, S9.t.b, hp⟩, by decide, sA, sB, sp, (by show 3 ≤ sizeLine; decide), fun tq ntq => ?_⟩
        have g10 := same_new (o := .tup [V.int (sd b c p), V.int (sd c a p), V.int (sd a b p)]) ntq
        have S10 := S9.ex g10
        have hp10 := g10 _ _ hp
        have htq := upd_same (H := H9) (a := tq) (o := .tup [V.int (sd b c p), V.int (sd c a p), V.int (sd a b p)])
        have e10 := e9.trans g10
        generalize upd H9 tq (.tup [V.int (sd b c p), V.int (sd c a p), V.int (sd a b p)]) = H10 at *
        clear S9 hp g10 e9
        -- weights
        dsimp only
        refine seq_gen (fun σ' H' => σ' = [some (.ref sa), u1, some (.ref pl), some (.ref qa), some (.ref qb), some (.ref qc), some (.ref tr), some (.ref vl), some (.ref gl), some (.ref qp), some (.ref tq), u11, v12, v13, v14, v15, v16, v17, u18', u19, u20] ∧ Same H10 H') (fun N hN => ?_) ?_
        · refine ⟨_, rfl, _, rfl, qp, _, _, _, rfl, rfl, SqT.of hp10, atI_nat (j := 0) rfl, _, rfl, qp, _, _, _, rfl, rfl, SqT.of hp10, atI_nat (j := 1) rfl, ?_⟩
          refine fun c5 dc5 nc5 nd5 ne5 => ⟨c5, dc5, p.1, p.2, rfl, upd_same, rfl, ?_⟩
          have e5' := made_same (C := C) (X := p.1) (Y := p.2) nc5 nd5
          have h5 := made_is (C := C) (x := c5) (dx := dc5) (H := H10) (X := p.1) (Y := p.2)
          refine ⟨5, .ref tr, .ref c5, a, b, c, p, rfl, S10.tri.ex e5', h5.pt, by decide, sA, sB, sC, sp, fun q H11 e11 hq => ?_⟩
          have a11 := e5'.trans e11
          have htq1 := a11 _ _ htq
          refine ⟨_, rfl, .tuple [.int (sd b c p), .int (sd c a p), .int (sd a b p)], .tuple [.int (sd b c p), .int (sd c a p), .int (sd a b p)], .tup (SqT.of hq) (.cons (.int _) (.cons (.int _) (.cons (.int _) .nil))), .tup (SqT.of htq1) (.cons (.int _) (.cons (.int _) (.cons (.int _) .nil))), shT3 _ _ _, shT3 _ _ _, _, rfl, ?_⟩
          rw [sh_self (shT3 _ _ _)]
          refine iteF ?_
          have hT1 := S10.tri.ex a11
          obtain ⟨tr', dx, l6, q1, q2, q3, z0, htr, _⟩ := id hT1
          cases z0
          refine ⟨_, rfl, tq, [sd b c p, sd c a p, sd a b p], rfl, SqT.of htq1, ?_⟩
          refine ⟨_, rfl, tr, dx, _, rfl, htr, 5, _, a, b, c, rfl, hT1, by decide, sA, sB, sC, fun H12 e12 => ?_⟩
          refine ⟨rfl, _, rfl, iteNS (congrArg V.int (wsum a b c p)) ?_⟩
          exact hN _ _ ⟨rfl, a11.trans e12⟩
        rintro σ H11 ⟨rfl, e11⟩
        have S11 := S10.ex e11
        have htq1 := e11 _ _ htq
        have hp1 := e11 _ _ hp10
        have e12 := e10.trans e11
        clear S10 htq hp10 e10 e11
        -- top
        refine seq_gen (fun σ' H' => ∃ u19 u20 : Option V, σ' = [some (.ref sa), u1, some (.ref pl), some (.ref qa), some (.ref qb), some (.ref qc), some (.ref tr), some (.ref vl), some (.ref gl), some (.ref qp), some (.ref tq), some (.int (tot a b c p x y z)), v12, v13, v14, v15, v16, v17, u18', u19, u20] ∧ Same H11 H') (fun N hN => ?_) ?_
        · obtain ⟨s_bc, s_ca, s_ab⟩ : Sm 13 (sd b c p) ∧ Sm 13 (sd c a p) ∧ Sm 13 (sd a b p) := ⟨sd_sm sB sC sp, sd_sm sC sA sp, sd_sm sA sB sp⟩
          refine ⟨_, rfl, _, rfl, tq, vl, _, _, rfl, SqT.of htq1, .inl ⟨SqL.of S11.vals, fun D0 nD => ?_⟩⟩
          refine lc_zipG (n := 3) (sl := [19, 20]) [V.int (sd b c p), V.int (sd c a p), V.int (sd a b p)] [V.int x, V.int y, V.int z] (fun H' => Same H11 H') (fun i H' => Same H11 H' ∧ H' D0 = some (.lst (([sd b c p * x, sd c a p * y, sd a b p * z].take i).map V.int))) (fun i H' h => h.1)
            (fun i H' e hi => ?_) (fun H' e => ?_) (fun i H' v H'' e hi yd => ?_) ⟨same_new nD, upd_same⟩ (fun i u v T H' hi hu hv p' nT => ?_) (fun H' p' => ?_)
          · have q3' := e _ _ htq1
            have v3' := e _ _ S11.vals
            have hc : i = 0 ∨ i = 1 ∨ i = 2 := by omega
            rcases hc with rfl | rfl | rfl
            · exact ⟨_, _, _, _, SqT.of q3', SqL.of v3', rfl, rfl⟩
            · exact ⟨_, _, _, _, SqT.of q3', SqL.of v3', rfl, rfl⟩
            · exact ⟨_, _, _, _, SqT.of q3', SqL.of v3', rfl, rfl⟩
          · exact ⟨_, _, SqT.of (e _ _ htq1), SqL.of (e _ _ S11.vals), Nat.le_refl 3, Nat.le_refl 3, .inl rfl⟩
          · obtain ⟨T, x', y', rfl, hT', rfl, f1, f2⟩ := yd
            exact ⟨T, x', y', rfl, hT', rfl, f1 _ (SqT.of (e _ _ htq1)), f2 _ (SqL.of (e _ _ S11.vals))⟩
          · obtain ⟨e, hD⟩ := p'
            have gT := same_new (o := .tup [u, v]) nT
            have hD' := gT _ _ hD
            have hc : i = 0 ∨ i = 1 ∨ i = 2 := by omega
            rcases hc with rfl | rfl | rfl
            · cases hu
              cases hv
              refine ⟨T, _, rfl, SqT.of upd_same, rfl, _, _, rfl, _, _, rfl, rfl, rfl, ?_⟩
              refine ⟨_, rfl, _, rfl, _, _, rfl, rfl, wide_mul s_bc sx (by decide) (by decide) (by decide), ?_⟩
              exact ⟨_, hD', (by show 0 < sizeLine; decide), But.upd.same nD (e.trans gT), upd_same⟩
            · cases hu
              cases hv
              refine ⟨T, _, rfl, SqT.of upd_same, rfl, _, _, rfl, _, _, rfl, rfl, rfl, ?_⟩
              refine ⟨_, rfl, _, rfl, _, _, rfl, rfl, wide_mul s_ca sy (by decide) (by decide) (by decide), ?_⟩
              exact ⟨_, hD', (by show 1 < sizeLine; decide), But.upd.same nD (e.trans gT), upd_same⟩
            · cases hu
              cases hv
              refine ⟨T, _, rfl, SqT.of upd_same, rfl, _, _, rfl, _, _, rfl, rfl, rfl, ?_⟩
              refine ⟨_, rfl, _, rfl, _, _, rfl, rfl, wide_mul s_ab sz (by decide) (by decide) (by decide), ?_⟩
              exact ⟨_, hD', (by show 2 < sizeLine; decide), But.upd.same nD (e.trans gT), upd_same⟩
          · obtain ⟨e4, hD⟩ := p'
            exact ⟨D0, [sd b c p * x, sd c a p * y, sd a b p * z], rfl, SqL.of hD, hN _ _ ⟨_, _, rfl, e4⟩⟩
        rintro σ H12 ⟨u19', u20', rfl, e13⟩
        have S12 := S11.ex e13
        have hp2 := e13 _ _ hp1
        have e14 := e12.trans e13
        clear S11 htq1 hp1 e12 e13
        -- _law_same
        have f0 : (0 : Int) < (Int.gcd (tot a b c p x y z) (sd a b c) : Int) := by
          have := Int.gcd_pos_of_ne_zero_right (tot a b c p x y z) (show sd a b c ≠ 0 by omega)
          omega
        obtain ⟨f1p, feq, fcop⟩ := gcd_facts (T := tot a b c p x y z) pos
        have sT : Sm 3000 (tot a b c p x y z) := (tot_sm sA sB sC sp sx sy sz).up (by decide)
        have sAr : Sm 3000 (sd a b c) := (sd_sm sA sB sC).up (by decide)
        refine ⟨_, rfl, _, rfl, _, rfl, 5, .ref tr, .ref gl, .ref qp, a, b, c, p, x, y, z, rfl, S12.tri, ⟨gl, rfl, .inl S12.given⟩, ⟨qp, rfl, .inr hp2⟩, by decide, sA, sB, sC, sp, sx.up (by decide), sy.up (by decide), sz.up (by decide), pos, fun q H13 e15 hq => ?_⟩
        have S13 := S12.ex e15
        have hT3 := S13.tri
        obtain ⟨tr', dx, l6, q1, q2, q3, z0, htr, _⟩ := id hT3
        cases z0
        refine ⟨_, rfl, _, rfl, tr, dx, _, rfl, htr, 5, _, a, b, c, rfl, hT3, by decide, sA, sB, sC, fun H14 e16 => ?_⟩
        refine ⟨q, _, _, _, _, rfl, e16 _ _ hq, f1p, feq, fcop, div_sm sT f0 (Int.gcd_dvd_left ..), div_sm sAr f0 (Int.gcd_dvd_right ..), sT, sAr, fun H15 e17 => ⟨true, rfl, ?_⟩⟩
        refine iteF ?_
        have a17 := e15.trans (e16.trans e17)
        have S15 := S12.ex a17
        refine ⟨_, rfl, _, rfl, .list [.int x, .int y, .int z], .list [.int x, .int y, .int z], .lst (SqL.of S15.given) (.cons (.int _) (.cons (.int _) (.cons (.int _) .nil))), .lst (SqL.of S15.vals) (.cons (.int _) (.cons (.int _) (.cons (.int _) .nil))), shL3 _ _ _, shL3 _ _ _, _, rfl, ?_⟩
        rw [sh_self (shL3 _ _ _)]
        refine iteF ?_
        exact ⟨_, _, _, _, _, _, rfl, e14.trans a17⟩
    rintro σ H6 ⟨u9, u10, u11, u18', u19, u20, rfl, e6, S6⟩
    clear e5 S5
    -- value_at at a and at b
    refine seq_gen (fun σ' H' => σ' = [some (.ref sa), u1, some (.ref pl), some (.ref qa), some (.ref qb), some (.ref qc), some (.ref tr), some (.ref vl), some (.ref gl), u9, u10, u11, v12, v13, v14, v15, v16, v17, u18', u19, u20] ∧ Same H6 H') (fun N hN => ?_) ?_
    · refine ⟨_, rfl, _, rfl, vl, _, rfl, .inl ⟨SqL.of S6.vals, fun tw ntw => ?_⟩⟩
      have g1 := same_new (o := .tup [V.int x, V.int y, V.int z]) ntw
      have S7 := S6.ex g1
      refine ⟨_, rfl, 5, .ref tr, .ref tw, .ref qa, a, b, c, a, x, y, z, rfl, S7.tri, ⟨tw, rfl, .inr upd_same⟩, ⟨qa, rfl, .inr S7.t.a⟩, by decide, sA, sB, sC, sA, sx.up (by decide), sy.up (by decide), sz.up (by decide), pos, fun q H8 e8 hq => ?_⟩
      rw [tot_a, (gcd_whole pos).1, (gcd_whole pos).2] at hq
      have S8 := S7.ex e8
      refine ⟨_, rfl, vl, _, _, _, rfl, rfl, SqL.of S8.vals, atI_nat (j := 0) rfl, (by show 2 ≤ sizeLine; decide), fun t2 nt2 => ?_⟩
      have g3 := same_new (o := .tup [V.int x, V.int 1]) nt2
      refine ⟨.tuple [.int x, .int 1], .tuple [.int x, .int 1], .tup (SqT.of (g3 _ _ hq)) (.cons (.int _) (.cons (.int _) .nil)), .tup (SqT.of upd_same) (.cons (.int _) (.cons (.int _) .nil)), shT2 _ _, shT2 _ _, _, rfl, ?_⟩
      rw [sh_self (shT2 _ _)]
      refine iteF ?_
      have S9 := S8.ex g3
      refine ⟨_, rfl, _, rfl, _, rfl, 5, .ref tr, .ref vl, .ref qb, a, b, c, b, x, y, z, rfl, S9.tri, ⟨vl, rfl, .inl S9.vals⟩, ⟨qb, rfl, .inr S9.t.b⟩, by decide, sA, sB, sC, sB, sx.up (by decide), sy.up (by decide), sz.up (by decide), pos, fun q H10 e10 hq => ?_⟩
      rw [tot_b, (gcd_whole pos).1, (gcd_whole pos).2] at hq
      have S10 := S9.ex e10
      refine ⟨_, rfl, vl, _, _, _, rfl, rfl, SqL.of S10.vals, atI_nat (j := 1) rfl, (by show 2 ≤ sizeLine; decide), fun t3 nt3 => ?_⟩
      have g4 := same_new (o := .tup [V.int y, V.int 1]) nt3
      refine ⟨.tuple [.int y, .int 1], .tuple [.int y, .int 1], .tup (SqT.of (g4 _ _ hq)) (.cons (.int _) (.cons (.int _) .nil)), .tup (SqT.of upd_same) (.cons (.int _) (.cons (.int _) .nil)), shT2 _ _, shT2 _ _, _, rfl, ?_⟩
      rw [sh_self (shT2 _ _)]
      refine iteF ?_
      exact hN _ _ ⟨rfl, g1.trans (e8.trans (g3.trans (e10.trans g4)))⟩
    rintro σ H7 ⟨rfl, e7'⟩
    have S7 := S6.ex e7'
    have e7 := e6.trans e7'
    clear S6 e6 e7'
    -- d, many, on_line
    refine seq_gen (fun σ' H' => ∃ dl : Addr, σ' = [some (.ref sa), u1, some (.ref pl), some (.ref qa), some (.ref qb), some (.ref qc), some (.ref tr), some (.ref vl), some (.ref gl), u9, u10, u11, some (.ref dl), v13, v14, v15, v16, v17, u18', u19, u20] ∧ Same H7 H' ∧ Tp H' dl (opp a b c)) (fun N hN => ?_) ?_
    · refine ⟨_, rfl, qa, _, _, _, rfl, rfl, SqT.of S7.t.a, atI_nat (j := 0) rfl, _, rfl, qb, _, _, _, rfl, rfl, SqT.of S7.t.b, atI_nat (j := 0) rfl, _, _, rfl, rfl, _, rfl, qc, _, _, _, rfl, rfl, SqT.of S7.t.c, atI_nat (j := 0) rfl, _, _, rfl, rfl, ?_⟩
      refine ⟨_, rfl, qa, _, _, _, rfl, rfl, SqT.of S7.t.a, atI_nat (j := 1) rfl, _, rfl, qb, _, _, _, rfl, rfl, SqT.of S7.t.b, atI_nat (j := 1) rfl, _, _, rfl, rfl, _, rfl, qc, _, _, _, rfl, rfl, SqT.of S7.t.c, atI_nat (j := 1) rfl, _, _, rfl, rfl, (by show 2 ≤ sizeLine; decide), fun dl ndl => ?_⟩
      exact hN _ _ ⟨dl, rfl, same_new ndl, upd_same⟩
    rintro σ H8 ⟨dl, rfl, e8', hdl⟩
    have S8 := S7.ex e8'
    have e8 := e7.trans e8'
    clear S7 e7 e8'
    refine seq_gen (fun σ' H' => ∃ m : Int, σ' = [some (.ref sa), u1, some (.ref pl), some (.ref qa), some (.ref qb), some (.ref qc), some (.ref tr), some (.ref vl), some (.ref gl), u9, u10, u11, some (.ref dl), some (.int m), v14, v15, v16, v17, u18', u19, u20] ∧ But pl H8 H' ∧ PoolAt pl H' ∧ Sm 5 m) (fun N hN => ?_) ?_
    · refine ⟨_, rfl, pl, 7, rfl, S8.pool, by decide, by decide, fun r H9 r0 r1 b9 p9 => ⟨_, _, rfl, rfl, ?_⟩⟩
      exact hN _ _ ⟨r - 3, rfl, b9, p9, smP (by omega) (by omega)⟩
    rintro σ H9 ⟨m, rfl, b9, p9, sm⟩
    have S9 := S8.but b9 p9
    have e9 := b9.same hpl e8
    have hdl9 := b9 _ _ (tup_ne S8.pool hdl) hdl
    clear S8 e8 hdl b9 p9
    refine seq_gen (fun σ' H' => ∃ ol : Addr, σ' = [some (.ref sa), u1, some (.ref pl), some (.ref qa), some (.ref qb), some (.ref qc), some (.ref tr), some (.ref vl), some (.ref gl), u9, u10, u11, some (.ref dl), some (.int m), some (.ref ol), v15, v16, v17, u18', u19, u20] ∧ Same H9 H' ∧ Tp H' ol (onL a b m)) (fun N hN => ?_) ?_
    · refine ⟨_, rfl, qa, _, _, _, rfl, rfl, SqT.of S9.t.a, atI_nat (j := 0) rfl, _, rfl, _, rfl, qb, _, _, _, rfl, rfl, SqT.of S9.t.b, atI_nat (j := 0) rfl, _, rfl, qa, _, _, _, rfl, rfl, SqT.of S9.t.a, atI_nat (j := 0) rfl, _, _, rfl, rfl, _, _, rfl, rfl, wide_mul sm (sB.1.sub sA.1) (by decide) (by decide) (by decide), _, _, rfl, rfl, ?_⟩
      refine ⟨_, rfl, qa, _, _, _, rfl, rfl, SqT.of S9.t.a, atI_nat (j := 1) rfl, _, rfl, _, rfl, qb, _, _, _, rfl, rfl, SqT.of S9.t.b, atI_nat (j := 1) rfl, _, rfl, qa, _, _, _, rfl, rfl, SqT.of S9.t.a, atI_nat (j := 1) rfl, _, _, rfl, rfl, _, _, rfl, rfl, wide_mul sm (sB.2.sub sA.2) (by decide) (by decide) (by decide), _, _, rfl, rfl, (by show 2 ≤ sizeLine; decide), fun ol nol => ?_⟩
      exact hN _ _ ⟨ol, rfl, same_new nol, upd_same⟩
    rintro σ H10 ⟨ol, rfl, e10', hol⟩
    have S10 := S9.ex e10'
    have e10 := e9.trans e10'
    have hdl10 := e10' _ _ hdl9
    clear S9 e9 e10' hdl9
    have sA' := sA.up (show 5 ≤ 20 by decide)
    have sB' := sB.up (show 5 ≤ 20 by decide)
    have sC' := sC.up (show 5 ≤ 20 by decide)
    have sO : Sm2 20 (opp a b c) := ⟨((sA.1.add sB.1).sub (sC.1.up (by decide))).up (by decide), ((sA.2.add sB.2).sub (sC.2.up (by decide))).up (by decide)⟩
    have sL : Sm2 20 (onL a b m) := ⟨((sA.1.up (by decide)).add (n := 11) (wide_lt sm (sB.1.sub sA.1))).up (by decide), ((sA.2.up (by decide)).add (n := 11) (wide_lt sm (sB.2.sub sA.2))).up (by decide)⟩
    have pos' : 0 < sd b a (opp a b c) := by rw [sd_opp]; exact pos
    -- other
    refine seq_gen (fun σ' H' => ∃ ot : Addr, σ' = [some (.ref sa), u1, some (.ref pl), some (.ref qa), some (.ref qb), some (.ref qc), some (.ref tr), some (.ref vl), some (.ref gl), u9, u10, u11, some (.ref dl), some (.int m), some (.ref ol), some (.ref ot), v16, v17, u18', u19, u20] ∧ Same H0 H' ∧ St C CT pl qa qb qc tr vl gl a b c x y z H' ∧ Tp H' ol (onL a b m) ∧ Tp H' ot (x + m * (y - x), 1)) (fun N hN => ?_) ?_
    · refine ⟨_, rfl, _, rfl, _, rfl, fun tx dx nx nd ne => ?_⟩
      have g1 : Same H10 (upd (upd H10 dx (.own tx)) tx (.ins CT dx [])) := (same_new nd).trans (same_new (by rw [upd_ne ne.symm]; exact nx))
      refine ⟨20, tx, dx, .ref qb, .ref qa, .ref dl, b, a, opp a b c, rfl, upd_same, ⟨qb, rfl, .inr (g1 _ _ S10.t.b)⟩, ⟨qa, rfl, .inr (g1 _ _ S10.t.a)⟩, ⟨dl, rfl, .inr (g1 _ _ hdl10)⟩, by decide, sB', sA', sO, by omega, fun l v1 v2 v3 H11 bt hx hl ht => ⟨rfl, ?_⟩⟩
      rw [(on1 pos').1, (on1 pos').2] at ht
      have e11' := But.same nx g1 bt
      have S11 := S10.ex e11'
      have e11 := e10.trans e11'
      have hol1 := e11' _ _ hol
      have hT1 : IsT C CT (.ref tx) b a (opp a b c) H11 := ⟨tx, dx, l, v1, v2, v3, rfl, hx, hl, ht⟩
      refine ⟨_, rfl, vl, _, _, _, rfl, rfl, SqL.of S11.vals, atI_nat (j := 1) rfl, _, rfl, vl, _, _, _, rfl, rfl, SqL.of S11.vals, atI_nat (j := 0) rfl, _, rfl, pl, rfl, S11.pool, fun r H12 sr b12 p12 => ⟨(by show 3 ≤ sizeLine; decide), fun l3 nl3 => ?_⟩⟩
      have S12 := S11.but b12 p12
      have e12 := b12.same hpl e11
      have hol2 := b12 _ _ (tup_ne S11.pool hol1) hol1
      have hT2 := hT1.butP S11.pool b12
      have g3 := same_new (o := .lst [V.int y, V.int x, V.int r]) nl3
      refine ⟨_, rfl, 20, .ref tx, .ref l3, .ref ol, b, a, opp a b c, onL a b m, y, x, r, rfl, hT2.ex g3, ⟨l3, rfl, .inl upd_same⟩, ⟨ol, rfl, .inr (g3 _ _ hol2)⟩, by decide, sB', sA', sO, sL, sy.up (by decide), sx.up (by decide), sr.up (by decide), pos', fun q H13 e13 hq => ?_⟩
      rw [tot_o, sd_opp, (gcd_whole pos).1, (gcd_whole pos).2] at hq
      have g4 := g3.trans e13
      exact hN _ _ ⟨q, rfl, e12.trans g4, S12.ex g4, g4 _ _ hol2, hq⟩
    rintro σ H11 ⟨ot, rfl, e11, S11, hol1, hot⟩
    clear S10 e10 hol hdl10
    -- other != ..
    refine seq_gen (fun σ' H' => σ' = [some (.ref sa), u1, some (.ref pl), some (.ref qa), some (.ref qb), some (.ref qc), some (.ref tr), some (.ref vl), some (.ref gl), u9, u10, u11, some (.ref dl), some (.int m), some (.ref ol), some (.ref ot), v16, v17, u18', u19, u20] ∧ Same H11 H') (fun N hN => ?_) ?_
    · refine ⟨_, rfl, _, rfl, _, rfl, _, rfl, 20, .ref tr, .ref vl, .ref ol, a, b, c, onL a b m, x, y, z, rfl, S11.tri, ⟨vl, rfl, .inl S11.vals⟩, ⟨ol, rfl, .inr hol1⟩, by decide, sA', sB', sC', sL, sx.up (by decide), sy.up (by decide), sz.up (by decide), pos, fun q H12 e12 hq => ?_⟩
      rw [tot_l, (gcd_whole pos).1, (gcd_whole pos).2] at hq
      have S12 := S11.ex e12
      have hot2 := e12 _ _ hot
      refine ⟨.tuple [.int (x + m * (y - x)), .int 1], .tuple [.int (x + m * (y - x)), .int 1], .tup (SqT.of hot2) (.cons (.int _) (.cons (.int _) .nil)), .tup (SqT.of hq) (.cons (.int _) (.cons (.int _) .nil)), shT2 _ _, shT2 _ _, _, rfl, ?_⟩
      rw [sh_self (shT2 _ _)]
      refine iteF ?_
      refine ⟨_, rfl, _, rfl, vl, _, _, _, rfl, rfl, SqL.of S12.vals, atI_nat (j := 0) rfl, _, rfl, _, rfl, vl, _, _, _, rfl, rfl, SqL.of S12.vals, atI_nat (j := 1) rfl, _, rfl, vl, _, _, _, rfl, rfl, SqL.of S12.vals, atI_nat (j := 0) rfl, _, _, rfl, rfl, _, _, rfl, rfl, wide_mul sm (sy.sub sx) (by decide) (by decide) (by decide), _, _, rfl, rfl, (by show 2 ≤ sizeLine; decide), fun t2 nt2 => ?_⟩
      have g3 := same_new (o := .tup [V.int (x + m * (y - x)), V.int 1]) nt2
      refine ⟨.tuple [.int (x + m * (y - x)), .int 1], .tuple [.int (x + m * (y - x)), .int 1], .tup (SqT.of (g3 _ _ hot2)) (.cons (.int _) (.cons (.int _) .nil)), .tup (SqT.of upd_same) (.cons (.int _) (.cons (.int _) .nil)), shT2 _ _, shT2 _ _, _, rfl, ?_⟩
      rw [sh_self (shT2 _ _)]
      refine iteF ?_
      exact hN _ _ ⟨rfl, e12.trans g3⟩
    rintro σ H12 ⟨rfl, e12'⟩
    have S12 := S11.ex e12'
    have e12 := e11.trans e12'
    clear S11 e11 hol1 hot e12'
    -- bad
    refine seq_gen (fun σ' H' => ∃ u16 : Option V, σ' = [some (.ref sa), u1, some (.ref pl), some (.ref qa), some (.ref qb), some (.ref qc), some (.ref tr), some (.ref vl), some (.ref gl), u9, u10, u11, some (.ref dl), some (.int m), some (.ref ol), some (.ref ot), u16, v17, u18', u19, u20] ∧ Same H12 H') (fun N hN => ?_) ?_
    · refine ⟨_, rfl, _, rfl, vl, _, rfl, SqL.of S12.vals, fun l1 n1 => ?_⟩
      have g1 := same_new (o := .lst (cutV [V.int x, V.int y, V.int z] none (some 2))) n1
      refine ⟨_, rfl, (by show 1 ≤ sizeLine; decide), fun l2 n2 => ?_⟩
      have g2 := same_new (o := .lst [V.int 1]) n2
      refine ⟨_, _, _, _, rfl, rfl, (g1.trans g2) _ _ S12.vals, upd_same, (by show 4 ≤ sizeLine; decide), fun l3 n3 => ?_⟩
      have g3 := same_new (o := .lst ([V.int x, V.int y, V.int z] ++ [V.int 1])) n3
      refine fun d4 n4 => ⟨upd_same, [(.inl 0, .int 1)], rfl, by decide, ?_⟩
      rw [upd_upd]
      have g4 := same_new (o := .dK (mergeK [] [(.inl 0, V.int 1)])) n4
      refine ⟨(by show 5 ≤ sizeLine; decide), fun bl nbl => ⟨bl, rfl, ⟨_, SqL.of upd_same⟩, ?_⟩⟩
      have g5 := same_new (o := .lst [V.non, V.ref l1, V.ref l3, V.str "abc", V.ref d4]) nbl
      have k4 := g5 _ _ (upd_same (a := d4) (o := .dK (mergeK [] [(.inl 0, V.int 1)])))
      have g45 := g4.trans g5
      have k3 := g45 _ _ (upd_same (a := l3) (o := .lst ([V.int x, V.int y, V.int z] ++ [V.int 1])))
      have k1 := (g2.trans (g3.trans g45)) _ _ (upd_same (H := H12) (a := l1) (o := .lst (cutV [V.int x, V.int y, V.int z] none (some 2))))
      have gA := g1.trans (g2.trans (g3.trans g45))
      have kb := upd_same (H := upd (upd (upd (upd H12 l1 (.lst (cutV [V.int x, V.int y, V.int z] none (some 2)))) l2 (.lst [V.int 1])) l3 (.lst ([V.int x, V.int y, V.int z] ++ [V.int 1]))) d4 (.dK (mergeK [] [(.inl 0, V.int 1)]))) (a := bl) (o := .lst [V.non, V.ref l1, V.ref l3, V.str "abc", V.ref d4])
      clear g1 g2 g3 g4 g5 g45 n1 n2 n3 n4 nbl
      generalize upd (upd (upd (upd (upd H12 l1 (.lst (cutV [V.int x, V.int y, V.int z] none (some 2)))) l2 (.lst [V.int 1])) l3 (.lst ([V.int x, V.int y, V.int z] ++ [V.int 1]))) d4 (.dK (mergeK [] [(.inl 0, V.int 1)]))) bl (.lst [V.non, V.ref l1, V.ref l3, V.str "abc", V.ref d4]) = H13 at *
      have S13 := S12.ex gA
      refine for_list (K := K) (a := bl) (xs := [V.non, V.ref l1, V.ref l3, V.str "abc", V.ref d4]) (fun j σ' H' => ∃ u16 : Option V, σ' = [some (.ref sa), u1, some (.ref pl), some (.ref qa), some (.ref qb), some (.ref qc), some (.ref tr), some (.ref vl), some (.ref gl), u9, u10, u11, some (.ref dl), some (.int m), some (.ref ol), some (.ref ot), u16, v17, u18', u19, u20] ∧ Same H13 H') ⟨_, rfl, Same.refl _⟩ (fun j σ' H' _ h => by
        obtain ⟨_, _, e⟩ := h
        exact SqL.of (e _ _ kb)) ?_ ?_
      case refine_2 =>
        rintro σ H' ⟨u16, rfl, e⟩
        exact hN _ _ ⟨_, rfl, gA.trans e⟩
      rintro j v σ H14 hv ⟨u16, rfl, e14⟩
      have S14 := S13.ex e14
      have hB : BadV H14 v .non := by
        match j, hv with
        | 0, hv => cases hv; exact .inl ⟨.non, rfl⟩
        | 1, hv => cases hv; exact .inr (.inl ⟨l1, _, rfl, e14 _ _ k1, (by show (2 : Nat) ≠ 3; decide), rfl⟩)
        | 2, hv => cases hv; exact .inr (.inl ⟨l3, _, rfl, e14 _ _ k3, (by show (4 : Nat) ≠ 3; decide), rfl⟩)
        | 3, hv => cases hv; exact .inl ⟨.str _, rfl⟩
        | 4, hv => cases hv; exact .inl ⟨.dct (e14 _ _ k4), rfl⟩
        | j + 5, hv => simp at hv
      refine ⟨_, rfl, _, rfl, _, rfl, .ref tr, v, .ref qa, rfl, .inr ⟨5, a, b, c, a, .non, S14.tri, ⟨qa, rfl, .inr S14.t.a⟩, by decide, sA, sB, sC, sA, hB, fun t H15 e15 ht => ?_⟩⟩
      refine ⟨(by show 2 ≤ sizeLine; decide), fun t2 nt2 => ?_⟩
      have g3 := same_new (o := .tup [V.str "values", V.non]) nt2
      refine ⟨.tuple [.str "values", .none], .tuple [.str "values", .none], .tup (SqT.of (g3 _ _ ht)) (.cons (.str _) (.cons .non .nil)), .tup (SqT.of upd_same) (.cons (.str _) (.cons .non .nil)), by decide +kernel, by decide +kernel, _, rfl, ?_⟩
      rw [sh_self (by decide +kernel)]
      refine iteF ?_
      exact ⟨_, rfl, e14.trans (e15.trans g3)⟩
    rintro σ H13 ⟨u16, rfl, e13'⟩
    have S13 := S12.ex e13'
    have e13 := e12.trans e13'
    clear S12 e12 e13'
    -- number, bad
    refine seq_gen (fun σ' H' => ∃ u16 u17 : Option V, σ' = [some (.ref sa), u1, some (.ref pl), some (.ref qa), some (.ref qb), some (.ref qc), some (.ref tr), some (.ref vl), some (.ref gl), u9, u10, u11, some (.ref dl), some (.int m), some (.ref ol), some (.ref ot), u16, u17, u18', u19, u20] ∧ Same H13 H') (fun N hN => ?_) ?_
    · refine ⟨(by show 3 ≤ sizeLine; decide), fun l1 n1 => ⟨(by show 2 ≤ sizeLine; decide), fun t1 m1 => ⟨(by show 3 ≤ sizeLine; decide), fun l2 n2 => ⟨(by show 2 ≤ sizeLine; decide), fun t2 m2 => ⟨(by show 3 ≤ sizeLine; decide), fun l3 n3 => ⟨(by show 2 ≤ sizeLine; decide), fun t3 m3 => ⟨(by show 3 ≤ sizeLine; decide), fun bl nbl => ⟨bl, rfl, ⟨_, SqL.of upd_same⟩, ?_⟩⟩⟩⟩⟩⟩⟩⟩
      have g1 := same_new (o := .lst [V.int 1, V.non, V.bl true]) n1
      have g2 := same_new (o := .tup [V.int 1, V.ref l1]) m1
      have g3 := same_new (o := .lst [V.int 1, V.int 2, V.bl true]) n2
      have g4 := same_new (o := .tup [V.int 2, V.ref l2]) m2
      have g5 := same_new (o := .lst [V.str "1", V.int 2, V.int 3]) n3
      have g6 := same_new (o := .tup [V.int 0, V.ref l3]) m3
      have g7 := same_new (o := .lst [V.ref t1, V.ref t2, V.ref t3]) nbl
      have f6 := g6.trans g7
      have f5 := g5.trans f6
      have f4 := g4.trans f5
      have f3 := g3.trans f4
      have f2 := g2.trans f3
      have f1 := g1.trans f2
      have k1 := f2 _ _ (upd_same (H := H13) (a := l1) (o := .lst [V.int 1, V.non, V.bl true]))
      have j1 := f3 _ _ (upd_same (a := t1) (o := .tup [V.int 1, V.ref l1]))
      have k2 := f4 _ _ (upd_same (a := l2) (o := .lst [V.int 1, V.int 2, V.bl true]))
      have j2 := f5 _ _ (upd_same (a := t2) (o := .tup [V.int 2, V.ref l2]))
      have k3 := f6 _ _ (upd_same (a := l3) (o := .lst [V.str "1", V.int 2, V.int 3]))
      have j3 := g7 _ _ (upd_same (a := t3) (o := .tup [V.int 0, V.ref l3]))
      have kb := upd_same (H := upd (upd (upd (upd (upd (upd H13 l1 (.lst [V.int 1, V.non, V.bl true])) t1 (.tup [V.int 1, V.ref l1])) l2 (.lst [V.int 1, V.int 2, V.bl true])) t2 (.tup [V.int 2, V.ref l2])) l3 (.lst [V.str "1", V.int 2, V.int 3])) t3 (.tup [V.int 0, V.ref l3])) (a := bl) (o := .lst [V.ref t1, V.ref t2, V.ref t3])
      clear g1 g2 g3 g4 g5 g6 g7 f2 f3 f4 f5 f6 n1 n2 n3 m1 m2 m3 nbl
      generalize upd (upd (upd (upd (upd (upd (upd H13 l1 (.lst [V.int 1, V.non, V.bl true])) t1 (.tup [V.int 1, V.ref l1])) l2 (.lst [V.int 1, V.int 2, V.bl true])) t2 (.tup [V.int 2, V.ref l2])) l3 (.lst [V.str "1", V.int 2, V.int 3])) t3 (.tup [V.int 0, V.ref l3])) bl (.lst [V.ref t1, V.ref t2, V.ref t3]) = H14 at *
      have S14 := S13.ex f1
      refine for_list (K := K) (a := bl) (xs := [V.ref t1, V.ref t2, V.ref t3]) (fun j σ' H' => ∃ u16 u17 : Option V, σ' = [some (.ref sa), u1, some (.ref pl), some (.ref qa), some (.ref qb), some (.ref qc), some (.ref tr), some (.ref vl), some (.ref gl), u9, u10, u11, some (.ref dl), some (.int m), some (.ref ol), some (.ref ot), u16, u17, u18', u19, u20] ∧ Same H14 H') ⟨_, _, rfl, Same.refl _⟩ (fun j σ' H' _ h => by
        obtain ⟨_, _, _, e⟩ := h
        exact SqL.of (e _ _ kb)) ?_ ?_
      case refine_2 =>
        rintro σ H' ⟨u16, u17, rfl, e⟩
        exact hN _ _ ⟨_, _, rfl, f1.trans e⟩
      rintro j v σ H15 hv ⟨u16', u17, rfl, e15⟩
      have S15 := S14.ex e15
      obtain ⟨tt, nn, vv, rfl, htt, hB, shn⟩ : ∃ (tt : Addr) (nn : Nat) (vv : V), v = .ref tt ∧ H15 tt = some (.tup [.int (nn : Nat), vv]) ∧ BadV H15 vv (.int (nn : Nat)) ∧ SeqAt.shaped (.tuple [.str "values", .int (nn : Nat)]) = true := by
        rcases two3 hv with ⟨_, rfl⟩ | ⟨_, rfl⟩ | ⟨_, rfl⟩
        · refine ⟨t1, 1, .ref l1, rfl, e15 _ _ j1, .inr (.inr ⟨l1, _, 1, .non, rfl, e15 _ _ k1, rfl, fun i x hi hx => ?_, rfl, trivial, rfl, rfl⟩), by decide +kernel⟩
          have : i = 0 := by omega
          subst this
          cases hx
          exact ⟨_, rfl⟩
        · refine ⟨t2, 2, .ref l2, rfl, e15 _ _ j2, .inr (.inr ⟨l2, _, 2, .bl true, rfl, e15 _ _ k2, rfl, fun i x hi hx => ?_, rfl, trivial, rfl, rfl⟩), by decide +kernel⟩
          have : i = 0 ∨ i = 1 := by omega
          rcases this with rfl | rfl
          · cases hx
            exact ⟨_, rfl⟩
          · cases hx
            exact ⟨_, rfl⟩
        · refine ⟨t3, 0, .ref l3, rfl, e15 _ _ j3, .inr (.inr ⟨l3, _, 0, .str "1", rfl, e15 _ _ k3, rfl, fun i x hi hx => ?_, rfl, trivial, rfl, rfl⟩), by decide +kernel⟩
          omega
      refine ⟨tt, _, rfl, SqT.of htt, rfl, _, _, rfl, _, _, rfl, rfl, ?_⟩
      refine ⟨_, rfl, _, rfl, _, rfl, .ref tr, vv, .ref qa, rfl, .inr ⟨5, a, b, c, a, .int (nn : Nat), S15.tri, ⟨qa, rfl, .inr S15.t.a⟩, by decide, sA, sB, sC, sA, hB, fun t H16 e16 ht => ?_⟩⟩
      refine ⟨_, rfl, (by show 2 ≤ sizeLine; decide), fun t9 nt9 => ?_⟩
      have g3 := same_new (o := .tup [V.str "values", V.int (nn : Nat)]) nt9
      refine ⟨.tuple [.str "values", .int (nn : Nat)], .tuple [.str "values", .int (nn : Nat)], .tup (SqT.of (g3 _ _ ht)) (.cons (.str _) (.cons (.int _) .nil)), .tup (SqT.of upd_same) (.cons (.str _) (.cons (.int _) .nil)), shn, shn, _, rfl, ?_⟩
      rw [sh_self shn]
      refine iteF ?_
      exact ⟨_, _, rfl, e15.trans (e16.trans g3)⟩
    rintro σ H14 ⟨u16', u17, rfl, e14'⟩
    have S14 := S13.ex e14'
    have e14 := e13.trans e14'
    clear S13 e13 e14'
    refine ⟨_, rfl, (by show 1 ≤ sizeLine; decide), fun t3 nt3 => ?_⟩
    have g4 := same_new (o := .tup [V.int 1]) nt3
    refine ⟨.ref tr, .non, .ref t3, rfl, .inl ⟨.tup upd_same (by decide), .tuple [.int 1], shows_by (by decide +kernel), .tup (SqT.of upd_same) (.cons (.int 1) .nil), fun t4 H18 e19 ht4 => ?_⟩⟩
    refine ⟨(by show 2 ≤ sizeLine; decide), fun t5 nt5 => ?_⟩
    have g5 := same_new (o := .tup [V.str "point", V.str "(1,)"]) nt5
    refine ⟨.tuple [.str "point", .str (PyData.tuple [.int 1]).shown], .tuple [.str "point", .str "(1,)"], .tup (SqT.of (g5 _ _ ht4)) (.cons (.str _) (.cons (.str _) .nil)), .tup (SqT.of upd_same) (.cons (.str _) (.cons (.str _) .nil)), by decide +kernel, by decide +kernel, _, rfl, ?_⟩
    have ez : PyData.eqv (.tuple [.str "point", .str (PyData.tuple [.int 1]).shown]) (.tuple [.str "point", .str "(1,)"]) = true := by decide +kernel
    rw [ez]
    refine iteF ?_
    exact ⟨_, _, _, _, _, _, _, _, _, _, _, _, _, _, _, _, _, _, _, _, rfl, eH.trans (e14.trans (g4.trans (e19.trans g5)))⟩
end
end Fo

set_option Elab.async false
set_option linter.all false
set_option maxRecDepth 100000
set_option maxHeartbeats 0
namespace Fo
open PySem L2
theorem all_mk {l : PySem.W.OpenLaw} {w : World} {K : PySem.W.Frag} {h : Heap} {mg : Str → Option Value} {fa C CT CF pAr fW fI fP fA fO fS fTI fCo fEd fAr fEq fAd fG fWe fCk fVa fH fD fPr fLs fCn fLv fSa fR fZ CIv gIv NIv cdaIv ccIv CIp gIp NIp cdaIp ccIp : Addr} (X : K.In h) (G : h.Ns mainGlobals mg) (hfa : mg "law" = some (.ref fa))
    {rsA : List Value}
    {nmIv qnIv quIv msIv fiIv : Str} {bsIv bmIv subIv : List Value} {snIv : List Str} {abIv : Bool} {colIv : Option Bool} {ddIv odgIv angIv cddIv cldIv : Option Addr} {e0Iv e1Iv e2Iv e3Iv e5Iv : Option Value} {ocgIv kVgIv dcgIv pmgIv ctgIv cclIv clIv : Value} {slgIv ccsIv cslIv : Array (Option Value)} {vsIv : Array Value} {p1Iv p2Iv r1Iv r2Iv r3Iv r4Iv r5Iv r6Iv q1Iv q2Iv q3Iv q4Iv : Pos} {jIv : Nat} {tfIv : Tok}
    {nmIp qnIp quIp msIp fiIp : Str} {bsIp bmIp subIp : List Value} {snIp : List Str} {abIp : Bool} {colIp : Option Bool} {ddIp odgIp angIp cddIp cldIp : Option Addr} {e0Ip e1Ip e2Ip e3Ip e5Ip : Option Value} {ocgIp kVgIp dcgIp pmgIp ctgIp cclIp clIp : Value} {slgIp ccsIp cslIp : Array (Option Value)} {vsIp : Array Value} {p1Ip p2Ip r1Ip r2Ip r3Ip r4Ip r5Ip r6Ip q1Ip q2Ip q3Ip q4Ip : Pos} {jIp : Nat} {tfIp : Tok}
    {odW anW odI anI odP anP odA anA odO anO odS anS odTI anTI odCo anCo odEd anEd odAr anAr odEq anEq odAd anAd odG anG odWe anWe odCk anCk odVa anVa odH anH odD anD odPr anPr odLs anLs odCn anCn odLv anLv odSa anSa odR anR odZ anZ : Option Addr} {slW slI slP slA slO slS slTI slCo slEd slAr slEq slAd slG slWe slCk slVa slH slD slPr slLs slCn slLv slSa slR slZ : Array (Option Value)} {ocW kVW dcW pmW cdW ctW ocI kVI dcI pmI cdI ctI ocP kVP dcP pmP cdP ctP ocA kVA dcA pmA cdA ctA ocO kVO dcO pmO cdO ctO ocS kVS dcS pmS cdS ctS ocTI kVTI dcTI pmTI cdTI ctTI ocCo kVCo dcCo pmCo cdCo ctCo ocEd kVEd dcEd pmEd cdEd ctEd ocAr kVAr dcAr pmAr cdAr ctAr ocEq kVEq dcEq pmEq cdEq ctEq ocAd kVAd dcAd pmAd cdAd ctAd ocG kVG dcG pmG cdG ctG ocWe kVWe dcWe pmWe cdWe ctWe ocCk kVCk dcCk pmCk cdCk ctCk ocVa kVVa dcVa pmVa cdVa ctVa ocH kVH dcH pmH cdH ctH ocD kVD dcD pmD cdD ctD ocPr kVPr dcPr pmPr cdPr ctPr ocLs kVLs dcLs pmLs cdLs ctLs ocCn kVCn dcCn pmCn cdCn ctCn ocLv kVLv dcLv pmLv cdLv ctLv ocSa kVSa dcSa pmSa cdSa ctSa ocR kVR dcR pmR cdR ctR ocZ kVZ dcZ pmZ cdZ ctZ : Value}
    (aC : PySem.W.nsIn K mainGlobals "Point" = some (some (.ref C)))
    (aCT : PySem.W.nsIn K mainGlobals "Triangle" = some (some (.ref CT)))
    (aW : PySem.W.nsIn K mainGlobals "is_whole" = some (some (.ref fW)))
    (lW : K.lookup fW = some ⟨ocW, odW, .func (PySem.W.fnOf "is_whole" "is_whole" (defArgs sWhole) (defBody sWhole) (defScope sWhole) .none kVW dcW pmW anW cdW ctW), slW⟩)
    (cW : PySem.W.codeIn K cdW "is_whole" = true)
    (kW : PySem.W.keepIn K (.ref fW) = true)
    (aI : PySem.W.findIn K (.ref C) "__init__" = some (some (.ref fI)))
    (iI : PySem.W.isFn K (.ref fI) = true)
    (lI : K.lookup fI = some ⟨ocI, odI, .func (PySem.W.fnOf "__init__" "Point.__init__" (defArgs sInit) (defBody sInit) (defScope sInit) .none kVI dcI pmI anI cdI ctI), slI⟩)
    (cI : PySem.W.codeIn K cdI "Point.__init__" = true)
    (kI : PySem.W.keepIn K (.ref fI) = true)
    (aP : PySem.W.nsIn K mainGlobals "is_point" = some (some (.ref fP)))
    (lP : K.lookup fP = some ⟨ocP, odP, .func (PySem.W.fnOf "is_point" "is_point" (defArgs sIsPoint) (defBody sIsPoint) (defScope sIsPoint) .none kVP dcP pmP anP cdP ctP), slP⟩)
    (cP : PySem.W.codeIn K cdP "is_point" = true)
    (kP : PySem.W.keepIn K (.ref fP) = true)
    (aA : PySem.W.nsIn K mainGlobals "as_point" = some (some (.ref fA)))
    (lA : K.lookup fA = some ⟨ocA, odA, .func (PySem.W.fnOf "as_point" "as_point" (defArgs sAsPoint) (defBody sAsPoint) (defScope sAsPoint) .none kVA dcA pmA anA cdA ctA), slA⟩)
    (cA : PySem.W.codeIn K cdA "as_point" = true)
    (kA : PySem.W.keepIn K (.ref fA) = true)
    (aO : PySem.W.nsIn K mainGlobals "operand" = some (some (.ref fO)))
    (lO : K.lookup fO = some ⟨ocO, odO, .func (PySem.W.fnOf "operand" "operand" (defArgs sOperand) (defBody sOperand) (defScope sOperand) .none kVO dcO pmO anO cdO ctO), slO⟩)
    (cO : PySem.W.codeIn K cdO "operand" = true)
    (kO : PySem.W.keepIn K (.ref fO) = true)
    (aS : PySem.W.nsIn K mainGlobals "side" = some (some (.ref fS)))
    (lS : K.lookup fS = some ⟨ocS, odS, .func (PySem.W.fnOf "side" "side" (defArgs sSide) (defBody sSide) (defScope sSide) .none kVS dcS pmS anS cdS ctS), slS⟩)
    (cS : PySem.W.codeIn K cdS "side" = true)
    (kS : PySem.W.keepIn K (.ref fS) = true)
    (aTI : PySem.W.findIn K (.ref CT) "__init__" = some (some (.ref fTI)))
    (iTI : PySem.W.isFn K (.ref fTI) = true)
    (lTI : K.lookup fTI = some ⟨ocTI, odTI, .func (PySem.W.fnOf "__init__" "Triangle.__init__" (defArgs sTInit) (defBody sTInit) (defScope sTInit) .none kVTI dcTI pmTI anTI cdTI ctTI), slTI⟩)
    (cTI : PySem.W.codeIn K cdTI "Triangle.__init__" = true)
    (kTI : PySem.W.keepIn K (.ref fTI) = true)
    (aCo : PySem.W.findIn K (.ref CT) "corners" = some (some (.ref fCo)))
    (iCo : PySem.W.isFn K (.ref fCo) = true)
    (lCo : K.lookup fCo = some ⟨ocCo, odCo, .func (PySem.W.fnOf "corners" "Triangle.corners" (defArgs sCorners) (defBody sCorners) (defScope sCorners) .none kVCo dcCo pmCo anCo cdCo ctCo), slCo⟩)
    (cCo : PySem.W.codeIn K cdCo "Triangle.corners" = true)
    (kCo : PySem.W.keepIn K (.ref fCo) = true)
    (aEd : PySem.W.findIn K (.ref CT) "edges" = some (some (.ref fEd)))
    (iEd : PySem.W.isFn K (.ref fEd) = true)
    (lEd : K.lookup fEd = some ⟨ocEd, odEd, .func (PySem.W.fnOf "edges" "Triangle.edges" (defArgs sEdges) (defBody sEdges) (defScope sEdges) .none kVEd dcEd pmEd anEd cdEd ctEd), slEd⟩)
    (cEd : PySem.W.codeIn K cdEd "Triangle.edges" = true)
    (kEd : PySem.W.keepIn K (.ref fEd) = true)
    (aAr : PySem.W.findIn K (.ref CT) "area2" = some (some (.ref pAr)))
    (gAr : PySem.W.specialIn K (.ref pAr) "__get__" = some (some (.builtin "property.__get__")))
    (tAr : PySem.W.takesIn K (.ref pAr) = some true)
    (rAr : PySem.W.recIn K pAr "property" = some (.ref fAr :: rsA))
    (lAr : K.lookup fAr = some ⟨ocAr, odAr, .func (PySem.W.fnOf "area2" "Triangle.area2" (defArgs sArea) (defBody sArea) (defScope sArea) .none kVAr dcAr pmAr anAr cdAr ctAr), slAr⟩)
    (cAr : PySem.W.codeIn K cdAr "Triangle.area2" = true)
    (kAr : PySem.W.keepIn K (.ref fAr) = true)
    (aEq : PySem.W.findIn K (.ref C) "__eq__" = some (some (.ref fEq)))
    (iEq : PySem.W.isFn K (.ref fEq) = true)
    (lEq : K.lookup fEq = some ⟨ocEq, odEq, .func (PySem.W.fnOf "__eq__" "Point.__eq__" (defArgs sEq) (defBody sEq) (defScope sEq) .none kVEq dcEq pmEq anEq cdEq ctEq), slEq⟩)
    (cEq : PySem.W.codeIn K cdEq "Point.__eq__" = true)
    (kEq : PySem.W.keepIn K (.ref fEq) = true)
    (aAd : PySem.W.findIn K (.ref C) "__add__" = some (some (.ref fAd)))
    (iAd : PySem.W.isFn K (.ref fAd) = true)
    (lAd : K.lookup fAd = some ⟨ocAd, odAd, .func (PySem.W.fnOf "__add__" "Point.__add__" (defArgs sAdd) (defBody sAdd) (defScope sAdd) .none kVAd dcAd pmAd anAd cdAd ctAd), slAd⟩)
    (cAd : PySem.W.codeIn K cdAd "Point.__add__" = true)
    (kAd : PySem.W.keepIn K (.ref fAd) = true)
    (aG : PySem.W.nsIn K mainGlobals "common_divisor" = some (some (.ref fG)))
    (lG : K.lookup fG = some ⟨ocG, odG, .func (PySem.W.fnOf "common_divisor" "common_divisor" (defArgs sGcd) (defBody sGcd) (defScope sGcd) .none kVG dcG pmG anG cdG ctG), slG⟩)
    (cG : PySem.W.codeIn K cdG "common_divisor" = true)
    (kG : PySem.W.keepIn K (.ref fG) = true)
    (aWe : PySem.W.nsIn K mainGlobals "weights" = some (some (.ref fWe)))
    (lWe : K.lookup fWe = some ⟨ocWe, odWe, .func (PySem.W.fnOf "weights" "weights" (defArgs sWei) (defBody sWei) (defScope sWei) .none kVWe dcWe pmWe anWe cdWe ctWe), slWe⟩)
    (cWe : PySem.W.codeIn K cdWe "weights" = true)
    (kWe : PySem.W.keepIn K (.ref fWe) = true)
    (aCk : PySem.W.nsIn K mainGlobals "check_values" = some (some (.ref fCk)))
    (lCk : K.lookup fCk = some ⟨ocCk, odCk, .func (PySem.W.fnOf "check_values" "check_values" (defArgs sChk) (defBody sChk) (defScope sChk) .none kVCk dcCk pmCk anCk cdCk ctCk), slCk⟩)
    (cCk : PySem.W.codeIn K cdCk "check_values" = true)
    (kCk : PySem.W.keepIn K (.ref fCk) = true)
    (aVa : PySem.W.nsIn K mainGlobals "value_at" = some (some (.ref fVa)))
    (lVa : K.lookup fVa = some ⟨ocVa, odVa, .func (PySem.W.fnOf "value_at" "value_at" (defArgs sVal) (defBody sVal) (defScope sVal) .none kVVa dcVa pmVa anVa cdVa ctVa), slVa⟩)
    (cVa : PySem.W.codeIn K cdVa "value_at" = true)
    (kVa : PySem.W.keepIn K (.ref fVa) = true)
    (aH : PySem.W.nsIn K mainGlobals "_law_hand" = some (some (.ref fH)))
    (lH : K.lookup fH = some ⟨ocH, odH, .func (PySem.W.fnOf "_law_hand" "_law_hand" (defArgs sHand) (defBody sHand) (defScope sHand) .none kVH dcH pmH anH cdH ctH), slH⟩)
    (cH : PySem.W.codeIn K cdH "_law_hand" = true)
    (kH : PySem.W.keepIn K (.ref fH) = true)
    (aD : PySem.W.nsIn K mainGlobals "_law_draw" = some (some (.ref fD)))
    (lD : K.lookup fD = some ⟨ocD, odD, .func (PySem.W.fnOf "_law_draw" "_law_draw" (defArgs sDraw) (defBody sDraw) (defScope sDraw) .none kVD dcD pmD anD cdD ctD), slD⟩)
    (cD : PySem.W.codeIn K cdD "_law_draw" = true)
    (kD : PySem.W.keepIn K (.ref fD) = true)
    (aPr : PySem.W.nsIn K mainGlobals "_law_pair" = some (some (.ref fPr)))
    (lPr : K.lookup fPr = some ⟨ocPr, odPr, .func (PySem.W.fnOf "_law_pair" "_law_pair" (defArgs sPair) (defBody sPair) (defScope sPair) .none kVPr dcPr pmPr anPr cdPr ctPr), slPr⟩)
    (cPr : PySem.W.codeIn K cdPr "_law_pair" = true)
    (kPr : PySem.W.keepIn K (.ref fPr) = true)
    (aLs : PySem.W.nsIn K mainGlobals "_law_side" = some (some (.ref fLs)))
    (lLs : K.lookup fLs = some ⟨ocLs, odLs, .func (PySem.W.fnOf "_law_side" "_law_side" (defArgs sLSide) (defBody sLSide) (defScope sLSide) .none kVLs dcLs pmLs anLs cdLs ctLs), slLs⟩)
    (cLs : PySem.W.codeIn K cdLs "_law_side" = true)
    (kLs : PySem.W.keepIn K (.ref fLs) = true)
    (aCn : PySem.W.nsIn K mainGlobals "_law_corners" = some (some (.ref fCn)))
    (lCn : K.lookup fCn = some ⟨ocCn, odCn, .func (PySem.W.fnOf "_law_corners" "_law_corners" (defArgs sCorn) (defBody sCorn) (defScope sCorn) .none kVCn dcCn pmCn anCn cdCn ctCn), slCn⟩)
    (cCn : PySem.W.codeIn K cdCn "_law_corners" = true)
    (kCn : PySem.W.keepIn K (.ref fCn) = true)
    (aLv : PySem.W.nsIn K mainGlobals "_law_value" = some (some (.ref fLv)))
    (lLv : K.lookup fLv = some ⟨ocLv, odLv, .func (PySem.W.fnOf "_law_value" "_law_value" (defArgs sLVal) (defBody sLVal) (defScope sLVal) .none kVLv dcLv pmLv anLv cdLv ctLv), slLv⟩)
    (cLv : PySem.W.codeIn K cdLv "_law_value" = true)
    (kLv : PySem.W.keepIn K (.ref fLv) = true)
    (aSa : PySem.W.nsIn K mainGlobals "_law_same" = some (some (.ref fSa)))
    (lSa : K.lookup fSa = some ⟨ocSa, odSa, .func (PySem.W.fnOf "_law_same" "_law_same" (defArgs sSame) (defBody sSame) (defScope sSame) .none kVSa dcSa pmSa anSa cdSa ctSa), slSa⟩)
    (cSa : PySem.W.codeIn K cdSa "_law_same" = true)
    (kSa : PySem.W.keepIn K (.ref fSa) = true)
    (aR : PySem.W.nsIn K mainGlobals "_law_refused" = some (some (.ref fR)))
    (lR : K.lookup fR = some ⟨ocR, odR, .func (PySem.W.fnOf "_law_refused" "_law_refused" (defArgs sRefused) (defBody sRefused) (defScope sRefused) .none kVR dcR pmR anR cdR ctR), slR⟩)
    (cR : PySem.W.codeIn K cdR "_law_refused" = true)
    (kR : PySem.W.keepIn K (.ref fR) = true)
    (aZ : PySem.W.nsIn K mainGlobals "law" = some (some (.ref fZ)))
    (lZ : K.lookup fZ = some ⟨ocZ, odZ, .func (PySem.W.fnOf "law" "law" (defArgs sLaw) (defBody sLaw) (defScope sLaw) .none kVZ dcZ pmZ anZ cdZ ctZ), slZ⟩)
    (cZ : PySem.W.codeIn K cdZ "law" = true)
    (kZ : PySem.W.keepIn K (.ref fZ) = true)
    (pg : PySem.W.plainGet K C Str.empty = true)
    (hd : PySem.W.hasDictIn K C = true)
    (po : PySem.W.plainOver K C = true)
    (sa : PySem.W.findIn K (.ref C) "__setattr__" = some (some (.builtin "object.__setattr__")))
    (mk : PySem.W.makesIn K C = true)
    (kc : PySem.W.keepIn K (.ref C) = true)
    (nX : PySem.W.findIn K (.ref C) "x" = some none)
    (nY : PySem.W.findIn K (.ref C) "y" = some none)
    (ha : PySem.W.findIn K (.ref C) "__class__" = some (some (.builtin "object.__class__")))
    (hn : PySem.W.specialIn K (.builtin "object.__class__") "__get__" = some (some (.builtin "getset_descriptor.__get__")))
    (htk : PySem.W.takesIn K (.builtin "object.__class__") = some true)
    (hm : PySem.W.mroIn K C (.type "object") = some true)
    (kTC : PySem.W.kitOne K (.type "tuple") (.ref C) = some false)
    (kCC : PySem.W.kitOne K (.ref C) (.ref C) = some true)
    (sf : PySem.W.selfFirst K C = true)
    (pgT : PySem.W.plainGet K CT Str.empty = true)
    (hdT : PySem.W.hasDictIn K CT = true)
    (poT : PySem.W.plainOver K CT = true)
    (saT : PySem.W.findIn K (.ref CT) "__setattr__" = some (some (.builtin "object.__setattr__")))
    (mkT : PySem.W.makesIn K CT = true)
    (kcT : PySem.W.keepIn K (.ref CT) = true)
    (nTT : PySem.W.findIn K (.ref CT) "tips" = some none)
    (haT : PySem.W.findIn K (.ref CT) "__class__" = some (some (.builtin "object.__class__")))
    (hmT : PySem.W.mroIn K CT (.type "object") = some true)
    (kLT : PySem.W.kitOne K (.type "list") (.ref CT) = some false)
    (kTT : PySem.W.kitOne K (.ref CT) (.ref CT) = some true)
    (z_isinstance : PySem.W.nsIn K mainGlobals "isinstance" = some none)
    (z_len : PySem.W.nsIn K mainGlobals "len" = some none)
    (z_int : PySem.W.nsIn K mainGlobals "int" = some none)
    (z_bool : PySem.W.nsIn K mainGlobals "bool" = some none)
    (z_tuple : PySem.W.nsIn K mainGlobals "tuple" = some none)
    (z_range : PySem.W.nsIn K mainGlobals "range" = some none)
    (z_max : PySem.W.nsIn K mainGlobals "max" = some none)
    (z_min : PySem.W.nsIn K mainGlobals "min" = some none)
    (z_list : PySem.W.nsIn K mainGlobals "list" = some none)
    (z_all : PySem.W.nsIn K mainGlobals "all" = some none)
    (z_repr : PySem.W.nsIn K mainGlobals "repr" = some none)
    (z_super : PySem.W.nsIn K mainGlobals "super" = some none)
    (z_sum : PySem.W.nsIn K mainGlobals "sum" = some none)
    (z_zip : PySem.W.nsIn K mainGlobals "zip" = some none)
    (z_enumerate : PySem.W.nsIn K mainGlobals "enumerate" = some none)
    (z_abs : PySem.W.nsIn K mainGlobals "abs" = some none)
    (kNC : PySem.W.kitOne K (.type "NoneType") (.ref C) = some false)
    (kBC : PySem.W.kitOne K (.type "bool") (.ref C) = some false)
    (kIC : PySem.W.kitOne K (.type "int") (.ref C) = some false)
    (kSC : PySem.W.kitOne K (.type "str") (.ref C) = some false)
    (kLC : PySem.W.kitOne K (.type "list") (.ref C) = some false)
    (aCF : PySem.W.nsIn K mainGlobals "FillError" = some (some (.ref CF)))
    (tpI : PySem.W.nsIn K cStatics "thirdparty.any" = some none)
    (tsI : (l.prog.main.scope.names.lookup ("super" : Str)).isSome = false)
    (aCIv : PySem.W.nsIn K mainGlobals "InvalidValues" = some (some (.ref CIv)))
    (lCIv : K.lookup CIv = some (PySem.excClassObj nmIv qnIv CIv NIv bsIv bmIv true snIv subIv abIv colIv ddIv e0Iv e1Iv e2Iv e3Iv e5Iv "ValueError.__new__"))
    (rvIv : PySem.HandSPX.refsVE bmIv = true)
    (saIv : PySem.W.findIn K (.ref CIv) "__setattr__" = some (some (.builtin "object.__setattr__")))
    (gaIv : PySem.W.findIn K (.ref CIv) "__getattribute__" = some (some (.builtin "BaseException.__getattribute__")))
    (ggIv : PySem.W.findIn K (.ref CIv) "__getattr__" = some none)
    (noIv : PySem.W.findIn K (.ref CIv) (Str.ofString "number") = some none)
    (inIv : PySem.W.findIn K (.ref CIv) "__init__" = some (some (.ref gIv)))
    (tyIv : PySem.W.typeIn K (.ref gIv) = some (.type "function"))
    (kpIv : PySem.W.keepIn K (.ref CIv) = true)
    (exIv : PySem.W.subIn K (.ref CIv) (.type "BaseException") = some true)
    (tcIv : PySem.W.typeIn K (.ref CIv) = some (.type "type"))
    (hdIv : PySem.W.hasDictIn K CIv = true)
    (suIv : PySem.W.ks_superIn K CIv CIv "__init__" = some (some (.builtin "ValueError.__init__")))
    (veIv : PySem.W.subIn K (.ref CIv) (.type "ValueError") = some true)
    (mrIv : PySem.W.mroIn K CIv (.ref CIv) = some true)
    (lgIv : K.lookup gIv = some ⟨ocgIv, odgIv, .func (PySem.W.ksFn "__init__" quIv (FoX_number.xA p1Iv p2Iv) (FoX_number.xB msIv r1Iv r2Iv r3Iv r4Iv r5Iv r6Iv q1Iv q2Iv q3Iv q4Iv jIv) FoX_number.xS .none kVgIv dcgIv pmgIv angIv (.ref cdaIv) ctgIv ccIv), slgIv⟩)
    (cgIv : PySem.W.codeIn K (.ref cdaIv) quIv = true)
    (lcIv : K.lookup cdaIv = some ⟨cclIv, cddIv, .fields vsIv, ccsIv⟩)
    (vfIv : vsIv[2]? = some (.str fiIv tfIv))
    (flIv : ((l.prog.main.file : Str) == fiIv) = true)
    (lnIv : (r3Iv.endLine == r5Iv.line) = true)
    (leIv : K.lookup ccIv = some ⟨clIv, cldIv, .cell (some (.ref CIv)), cslIv⟩)
    (caIv : PySem.W.findIn K (.ref CIv) "__class__" = some (some (.builtin "object.__class__")))
    (moIv : PySem.W.mroIn K CIv (.type "object") = some true)
    (emIv : PySem.W.exmOne K (.ref CIv) (.ref CF) = some true)
    (ksIv : PySem.W.kitOne K (.ref CIv) (.ref CIv) = some true)
    (aCIp : PySem.W.nsIn K mainGlobals "InvalidPoint" = some (some (.ref CIp)))
    (lCIp : K.lookup CIp = some (PySem.excClassObj nmIp qnIp CIp NIp bsIp bmIp true snIp subIp abIp colIp ddIp e0Ip e1Ip e2Ip e3Ip e5Ip "ValueError.__new__"))
    (rvIp : PySem.HandSPX.refsVE bmIp = true)
    (saIp : PySem.W.findIn K (.ref CIp) "__setattr__" = some (some (.builtin "object.__setattr__")))
    (gaIp : PySem.W.findIn K (.ref CIp) "__getattribute__" = some (some (.builtin "BaseException.__getattribute__")))
    (ggIp : PySem.W.findIn K (.ref CIp) "__getattr__" = some none)
    (noIp : PySem.W.findIn K (.ref CIp) (Str.ofString "thing") = some none)
    (inIp : PySem.W.findIn K (.ref CIp) "__init__" = some (some (.ref gIp)))
    (tyIp : PySem.W.typeIn K (.ref gIp) = some (.type "function"))
    (kpIp : PySem.W.keepIn K (.ref CIp) = true)
    (exIp : PySem.W.subIn K (.ref CIp) (.type "BaseException") = some true)
    (tcIp : PySem.W.typeIn K (.ref CIp) = some (.type "type"))
    (hdIp : PySem.W.hasDictIn K CIp = true)
    (suIp : PySem.W.ks_superIn K CIp CIp "__init__" = some (some (.builtin "ValueError.__init__")))
    (veIp : PySem.W.subIn K (.ref CIp) (.type "ValueError") = some true)
    (mrIp : PySem.W.mroIn K CIp (.ref CIp) = some true)
    (lgIp : K.lookup gIp = some ⟨ocgIp, odgIp, .func (PySem.W.ksFn "__init__" quIp (FoX_thing.xA p1Ip p2Ip) (FoX_thing.xB msIp r1Ip r2Ip r3Ip r4Ip r5Ip r6Ip q1Ip q2Ip q3Ip q4Ip jIp) FoX_thing.xS .none kVgIp dcgIp pmgIp angIp (.ref cdaIp) ctgIp ccIp), slgIp⟩)
    (cgIp : PySem.W.codeIn K (.ref cdaIp) quIp = true)
    (lcIp : K.lookup cdaIp = some ⟨cclIp, cddIp, .fields vsIp, ccsIp⟩)
    (vfIp : vsIp[2]? = some (.str fiIp tfIp))
    (flIp : ((l.prog.main.file : Str) == fiIp) = true)
    (lnIp : (r3Ip.endLine == r5Ip.line) = true)
    (leIp : K.lookup ccIp = some ⟨clIp, cldIp, .cell (some (.ref CIp)), cslIp⟩)
    (caIp : PySem.W.findIn K (.ref CIp) "__class__" = some (some (.builtin "object.__class__")))
    (moIp : PySem.W.mroIn K CIp (.type "object") = some true)
    (emIp : PySem.W.exmOne K (.ref CIp) (.ref CF) = some true)
    (ksIp : PySem.W.kitOne K (.ref CIp) (.ref CIp) = some true)
    (kVI : PySem.W.kitOne K (.ref CIv) (.ref CIp) = some false) :
    ∃ fd : FuncData, (∀ (s : Shared) (v : Value), BindsTo s fd ⟨[v], []⟩ [("script", v)]) ∧ ∀ base : Heap, K.In base → base.Ns mainGlobals mg → FnG l.prog w K mg base CX0 11 fa fd ["script"] (spLaw K) := by
  have e := hfa.symm.trans (PySem.W.mg_of X G aZ)
  cases e
  have FW := fun_mk (st := sWhole) lW cW kW
  have bW := FW.binds (ps := ["value"]) fun _ _ _ _ _ _ us hl => match us, hl with | [_], _ => rfl
  have FI := fun_mk (st := sInit) lI cI kI
  have bI := FI.binds (ps := ["self", "x", "y"]) fun _ _ _ _ _ _ us hl => match us, hl with | [_, _, _], _ => rfl
  have FP := fun_mk (st := sIsPoint) lP cP kP
  have bP := FP.binds (ps := ["thing"]) fun _ _ _ _ _ _ us hl => match us, hl with | [_], _ => rfl
  have FA := fun_mk (st := sAsPoint) lA cA kA
  have bA := FA.binds (ps := ["thing"]) fun _ _ _ _ _ _ us hl => match us, hl with | [_], _ => rfl
  have FO := fun_mk (st := sOperand) lO cO kO
  have bO := FO.binds (ps := ["thing"]) fun _ _ _ _ _ _ us hl => match us, hl with | [_], _ => rfl
  have FS := fun_mk (st := sSide) lS cS kS
  have bS := FS.binds (ps := ["a", "b", "point"]) fun _ _ _ _ _ _ us hl => match us, hl with | [_, _, _], _ => rfl
  have FTI := fun_mk (st := sTInit) lTI cTI kTI
  have bTI := FTI.binds (ps := ["self", "a", "b", "c"]) fun _ _ _ _ _ _ us hl => match us, hl with | [_, _, _, _], _ => rfl
  have FCo := fun_mk (st := sCorners) lCo cCo kCo
  have bCo := FCo.binds (ps := ["self"]) fun _ _ _ _ _ _ us hl => match us, hl with | [_], _ => rfl
  have FEd := fun_mk (st := sEdges) lEd cEd kEd
  have bEd := FEd.binds (ps := ["self"]) fun _ _ _ _ _ _ us hl => match us, hl with | [_], _ => rfl
  have FAr := fun_mk (st := sArea) lAr cAr kAr
  have bAr := FAr.binds (ps := ["self"]) fun _ _ _ _ _ _ us hl => match us, hl with | [_], _ => rfl
  have FEq := fun_mk (st := sEq) lEq cEq kEq
  have bEq := FEq.binds (ps := ["self", "other"]) fun _ _ _ _ _ _ us hl => match us, hl with | [_, _], _ => rfl
  have FAd := fun_mk (st := sAdd) lAd cAd kAd
  have bAd := FAd.binds (ps := ["self", "other"]) fun _ _ _ _ _ _ us hl => match us, hl with | [_, _], _ => rfl
  have FG := fun_mk (st := sGcd) lG cG kG
  have bG := FG.binds (ps := ["one", "other"]) fun _ _ _ _ _ _ us hl => match us, hl with | [_, _], _ => rfl
  have FWe := fun_mk (st := sWei) lWe cWe kWe
  have bWe := FWe.binds (ps := ["triangle", "point"]) fun _ _ _ _ _ _ us hl => match us, hl with | [_, _], _ => rfl
  have FCk := fun_mk (st := sChk) lCk cCk kCk
  have bCk := FCk.binds (ps := ["values"]) fun _ _ _ _ _ _ us hl => match us, hl with | [_], _ => rfl
  have FVa := fun_mk (st := sVal) lVa cVa kVa
  have bVa := FVa.binds (ps := ["triangle", "values", "point"]) fun _ _ _ _ _ _ us hl => match us, hl with | [_, _, _], _ => rfl
  have FH := fun_mk (st := sHand) lH cH kH
  have bH := FH.binds (ps := ["script", "k"]) fun _ _ _ _ _ _ us hl => match us, hl with | [_, _], _ => rfl
  have FD := fun_mk (st := sDraw) lD cD kD
  have bD := FD.binds (ps := ["pool", "many"]) fun _ _ _ _ _ _ us hl => match us, hl with | [_, _], _ => rfl
  have FPr := fun_mk (st := sPair) lPr cPr kPr
  have bPr := FPr.binds (ps := ["pool", "size_here"]) fun _ _ _ _ _ _ us hl => match us, hl with | [_, _], _ => rfl
  have FLs := fun_mk (st := sLSide) lLs cLs kLs
  have bLs := FLs.binds (ps := ["a", "b", "p"]) fun _ _ _ _ _ _ us hl => match us, hl with | [_, _, _], _ => rfl
  have FCn := fun_mk (st := sCorn) lCn cCn kCn
  have bCn := FCn.binds (ps := ["pool", "size_here"]) fun _ _ _ _ _ _ us hl => match us, hl with | [_, _], _ => rfl
  have FLv := fun_mk (st := sLVal) lLv cLv kLv
  have bLv := FLv.binds (ps := ["pool"]) fun _ _ _ _ _ _ us hl => match us, hl with | [_], _ => rfl
  have FSa := fun_mk (st := sSame) lSa cSa kSa
  have bSa := FSa.binds (ps := ["found", "top", "bottom"]) fun _ _ _ _ _ _ us hl => match us, hl with | [_, _, _], _ => rfl
  have FR := fun_mk (st := sRefused) lR cR kR
  have bR := FR.binds (ps := ["triangle", "values", "point"]) fun _ _ _ _ _ _ us hl => match us, hl with | [_, _, _], _ => rfl
  have FZ := fun_mk (st := sLaw) lZ cZ kZ
  have T : Txt K mg C := ⟨⟨pg, hd, po, sa⟩, nX, nY, PySem.W.mg_of X G aC, PySem.W.mg_none_of X G z_isinstance, PySem.W.mg_none_of X G z_len, PySem.W.mg_none_of X G z_int, PySem.W.mg_none_of X G z_bool, PySem.W.mg_none_of X G z_tuple, ha, hn, htk, hm, kTC, kCC⟩
  have TLm : TxtL mg := ⟨PySem.W.mg_none_of X G z_int, PySem.W.mg_none_of X G z_range, PySem.W.mg_none_of X G z_max, PySem.W.mg_none_of X G z_min, PySem.W.mg_none_of X G z_len⟩
  have Df : Defs K mg C fW fI fP fA fO _ _ _ _ _ := ⟨T, FW, bW, PySem.W.mg_of X G aW, ⟨mk, aI, iI, kc⟩, FI, bI, FP, bP, PySem.W.mg_of X G aP, FA, bA, PySem.W.mg_of X G aA, FO, bO, PySem.W.mg_of X G aO⟩
  have TT : TxtT K mg CT := ⟨⟨pgT, hdT, poT, saT⟩, nTT, PySem.W.mg_of X G aCT, PySem.W.mg_none_of X G z_list, PySem.W.mg_none_of X G z_all, haT, hmT, kLT, kTT⟩
  have Td : TDefs K mg C CT fS fTI fCo fEd fAr fEq fAd pAr _ _ _ _ _ _ _ := ⟨TT, FS, bS, PySem.W.mg_of X G aS, ⟨mkT, aTI, iTI, kcT⟩, FTI, bTI, FCo, bCo, ⟨aCo, iCo, kCo⟩, FEd, bEd, ⟨aEd, iEd, kEd⟩, FAr, bAr, ⟨aAr, gAr, tAr, ⟨_, rAr⟩⟩, FEq, bEq, aEq, iEq, FAd, bAd, ⟨sf, aAd, iAd⟩⟩
  have xtIv : FoX_number.XTxt l.prog K mg CIv gIv := ⟨⟨_, _, _, _, _, _, _, _, _, _, _, _, _, _, _, lCIv, rvIv⟩, saIv, gaIv, ggIv, noIv, inIv, tyIv, kpIv, exIv, tcIv, hdIv, suIv, tpI, PySem.W.mg_none_of X G z_super, veIv, mrIv, tsI, ⟨quIv, msIv, _, _, _, _, _, _, ccIv, cdaIv, _, _, p1Iv, p2Iv, r1Iv, r2Iv, r3Iv, r4Iv, r5Iv, r6Iv, q1Iv, q2Iv, q3Iv, q4Iv, jIv, _, _, _, _, vsIv, _, _, fiIv, tfIv, lgIv, cgIv, lcIv, vfIv, flIv, lnIv, leIv⟩⟩
  have xtIp : FoX_thing.XTxt l.prog K mg CIp gIp := ⟨⟨_, _, _, _, _, _, _, _, _, _, _, _, _, _, _, lCIp, rvIp⟩, saIp, gaIp, ggIp, noIp, inIp, tyIp, kpIp, exIp, tcIp, hdIp, suIp, tpI, PySem.W.mg_none_of X G z_super, veIp, mrIp, tsI, ⟨quIp, msIp, _, _, _, _, _, _, ccIp, cdaIp, _, _, p1Ip, p2Ip, r1Ip, r2Ip, r3Ip, r4Ip, r5Ip, r6Ip, q1Ip, q2Ip, q3Ip, q4Ip, jIp, _, _, _, _, vsIp, _, _, fiIp, tfIp, lgIp, cgIp, lcIp, vfIp, flIp, lnIp, leIp⟩⟩
  have TXx : TxtX l.prog K mg C CIp gIp := ⟨kNC, kBC, kIC, kSC, kLC, xtIp, PySem.W.mg_of X G aCIp⟩
  have Rt : RTxt l.prog K mg C CIp gIp CIv gIv CF := ⟨TXx, xtIv, PySem.W.mg_of X G aCIv, PySem.W.mg_of X G aCF, emIp, emIv, ⟨gaIp, ggIp, exIp, hdIp, caIp, hn, htk, moIp⟩, ⟨gaIv, ggIv, exIv, hdIv, caIv, hn, htk, moIv⟩, ksIp, kVI, ksIv, PySem.W.mg_none_of X G z_repr⟩
  have Vd : VDefs K mg fG fWe fCk fVa _ _ _ _ := ⟨⟨PySem.W.mg_none_of X G z_sum, PySem.W.mg_none_of X G z_zip, PySem.W.mg_none_of X G z_enumerate, PySem.W.mg_none_of X G z_list, PySem.W.mg_none_of X G z_abs⟩, FG, bG, PySem.W.mg_of X G aG, FWe, bWe, PySem.W.mg_of X G aWe, FCk, bCk, PySem.W.mg_of X G aCk, FVa, bVa, PySem.W.mg_of X G aVa⟩
  have Lf : LDefs l.prog K mg C CIp gIp CIv gIv CF fH fD fPr fLs fCn fLv fSa fR _ _ _ _ _ _ _ _ := ⟨TLm, Rt, FH, bH, PySem.W.mg_of X G aH, FD, bD, PySem.W.mg_of X G aD, FPr, bPr, PySem.W.mg_of X G aPr, FLs, bLs, PySem.W.mg_of X G aLs, FCn, bCn, PySem.W.mg_of X G aCn, FLv, bLv, PySem.W.mg_of X G aLv, FSa, bSa, PySem.W.mg_of X G aSa, FR, bR, PySem.W.mg_of X G aR⟩
  exact ⟨PySem.W.fnOf "law" "law" (defArgs sLaw) (defBody sLaw) (defScope sLaw) .none kVZ dcZ pmZ anZ cdZ ctZ, fun s v => .of_eq rfl, fun base _ _ => ok_law FZ Df Td Vd Lf⟩
theorem walk {l : PySem.W.OpenLaw} {q : Program} {loose : List Str} {XP : (Str → Option Value) → Heap → Prop} {YP : World → Heap → Prop} {d : DefRec} {K : Params → PySem.W.Frag} (hn : l.most = some 63) (hdf : d.params.defaults = [])
    (hY : ∀ (w : World) (h : Heap), YP w h → (K w.params).In h)
    (F : ∀ (w : World) (mg : Str → Option Value) (fa : Addr) (h : Heap), (K w.params).In h → h.Ns mainGlobals mg → mg d.name = some (.ref fa) →
      ∃ fd : FuncData, (∀ (s : Shared) (u : Value), BindsTo s fd ⟨[u], []⟩ [("script", u)]) ∧ ∀ base : Heap, (K w.params).In base → base.Ns mainGlobals mg → FnG l.prog w (K w.params) mg base CX0 11 fa fd ["script"] (spLaw (K w.params))) :
    PySem.W.WalkO q loose XP YP l.row.toRowW d [] (fun f vs => PySem.call f vs) :=
  L2.walk_ofG (n := 63) (k := 11) (x := "script") (sp := fun w => spLaw (K w.params)) hn (by decide) hdf ⟨rfl, by decide, by decide⟩ hY F (fun _ _ a ns hl hS => ⟨a, ns, rfl, hS, hl, fun _ => rfl⟩)
end Fo

open PySem PySem.W PyProof.Rows in
set_option maxRecDepth 100000 in
set_option maxHeartbeats 0 in
theorem PySem.Challenge.cw_filledonce_k72_values_holds : PySem.Challenge.rw_filledonce_k72_values.Holds := by
  w_on; o_law; k_head; (case hw => w_witness2)
  k_fill
  refine Fo.walk (l := PySem.Challenge.rw_filledonce_k72_values) rfl rfl (fun w h Y => PySem.W.kIn_of Y) ?F
  case F =>
    intro w mg fa h KX G hmg
    refine' Fo.all_mk KX G hmg ?aC ?aCT ?aW ?lW ?cW ?kW ?aI ?iI ?lI ?cI ?kI ?aP ?lP ?cP ?kP ?aA ?lA ?cA ?kA ?aO ?lO ?cO ?kO ?aS ?lS ?cS ?kS ?aTI ?iTI ?lTI ?cTI ?kTI ?aCo ?iCo ?lCo ?cCo ?kCo ?aEd ?iEd ?lEd ?cEd ?kEd ?aAr ?gAr ?tAr ?rAr ?lAr ?cAr ?kAr ?aEq ?iEq ?lEq ?cEq ?kEq ?aAd ?iAd ?lAd ?cAd ?kAd ?aG ?lG ?cG ?kG ?aWe ?lWe ?cWe ?kWe ?aCk ?lCk ?cCk ?kCk ?aVa ?lVa ?cVa ?kVa ?aH ?lH ?cH ?kH ?aD ?lD ?cD ?kD ?aPr ?lPr ?cPr ?kPr ?aLs ?lLs ?cLs ?kLs ?aCn ?lCn ?cCn ?kCn ?aLv ?lLv ?cLv ?kLv ?aSa ?lSa ?cSa ?kSa ?aR ?lR ?cR ?kR ?aZ ?lZ ?cZ ?kZ ?pg ?hd ?po ?sa ?mk ?kc ?nX ?nY ?ha ?hn ?htk ?hm ?kTC ?kCC ?sf ?pgT ?hdT ?poT ?saT ?mkT ?kcT ?nTT ?haT ?hmT ?kLT ?kTT ?z_isinstance ?z_len ?z_int ?z_bool ?z_tuple ?z_range ?z_max ?z_min ?z_list ?z_all ?z_repr ?z_super ?z_sum ?z_zip ?z_enumerate ?z_abs ?kNC ?kBC ?kIC ?kSC ?kLC ?aCF ?tpI ?tsI ?aCIv ?lCIv ?rvIv ?saIv ?gaIv ?ggIv ?noIv ?inIv ?tyIv ?kpIv ?exIv ?tcIv ?hdIv ?suIv ?veIv ?mrIv ?lgIv ?cgIv ?lcIv ?vfIv ?flIv ?lnIv ?leIv ?caIv ?moIv ?emIv ?ksIv ?aCIp ?lCIp ?rvIp ?saIp ?gaIp ?ggIp ?noIp ?inIp ?tyIp ?kpIp ?exIp ?tcIp ?hdIp ?suIp ?veIp ?mrIp ?lgIp ?cgIp ?lcIp ?vfIp ?flIp ?lnIp ?leIp ?caIp ?moIp ?emIp ?ksIp ?kVI
    (case aC => first | k_is | rfl | decide +kernel)
    (case aCT => first | k_is | rfl | decide +kernel)
    (case aW => first | k_is | rfl | decide +kernel)
    (case lW => first | k_is | rfl | decide +kernel)
    (case cW => first | k_is | rfl | decide +kernel)
    (case kW => first | k_is | rfl | decide +kernel)
    (case aI => first | k_is | rfl | decide +kernel)
    (case iI => first | k_is | rfl | decide +kernel)
    (case lI => first | k_is | rfl | decide +kernel)
    (case cI => first | k_is | rfl | decide +kernel)
    (case kI => first | k_is | rfl | decide +kernel)
    (case aP => first | k_is | rfl | decide +kernel)
    (case lP => first | k_is | rfl | decide +kernel)
    (case cP => first | k_is | rfl | decide +kernel)
    (case kP => first | k_is | rfl | decide +kernel)
    (case aA => first | k_is | rfl | decide +kernel)
    (case lA => first | k_is | rfl | decide +kernel)
    (case cA => first | k_is | rfl | decide +kernel)
    (case kA => first | k_is | rfl | decide +kernel)
    (case aO => first | k_is | rfl | decide +kernel)
    (case lO => first | k_is | rfl | decide +kernel)
    (case cO => first | k_is | rfl | decide +kernel)
    (case kO => first | k_is | rfl | decide +kernel)
    (case aS => first | k_is | rfl | decide +kernel)
    (case lS => first | k_is | rfl | decide +kernel)
    (case cS => first | k_is | rfl | decide +kernel)
    (case kS => first | k_is | rfl | decide +kernel)
    (case aTI => first | k_is | rfl | decide +kernel)
    (case iTI => first | k_is | rfl | decide +kernel)
    (case lTI => first | k_is | rfl | decide +kernel)
    (case cTI => first | k_is | rfl | decide +kernel)
    (case kTI => first | k_is | rfl | decide +kernel)
    (case aCo => first | k_is | rfl | decide +kernel)
    (case iCo => first | k_is | rfl | decide +kernel)
    (case lCo => first | k_is | rfl | decide +kernel)
    (case cCo => first | k_is | rfl | decide +kernel)
    (case kCo => first | k_is | rfl | decide +kernel)
    (case aEd => first | k_is | rfl | decide +kernel)
    (case iEd => first | k_is | rfl | decide +kernel)
    (case lEd => first | k_is | rfl | decide +kernel)
    (case cEd => first | k_is | rfl | decide +kernel)
    (case kEd => first | k_is | rfl | decide +kernel)
    (case aAr => first | k_is | rfl | decide +kernel)
    (case gAr => first | k_is | rfl | decide +kernel)
    (case tAr => first | k_is | rfl | decide +kernel)
    (case rAr => first | k_is | rfl | decide +kernel)
    (case lAr => first | k_is | rfl | decide +kernel)
    (case cAr => first | k_is | rfl | decide +kernel)
    (case kAr => first | k_is | rfl | decide +kernel)
    (case aEq => first | k_is | rfl | decide +kernel)
    (case iEq => first | k_is | rfl | decide +kernel)
    (case lEq => first | k_is | rfl | decide +kernel)
    (case cEq => first | k_is | rfl | decide +kernel)
    (case kEq => first | k_is | rfl | decide +kernel)
    (case aAd => first | k_is | rfl | decide +kernel)
    (case iAd => first | k_is | rfl | decide +kernel)
    (case lAd => first | k_is | rfl | decide +kernel)
    (case cAd => first | k_is | rfl | decide +kernel)
    (case kAd => first | k_is | rfl | decide +kernel)
    (case aG => first | k_is | rfl | decide +kernel)
    (case lG => first | k_is | rfl | decide +kernel)
    (case cG => first | k_is | rfl | decide +kernel)
    (case kG => first | k_is | rfl | decide +kernel)
    (case aWe => first | k_is | rfl | decide +kernel)
    (case lWe => first | k_is | rfl | decide +kernel)
    (case cWe => first | k_is | rfl | decide +kernel)
    (case kWe => first | k_is | rfl | decide +kernel)
    (case aCk => first | k_is | rfl | decide +kernel)
    (case lCk => first | k_is | rfl | decide +kernel)
    (case cCk => first | k_is | rfl | decide +kernel)
    (case kCk => first | k_is | rfl | decide +kernel)
    (case aVa => first | k_is | rfl | decide +kernel)
    (case lVa => first | k_is | rfl | decide +kernel)
    (case cVa => first | k_is | rfl | decide +kernel)
    (case kVa => first | k_is | rfl | decide +kernel)
    (case aH => first | k_is | rfl | decide +kernel)
    (case lH => first | k_is | rfl | decide +kernel)
    (case cH => first | k_is | rfl | decide +kernel)
    (case kH => first | k_is | rfl | decide +kernel)
    (case aD => first | k_is | rfl | decide +kernel)
    (case lD => first | k_is | rfl | decide +kernel)
    (case cD => first | k_is | rfl | decide +kernel)
    (case kD => first | k_is | rfl | decide +kernel)
    (case aPr => first | k_is | rfl | decide +kernel)
    (case lPr => first | k_is | rfl | decide +kernel)
    (case cPr => first | k_is | rfl | decide +kernel)
    (case kPr => first | k_is | rfl | decide +kernel)
    (case aLs => first | k_is | rfl | decide +kernel)
    (case lLs => first | k_is | rfl | decide +kernel)
    (case cLs => first | k_is | rfl | decide +kernel)
    (case kLs => first | k_is | rfl | decide +kernel)
    (case aCn => first | k_is | rfl | decide +kernel)
    (case lCn => first | k_is | rfl | decide +kernel)
    (case cCn => first | k_is | rfl | decide +kernel)
    (case kCn => first | k_is | rfl | decide +kernel)
    (case aLv => first | k_is | rfl | decide +kernel)
    (case lLv => first | k_is | rfl | decide +kernel)
    (case cLv => first | k_is | rfl | decide +kernel)
    (case kLv => first | k_is | rfl | decide +kernel)
    (case aSa => first | k_is | rfl | decide +kernel)
    (case lSa => first | k_is | rfl | decide +kernel)
    (case cSa => first | k_is | rfl | decide +kernel)
    (case kSa => first | k_is | rfl | decide +kernel)
    (case aR => first | k_is | rfl | decide +kernel)
    (case lR => first | k_is | rfl | decide +kernel)
    (case cR => first | k_is | rfl | decide +kernel)
    (case kR => first | k_is | rfl | decide +kernel)
    (case aZ => first | k_is | rfl | decide +kernel)
    (case lZ => first | k_is | rfl | decide +kernel)
    (case cZ => first | k_is | rfl | decide +kernel)
    (case kZ => first | k_is | rfl | decide +kernel)
    (case pg => first | k_is | rfl | decide +kernel)
    (case hd => first | k_is | rfl | decide +kernel)
    (case po => first | k_is | rfl | decide +kernel)
    (case sa => first | k_is | rfl | decide +kernel)
    (case mk => first | k_is | rfl | decide +kernel)
    (case kc => first | k_is | rfl | decide +kernel)
    (case nX => first | k_is | rfl | decide +kernel)
    (case nY => first | k_is | rfl | decide +kernel)
    (case ha => first | k_is | rfl | decide +kernel)
    (case hn => first | k_is | rfl | decide +kernel)
    (case htk => first | k_is | rfl | decide +kernel)
    (case hm => first | k_is | rfl | decide +kernel)
    (case kTC => first | k_is | rfl | decide +kernel)
    (case kCC => first | k_is | rfl | decide +kernel)
    (case sf => first | k_is | rfl | decide +kernel)
    (case pgT => first | k_is | rfl | decide +kernel)
    (case hdT => first | k_is | rfl | decide +kernel)
    (case poT => first | k_is | rfl | decide +kernel)
    (case saT => first | k_is | rfl | decide +kernel)
    (case mkT => first | k_is | rfl | decide +kernel)
    (case kcT => first | k_is | rfl | decide +kernel)
    (case nTT => first | k_is | rfl | decide +kernel)
    (case haT => first | k_is | rfl | decide +kernel)
    (case hmT => first | k_is | rfl | decide +kernel)
    (case kLT => first | k_is | rfl | decide +kernel)
    (case kTT => first | k_is | rfl | decide +kernel)
    (case z_isinstance => first | k_is | rfl | decide +kernel)
    (case z_len => first | k_is | rfl | decide +kernel)
    (case z_int => first | k_is | rfl | decide +kernel)
    (case z_bool => first | k_is | rfl | decide +kernel)
    (case z_tuple => first | k_is | rfl | decide +kernel)
    (case z_range => first | k_is | rfl | decide +kernel)
    (case z_max => first | k_is | rfl | decide +kernel)
    (case z_min => first | k_is | rfl | decide +kernel)
    (case z_list => first | k_is | rfl | decide +kernel)
    (case z_all => first | k_is | rfl | decide +kernel)
    (case z_repr => first | k_is | rfl | decide +kernel)
    (case z_super => first | k_is | rfl | decide +kernel)
    (case z_sum => first | k_is | rfl | decide +kernel)
    (case z_zip => first | k_is | rfl | decide +kernel)
    (case z_enumerate => first | k_is | rfl | decide +kernel)
    (case z_abs => first | k_is | rfl | decide +kernel)
    (case kNC => first | k_is | rfl | decide +kernel)
    (case kBC => first | k_is | rfl | decide +kernel)
    (case kIC => first | k_is | rfl | decide +kernel)
    (case kSC => first | k_is | rfl | decide +kernel)
    (case kLC => first | k_is | rfl | decide +kernel)
    (case aCF => first | k_is | rfl | decide +kernel)
    (case tpI => first | k_is | rfl | decide +kernel)
    (case tsI => first | k_is | rfl | decide +kernel)
    (case aCIv => first | k_is | rfl | decide +kernel)
    (case lCIv => first | k_is | rfl | decide +kernel)
    (case rvIv => first | k_is | rfl | decide +kernel)
    (case saIv => first | k_is | rfl | decide +kernel)
    (case gaIv => first | k_is | rfl | decide +kernel)
    (case ggIv => first | k_is | rfl | decide +kernel)
    (case noIv => first | k_is | rfl | decide +kernel)
    (case inIv => first | k_is | rfl | decide +kernel)
    (case tyIv => first | k_is | rfl | decide +kernel)
    (case kpIv => first | k_is | rfl | decide +kernel)
    (case exIv => first | k_is | rfl | decide +kernel)
    (case tcIv => first | k_is | rfl | decide +kernel)
    (case hdIv => first | k_is | rfl | decide +kernel)
    (case suIv => first | k_is | rfl | decide +kernel)
    (case veIv => first | k_is | rfl | decide +kernel)
    (case mrIv => first | k_is | rfl | decide +kernel)
    (case lgIv => first | k_is | rfl | decide +kernel)
    (case cgIv => first | k_is | rfl | decide +kernel)
    (case lcIv => first | k_is | rfl | decide +kernel)
    (case vfIv => first | k_is | rfl | decide +kernel)
    (case flIv => first | k_is | rfl | decide +kernel)
    (case lnIv => first | k_is | rfl | decide +kernel)
    (case leIv => first | k_is | rfl | decide +kernel)
    (case caIv => first | k_is | rfl | decide +kernel)
    (case moIv => first | k_is | rfl | decide +kernel)
    (case emIv => first | k_is | rfl | decide +kernel)
    (case ksIv => first | k_is | rfl | decide +kernel)
    (case aCIp => first | k_is | rfl | decide +kernel)
    (case lCIp => first | k_is | rfl | decide +kernel)
    (case rvIp => first | k_is | rfl | decide +kernel)
    (case saIp => first | k_is | rfl | decide +kernel)
    (case gaIp => first | k_is | rfl | decide +kernel)
    (case ggIp => first | k_is | rfl | decide +kernel)
    (case noIp => first | k_is | rfl | decide +kernel)
    (case inIp => first | k_is | rfl | decide +kernel)
    (case tyIp => first | k_is | rfl | decide +kernel)
    (case kpIp => first | k_is | rfl | decide +kernel)
    (case exIp => first | k_is | rfl | decide +kernel)
    (case tcIp => first | k_is | rfl | decide +kernel)
    (case hdIp => first | k_is | rfl | decide +kernel)
    (case suIp => first | k_is | rfl | decide +kernel)
    (case veIp => first | k_is | rfl | decide +kernel)
    (case mrIp => first | k_is | rfl | decide +kernel)
    (case lgIp => first | k_is | rfl | decide +kernel)
    (case cgIp => first | k_is | rfl | decide +kernel)
    (case lcIp => first | k_is | rfl | decide +kernel)
    (case vfIp => first | k_is | rfl | decide +kernel)
    (case flIp => first | k_is | rfl | decide +kernel)
    (case lnIp => first | k_is | rfl | decide +kernel)
    (case leIp => first | k_is | rfl | decide +kernel)
    (case caIp => first | k_is | rfl | decide +kernel)
    (case moIp => first | k_is | rfl | decide +kernel)
    (case emIp => first | k_is | rfl | decide +kernel)
    (case ksIp => first | k_is | rfl | decide +kernel)
    (case kVI => first | k_is | rfl | decide +kernel)
#print axioms PySem.Challenge.cw_filledonce_k72_values_holds
