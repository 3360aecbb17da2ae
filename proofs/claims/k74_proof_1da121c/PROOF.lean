import PyProof.Rows.All
import Wide.All
import OpenK.AllK
import Wide.FinOn
import HandS.ForMost
import HandS.Wide
import HandS.IsInst
import HandS.Deep
import HandS.Strs
import HandS.ForExc
import PyProof.ReprRoads
import PyProof.CallFns
import KE.KExcIs
import HandS.Exc
import KE.KExcSuper
import HandS.ExcCtx
import HandS.HotCalls
import PyProof.NeKinds
import PyProof.SumWalkG
import PyProof.WalksMore
import PyProof.Rows.SumAny
import KE.GoesMore
import KE.GoesZip
import HandS.Zip
import HandS.OwnEq
import HandS.NoneIn
import HandS.Evl
import HandS.More
import HandS.Style
import HandS.Property
import PySem.Challenge.RW_filledonce_k74_whole_values_even
set_option Elab.async false
set_option linter.all false
set_option maxRecDepth 100000
set_option maxHeartbeats 2000000
/-! own binary operators over the hand layer -/
namespace FoOps
open PySem PySem.W PyProof.Rows
section
variable {prog : Program} {w : World} {A : Around} {E : Value → Shared → Prop} {s : Shared} {K : Frag} {x C L f : Addr} {h₀ : Heap} {m : Str → Option Value} {ox : Obj} {od : Option Obj}
theorem tup_add : fillsNumberSlot (.type "tuple") "add" = pure false := by
  unfold fillsNumberSlot
  simp only [typeLookup_type, builtinLookup_eq_fast]
  kernel_rfl
theorem tup_sub : fillsNumberSlot (.type "tuple") "sub" = pure false := by
  unfold fillsNumberSlot
  simp only [typeLookup_type, builtinLookup_eq_fast]
  kernel_rfl
theorem binop_KT {op : Operator} {b : Value} {T : String} {Q : Value → Shared → Prop} (X : K.In s.heap) (I : InstAt s.heap x ox C od) (hT : s.TypeIs b T)
    (hfl : fillsNumberSlot (.type T) op.info.2 = pure false) (hc : selfFirst K C = true)
    (hs : findIn K (.ref C) (PySem.dunder op.info.2) = some (some (.ref f))) (hf : isFn K (.ref f) = true)
    (h : wpAny (model prog w) A (call (.ref f) [.ref x, b]) (PySem.W.CmpBack Q) E s) : wpAny (model prog w) A (binaryOp op (.ref x) b) Q E s := by
  obtain ⟨cd, hcd, hm⟩ := any_some hc
  obtain ⟨rest, hm⟩ : ∃ rest, cd.mro = .ref C :: rest := by
    cases q : cd.mro with
    | nil => rw [q] at hm; cases hm
    | cons a r => rw [q] at hm; exact ⟨r, by rw [List.head?_cons] at hm; cases (beq_iff_eq.mp hm); rfl⟩
  unfold binaryOp
  refine wpAny_holding (wpAny_bind ?_)
  unfold binaryOp1
  refine wpAny_bind (I.type.here (wpAny_bind (wpAny_typeOf hT (wpAny_bind ((fills_K X hcd hm hs).here ?_)))))
  have e : (Value.ref C == Value.type T) = false := by simp
  simp only [e, Bool.false_eq_true, if_false]
  refine wpAny_bind (wpAny_of_eq hfl ?_)
  simp only [Bool.and_false, Bool.false_eq_true, if_false, Bool.false_and, if_true]
  refine wpAny_bind (wpAny_pure ?_)
  simp only [Bool.false_eq_true, if_false]
  refine wpAny_bind (m := tryMethod (.ref x) _ b) ?_
  unfold tryMethod
  refine wpAny_bind (special_fn X I hs (beq_iff_eq.mp hf) (wpAny_mono h (fun v s' hv => ?_) fun _ _ e => e))
  cases v <;> first | exact hv.elim | exact wpAny_pure (wpAny_pure (wpAny_pure hv))
end
end FoOps

namespace L2
open PySem PySem.Spec PyProof.Rows
/-- an own class whose operator nm is the def at f -/
structure OwnOp (K : PySem.W.Frag) (C : Addr) (op : Operator) (f : Addr) : Prop where
  sf : PySem.W.selfFirst K C = true
  at_ : PySem.W.findIn K (.ref C) (PySem.dunder op.info.2) = some (some (.ref f))
  fn : PySem.W.isFn K (.ref f) = true
/-- a op b, a an instance of the class at C, b one too or a tracked tuple -/
def rOwnOp (C : Addr) (sp : Sp) (E : XK) : R2 := fun x y H Q => ∃ a dx fs, x = .ref a ∧ H a = some (.ins C dx fs) ∧
  ((∃ b dy gs, y = .ref b ∧ H b = some (.ins C dy gs)) ∨ ∃ b xs, y = .ref b ∧ H b = some (.tup xs)) ∧ sp [x, y] H Q E
section
variable {X : Cx} {CX : CXT} {k : Nat} {f C : Addr} {fd : FuncData} {ps : List Str} {sp : Sp} {E : XK}
theorem not_ni {z : V} {v : Value} (r : RelV z v) : v ≠ .notImplemented := by
  intro e
  subst e
  cases z <;> first | (cases r; done) | (obtain ⟨_, r⟩ := r; cases r)
theorem cmpBack_of {Q : Value → Shared → Prop} {v : Value} {s : Shared} (hn : v ≠ .notImplemented) (h : Q v s) : PySem.W.CmpBack Q v s := by
  cases v <;> first | exact h | exact absurd rfl hn
theorem op_own {op : Operator} (O : OwnOp X.K C op f) (hfl : fillsNumberSlot (.type "tuple") op.info.2 = pure false) (F : FnOk X.prog X.w X.K X.mg X.base CX k f fd ps sp) (hr : Room k X.A) (hb : Binds X.K fd ps []) (hx : Passes CX X E) :
    OpR X (binaryOp op) (rOwnOp C sp E) := by
  intro pins s σ H x y v u Q I rx ry h
  obtain ⟨a, dx, fs, rfl, ha, hy, q⟩ := h
  obtain rfl : v = Value.ref a := rx
  obtain ⟨mA, J, _⟩ := ins_get I.hok ha
  obtain ⟨od, J, _⟩ := J.look
  obtain ⟨m, hF⟩ := I.fr
  have run : wpAny (model X.prog X.w) X.A (call (.ref f) [.ref a, u]) (PySem.W.CmpBack (EP X pins σ Q)) X.xe s := by
    refine wpAny_mono (run_fn (us := [.ref a, u]) (vs := [.ref a, y]) F hr hb .nil hx I (.cons rfl (.cons ry .nil)) q) (fun r s' z => ?_) fun _ _ z => z
    obtain ⟨z1, H1, I1, rz, qz⟩ := z
    exact cmpBack_of (not_ni rz) ⟨z1, H1, I1, rz, qz⟩
  rcases hy with ⟨b, dy, gs, rfl, hb'⟩ | ⟨b, xs, rfl, hb'⟩
  · obtain rfl : u = Value.ref b := ry
    obtain ⟨mB, J', _⟩ := ins_get I.hok hb'
    obtain ⟨od', J', _⟩ := J'.look
    exact PySem.W.binop_K hF I.ok.mod.kin J J'.type O.sf O.at_ O.fn run
  · obtain rfl : u = Value.ref b := ry
    obtain ⟨_, _, _, o, h1, h2, _⟩ := (show ObjOk X.prog X.w H s.heap b (.tup xs) from I.hok b _ hb')
    exact FoOps.binop_KT I.kIn J ⟨o, h1, h2⟩ hfl O.sf O.at_ O.fn run
end
end L2
set_option Elab.async false
set_option linter.all false
set_option maxRecDepth 100000
set_option maxHeartbeats 2000000
/-! != by an own __eq__, t.index of data -/
namespace FoOps
open PySem PySem.W PyProof.Rows
theorem slot_ne : Slot "object" "__ne__" "object.__ne__" :=
  .of (owner := "object") (n := "__ne__") (by rw [typeLookup_type, builtinLookup_eq_fast]; kernel_rfl) (by decide +kernel) (by decide +kernel) (by decide +kernel)
    (by first | exact .inl (by decide +kernel) | exact .inr (by decide +kernel)) (by rw [isSubtype_type]; kernel_rfl)
section
variable {prog : Program} {w : World} {A : Around} {E : Value → Shared → Prop} {s : Shared} {K : Frag} {x C f : Addr} {ox : Obj} {od : Option Obj} {b : Value}
theorem ne_entry {Q : Fin → Shared → Prop} (X : K.In s.heap) (I : InstAt s.heap x ox C od) (hu : A.units < cLine) (hs : findIn K (.ref C) "__eq__" = some (some (.ref f))) (hf : isFn K (.ref f) = true)
    (h : wpAny (model prog w) A (call (.ref f) [.ref x, b]) (fun v s' => ∃ k, v = .bool k ∧ Q (.done (.ret (.bool (!k)))) s') E s) :
    wpAny (model prog w) A (Builtin.«object.__ne__» ⟨[.ref x, b], []⟩) Q E s := by
  unfold Builtin.«object.__ne__»
  repeat (first
    | with_reducible refine wpAny_cRoomFor hu ?_
    | (refine wpAny_bind (m := callSpecialIfBound? (.ref x) (Str.ofString "__eq__") [b])
        (PySem.W.ifBound_K X I hs hf (wpAny_mono h (fun r s' hr => by
          obtain ⟨k, rfl, hq⟩ := hr
          repeat (first | exact hq | exact wpAny_pure hq | exact wpAny_truthy_bool hq | (refine wpAny_bind (m := truthy (.bool _)) (wpAny_truthy_bool ?_)) | wp_step)) fun _ _ e => e)))
    | wp_step)
theorem ne_own {Q : Value → Shared → Prop} (X : K.In s.heap) (I : InstAt s.heap x ox C od) (hb : Looks (model prog w) s.heap (typeOf b) (.ref C)) (hu : A.units + 1 < cLine)
    (hne : findIn K (.ref C) "__ne__" = some (some (.builtin "object.__ne__"))) (hs : findIn K (.ref C) "__eq__" = some (some (.ref f))) (hf : isFn K (.ref f) = true) (hm : mroIn K C (.type "object") = some true)
    (h : wpAny (model prog w) A.in1 (call (.ref f) [.ref x, b]) (fun v s' => ∃ k, v = .bool k ∧ Q (.bool (!k)) s') E s) : wpAny (model prog w) A (richCompare .NotEq (.ref x) b) Q E s := by
  have sub : Looks (model prog w) s.heap (isInstance (.ref x) (.type "object")) true := I.type.andThen (looks_mroIn X hm)
  have one : wpAny (model prog w) A (tryCompare (.ref x) "__ne__" b) (fun r s' => ∃ v, r = some v ∧ Q v s') E s := by
    unfold tryCompare
    refine wpAny_bind ?_
    simp only [callSpecialIfBound?, bindSpecialIfBound?]
    refine wpAny_holding (wpAny_bind (wpAny_bind (wpAny_bind (I.type.here ((looks_findIn X hne).here ?_)))))
    refine wpAny_bind (wpAny_askSetting (wpAny_ite ?_))
    have fin : wpAny (model prog w) A (call (.builtin "object.__ne__") [.ref x, b]) (fun v s' => ∃ k, v = .bool k ∧ Q (.bool k) s') E s := by
      refine wpAny_call (codeAny_call_builtin slot_ne.plain F.cmpEntry_ne (check_slot F.cmpKind_ne F.cmpSplit_ne sub (F.cmpArgs_ne _ _) ?_))
      refine ne_entry (A := A.in1) X I hu hs hf (wpAny_mono h (fun v s' hv => ?_) fun _ _ z => z)
      obtain ⟨k, rfl, q⟩ := hv
      exact ⟨k, rfl, !k, rfl, q⟩
    have fin2 : wpAny (model prog w) A (call (.builtin "object.__ne__") ([.ref x] ++ [b]) >>= fun v => pure (some v)) (fun a s₁ => wpAny (model prog w) A (match a with | some .notImplemented | none => pure none | some v => pure (some v)) (fun r s' => ∃ v, r = some v ∧ Q v s') E s₁) E s := by
      refine wpAny_bind (wpAny_mono fin (fun v s' hv => ?_) fun _ _ z => z)
      obtain ⟨k, rfl, q⟩ := hv
      exact wpAny_pure (wpAny_pure ⟨_, rfl, q⟩)
    have hbind : bindSpecial (.builtin "object.__ne__") (.ref x) = pure (.builtin "object.__ne__", [.ref x]) := slot_ne.bind _
    split
    · exact wpAny_bind (wpAny_of_eq hbind (wpAny_pure (by exact fin2)))
    · exact wpAny_tryCatch (wpAny_bind (wpAny_of_eq hbind (wpAny_pure (by exact fin2))))
  unfold richCompare
  simp only [oneThing_ref]
  refine wpAny_holding (wpAny_bind (wpAny_cRoomFor (by omega) ?_))
  refine wpAny_bind (I.type.here (wpAny_bind (hb.here ?_)))
  simp only [bne_self_eq_false, Bool.false_eq_true, if_false]
  refine wpAny_bind (wpAny_pure ?_)
  simp only [Bool.false_eq_true, if_false]
  refine wpAny_bind (wpAny_mono one (fun r s' z => ?_) fun _ _ e => e)
  obtain ⟨v, rfl, hq⟩ := z
  exact wpAny_pure hq
end
end FoOps
namespace L2
open PySem PySem.Spec PyProof.Rows
/-- an own class with an own __eq__ at f, and no __ne__ -/
structure OwnEqC (K : PySem.W.Frag) (C f : Addr) : Prop where
  eq : PySem.W.findIn K (.ref C) "__eq__" = some (some (.ref f))
  fn : PySem.W.isFn K (.ref f) = true
  ne : PySem.W.findIn K (.ref C) "__ne__" = some (some (.builtin "object.__ne__"))
  mo : PySem.W.mroIn K C (.type "object") = some true
  nt : PySem.W.notFirst K C (.type "tuple") = true
def rOwnEq (C : Addr) (sp : Sp) (E : XK) : R2 := fun x y H Q => ∃ a dx fs, x = .ref a ∧ H a = some (.ins C dx fs) ∧
  ((∃ b dy gs, y = .ref b ∧ H b = some (.ins C dy gs)) ∨ ∃ b xs, y = .ref b ∧ H b = some (.tup xs)) ∧ sp [x, y] H Q E
def rOwnNe (C : Addr) (sp : Sp) (E : XK) : R2 := fun x y H Q => ∃ a dx fs b dy gs, x = .ref a ∧ H a = some (.ins C dx fs) ∧ y = .ref b ∧ H b = some (.ins C dy gs) ∧
  sp [x, y] H (fun v H' => ∃ k, v = .bl k ∧ Q (.bl (!k)) H') E
section
variable {X : Cx} {CX : CXT} {k : Nat} {f C : Addr} {fd : FuncData} {ps : List Str} {sp : Sp} {E : XK}
theorem op_ownEq (O : OwnEqC X.K C f) (F : FnOk X.prog X.w X.K X.mg X.base CX k f fd ps sp) (hr : Room k X.A) (hb : Binds X.K fd ps []) (hx : Passes CX X E) :
    OpR X (compareOp .Eq) (rOwnEq C sp E) := by
  intro pins s σ H x y v u Q I rx ry h
  obtain ⟨a, dx, fs, rfl, ha, hy, q⟩ := h
  obtain rfl : v = Value.ref a := rx
  obtain ⟨mA, J, _⟩ := ins_get I.hok ha
  obtain ⟨od, J, _⟩ := J.look
  obtain ⟨m, hF⟩ := I.fr
  have run : wpAny (model X.prog X.w) X.A (call (.ref f) [.ref a, u]) (PySem.W.CmpBack (EP X pins σ Q)) X.xe s := by
    refine wpAny_mono (run_fn (us := [.ref a, u]) (vs := [.ref a, y]) F hr hb .nil hx I (.cons rfl (.cons ry .nil)) q) (fun r s' z => ?_) fun _ _ z => z
    obtain ⟨z1, H1, I1, rz, qz⟩ := z
    exact cmpBack_of (not_ni rz) ⟨z1, H1, I1, rz, qz⟩
  show wpAny (model X.prog X.w) X.A (richCompare .Eq (.ref a) u) (EP X pins σ Q) X.xe s
  rcases hy with ⟨b, dy, gs, rfl, hb'⟩ | ⟨b, xs, rfl, hb'⟩
  · obtain rfl : u = Value.ref b := ry
    obtain ⟨mB, J', _⟩ := ins_get I.hok hb'
    obtain ⟨od', J', _⟩ := J'.look
    exact PySem.W.cmp_K (op := .Eq) (tb := .ref C) hr.units0 hF I.ok.mod.kin J J'.type (by simp [PySem.W.notFirst]) O.eq O.fn run
  · obtain rfl : u = Value.ref b := ry
    obtain ⟨_, _, _, o, h1, h2, _⟩ := (show ObjOk X.prog X.w H s.heap b (.tup xs) from I.hok b _ hb')
    have lk : PySem.W.Looks (model X.prog X.w) s.heap (typeOf (.ref b)) (.type "tuple") := fun A Q E s' k q => wpAny_typeOf ⟨o, k _ _ h1, h2⟩ q
    exact PySem.W.cmp_K (op := .Eq) (tb := .type "tuple") hr.units0 hF I.ok.mod.kin J lk O.nt O.eq O.fn run
theorem op_ownNe (O : OwnEqC X.K C f) (F : FnOk X.prog X.w X.K X.mg X.base CX k f fd ps sp) (hr : Room (k + 1) X.A) (hb : Binds X.K fd ps []) (hx : Passes CX X E) :
    OpR X (compareOp .NotEq) (rOwnNe C sp E) := by
  intro pins s σ H x y v u Q I rx ry h
  obtain ⟨a, dx, fs, b, dy, gs, rfl, ha, rfl, hb', q⟩ := h
  obtain rfl : v = Value.ref a := rx
  obtain rfl : u = Value.ref b := ry
  obtain ⟨mA, J, _⟩ := ins_get I.hok ha
  obtain ⟨od, J, _⟩ := J.look
  obtain ⟨mB, J', _⟩ := ins_get I.hok hb'
  obtain ⟨od', J', _⟩ := J'.look
  show wpAny (model X.prog X.w) X.A (richCompare .NotEq (.ref a) (.ref b)) (EP X pins σ Q) X.xe s
  refine FoOps.ne_own I.kIn J J'.type (hu_of hr) O.ne O.eq O.fn O.mo ?_
  have hl := F.len _ _ _ _ q
  have r2 : Vals [V.ref a, V.ref b] [Value.ref a, Value.ref b] := .cons rfl (.cons rfl .nil)
  refine wpAny_call (codeAny_mono (F.run X.A.in1 X.stack s H ⟨[.ref a, .ref b], []⟩ [.ref a, .ref b] [.ref a, .ref b] _ E hr.in1 I.env0.in1 (by
    have := hb s [.ref a, .ref b] I.kIn (by simpa using hl)
    simpa using this) r2 q) fun r s' hq => ?_)
  cases r with
  | error e => exact hx pins σ H s e s' I hq
  | ok fl =>
    cases fl with
    | ret w =>
      obtain ⟨z, H', I', rz, kk, ez, ex⟩ := I.after hq
      subst ez
      cases rz
      exact ⟨kk, rfl, .bl (!kk), H', I', rfl, ex⟩
    | next => exact False.elim hq
    | brk => exact False.elim hq
    | cont => exact False.elim hq
/-- two lists of the very same objects -/
def rNeRefs : R2 := fun x y H Q => ∃ (a b : Addr) (rs : List Addr), x = .ref a ∧ y = .ref b ∧ H a = some (.lst (rs.map V.ref)) ∧ H b = some (.lst (rs.map V.ref)) ∧ Q (.bl false) H
theorem vals_refs : ∀ {rs : List Addr} {us : List Value}, Vals (rs.map V.ref) us → us = rs.map Value.ref
  | [], _, h => by
    cases h
    rfl
  | r :: rs, _, h => by
    cases h with
    | cons h1 h2 =>
      have e1 := vals_refs h2
      cases h1
      rw [e1]
      rfl
theorem op_neRefs (hu : X.A.units < cLine) : OpR X (compareOp .NotEq) rNeRefs := by
  intro pins s σ H x y v u Q I rx ry h
  obtain ⟨a, b, rs, rfl, rfl, ha, hb, q⟩ := h
  obtain rfl : v = Value.ref a := rx
  obtain rfl : u = Value.ref b := ry
  obtain ⟨_, its, n1, r1, e1⟩ := (show ObjOk X.prog X.w H s.heap a (.lst (rs.map V.ref)) from I.hok a _ ha)
  obtain ⟨_, its2, n2, r2, e2⟩ := (show ObjOk X.prog X.w H s.heap b (.lst (rs.map V.ref)) from I.hok b _ hb)
  have q1 := vals_refs r1
  have q2 := vals_refs r2
  subst q1
  subst q2
  have hl1 : s.heap.IsList a (rs.map Value.ref).toArray := ⟨_, e1, rfl, _, rfl⟩
  have hl2 : s.heap.IsList b (rs.map Value.ref).toArray := ⟨_, e2, rfl, _, rfl⟩
  have k := PySem.SeqAt.RcNeAt.lists (A := X.A) (s := s) (e := fun _ => true) hl1 hl2 rfl hu (fun j h1 h2 => PySem.SeqAt.EqAt.same _)
  have e : (!(List.range (rs.map Value.ref).toArray.size).all fun _ => true) = false := by simp
  rw [e] at k
  exact k X.prog X.w X.xe _ ⟨.bl false, H, I, rfl, q⟩
/-- t.index(x) of data: the first place of an equal one -/
def rTIndexD (K : PySem.W.Frag) : V → List V → Hp → VK → Prop := fun x xs H Q => ∃ (a : Addr) (y : V) (d : PyData) (ds : List PyData) (j : Nat) (z : PyData), x = V.ref a ∧ xs = [y] ∧ Dp K H (V.ref a) (.tuple ds) ∧ Dp K H y d ∧
  SeqAt.shaped (.tuple ds) = true ∧ SeqAt.shaped d = true ∧ ds[j]? = some z ∧ PyData.eqv z d = true ∧ (∀ (m : Nat) (z' : PyData), m < j → ds[m]? = some z' → PyData.eqv z' d = false) ∧ Q (.int (j : Nat)) H
theorem mt_tindexD (hu : X.A.units + 65 < cLine) : MtR X "tuple.index" (rTIndexD X.K) := by
  intro pins s σ H x xs v us Q I rx rxs h
  obtain ⟨a, y, d, ds, j, z, rfl, rfl, hl, hy, sl, sd, hz, hzj, hno, q⟩ := h
  cases rx
  cases rxs with
  | cons ry rt =>
    rename_i uy ut
    cases rt
    obtain ⟨bs, r1⟩ := Dp.reads I d y uy hy ry
    have hxs : PyData.canLayAll0 ds = true := SeqAt.canLay_of_shaped sl
    have hroom : X.A.units + 1 + min (PyData.depthAll ds) d.depth < cLine := room_in_shaped sd hu
    cases hl with
    | tup hs ha =>
      obtain ⟨its, rv, pl, hlen⟩ := I.tuple hs
      obtain ⟨⟨cls, dd, dt, sls⟩, ho, hc, n, hd⟩ := pl
      simp only at hc hd
      subst hc
      subst hd
      obtain ⟨as, h4⟩ := Dp.readsAll I ds _ its ha rv
      have hn : its.length = ds.length := SeqAt.ReadsAll.length ds its as h4
      have hmap : its.map (SeqAt.readOf s.heap) = ds := SeqAt.readsAll_map ds its as hxs h4
      obtain ⟨hjd, _⟩ := List.getElem?_eq_some_iff.mp hz
      have hjl : j < its.length := by omega
      have hj : j < its.toArray.size := by simpa using hjl
      have at_ : ∀ (m : Nat) (hm : m < its.toArray.size) (z' : PyData), ds[m]? = some z' → SeqAt.readOf s.heap its.toArray[m] = z' := by
        intro m hm z' hz'
        have hml : m < its.length := by simpa using hm
        rw [← hmap, List.getElem?_map, List.getElem?_eq_getElem hml] at hz'
        have e1 : SeqAt.readOf s.heap its[m] = z' := Option.some.inj (show some (SeqAt.readOf s.heap its[m]) = some z' from hz')
        simpa using e1
      refine call_meets PySem.F.slot_tuple_index ⟨_, ho, rfl⟩ PySem.F.entry_tuple_index (PySem.F.args_tuple_index_2 _ _)
        (TI.tuple_indexAt a its.toArray n dd sls uy (fun u => PyData.eqv (SeqAt.readOf s.heap u) d) j hj ?_ ?_) ⟨ho, SeqAt.items_eqAt (vs := its.toArray) (show ReadsAll s.heap its.toArray.toList ds as from h4) r1 hxs (SeqAt.canLay_of_shaped sd) hroom, ?_⟩
      · show PyData.eqv (SeqAt.readOf s.heap its.toArray[j]) d = true
        rw [at_ j hj z hz]
        exact hzj
      · intro m hm hmj
        have hmd : m < ds.length := by omega
        have hz' : ds[m]? = some ds[m] := List.getElem?_eq_getElem hmd
        show PyData.eqv (SeqAt.readOf s.heap its.toArray[m]) d = false
        rw [at_ m hm _ hz']
        exact hno m _ hmj hz'
      · exact ⟨.int (j : Nat), H, I.tok _, ⟨_, rfl⟩, q⟩
end
end L2
set_option Elab.async false
set_option linter.all false
set_option maxRecDepth 100000
set_option maxHeartbeats 2000000
/-! defs that are called where no guard stands (so that repr of lists and tuples can be told) -/
namespace L2
open PySem PySem.Spec PyProof.Rows
/-- the promise of a def, where nothing is being shown around it -/
structure FnG (P : Program) (w : World) (K : PySem.W.Frag) (mg : Str → Option Value) (base : Heap) (CX : CXT) (k : Nat) (f : Addr) (fd : FuncData) (ps : List Str) (sp : Sp) : Prop where
  len : ∀ vs H Q E, sp vs H Q E → vs.length = ps.length
  run : ∀ (A : Around), A.guards = some [] → ∀ (outer : List Env) (s : Shared) (H : Hp) (args : Args) (us : List Value) (vs : List V) (Q : VK) (E : XK), Room k A → Env0 P w K mg base A outer s H → BindsTo s fd args (ps.zip us) → Vals vs us → sp vs H Q E →
    codeAny (model P w) A (.call (.ref f) args) (CR CX outer P w H s Q E) s
section
variable {P : Program} {w : World} {K : PySem.W.Frag} {mg : Str → Option Value} {base : Heap}
/-- by its body -/
theorem Fun.okG {x qual : Str} {st : Stmt} {f : Addr} {fd : FuncData} {N ps : List Str} {k : Nat} {sp : Sp} (F : Fun K x qual st f fd) (S : FnScope N ps (defScope st)) (len : ∀ vs H Q E, sp vs H Q E → vs.length = ps.length)
    (walk : ∀ (cdv : Value) (A : Around) (outer : List Env) (s : Shared) (H : Hp) (vs : List V) (Q : VK) (E : XK), A.guards = some [] → Room k (A.deeper (envOfC qual (defScope st) s.heap.objs.size f cdv)) → sp vs H Q E →
      ∃ t, PSs (cxOf CX0 P w K mg base N qual (defScope st) f cdv A outer s H E).nox (defBody st) t ∧ t { nx := fun _ H' => Q .non H', rt := Q } (start N vs) H) : FnG P w K mg base CX0 (k + 1) f fd ps sp := by
  obtain ⟨oc, od, kV, doc, pm, an, cdv, ct, osl, rfl, lk, hcd⟩ := F.ex
  constructor
  · exact len
  intro A hgd outer s H args us vs Q E room env bind rel want
  have inB : ∀ b o, base.get? b = some o → s.heap.get? b = some o := fun b o z => (env.bs b o z).1
  have inK := env.mod.kin.keeps inB
  have kinds : ∀ y ∈ ps.zip us, (defScope st).names.lookup y.1 = some .local ∨ ((defScope st).names.lookup y.1 = some .cell ∧ ((cellsFrom (s.heap.objs.size + 1) (defScope st).names []).lookup y.1).isSome = true) := by
    rintro ⟨n, v⟩ hy
    exact (S.par n (List.of_mem_zip hy).1).imp id fun q => ⟨q, PySem.W.cellsFrom_some _ _ _ (.inl q)⟩
  refine codeAny_call_function room.depth (inK _ _ lk) rfl S.co S.gen rfl (PySem.W.codeRec_of inK hcd) (bind _ _ _ _ (wpAny_newFunctionEnv_cells S.kind kinds ?_))
  rintro _ rfl s1 entry
  refine ⟨(env.mod.nolimit.keeps inB).keeps entry.toInCall.keep, codeAny_func ?_⟩
  obtain ⟨t, body, told⟩ := walk cdv A outer s H vs Q E hgd (room.deeper _) want
  have start0 := inv_start (CX := CX0) (E := E) S room.hd env (len _ _ _ _ want) rel entry
  refine wpAny_mono (body.nox.run [] s1 (start N vs) H _ start0 told) ?_ fun _ _ z => z
  intro fl s' z
  cases fl with
  | ret u =>
    obtain ⟨v, σ', H', J, rv, q⟩ := z
    exact ⟨v, H', J.os, J.bare, J.base, J.hok, rv, q⟩
  | next =>
    obtain ⟨σ', H', J, q⟩ := z
    exact ⟨.non, H', J.os, J.bare, J.base, J.hok, rfl, q⟩
  | brk => exact z.elim fun _ z => z.elim fun _ z => z.2.elim
  | cont => exact z.elim fun _ z => z.elim fun _ z => z.2.elim
end
section
variable {X : Cx} {CX : CXT} {k : Nat} {f : Addr} {fd : FuncData} {ps : List Str} {sp : Sp} {E : XK} {x : Str} {p pos : Pos} {e : Expr} {es : List Expr} {t : TA}
/-- f(e, ..) of such a def -/
theorem pe_callG (F : FnG X.prog X.w X.K X.mg X.base CX k f fd ps sp) (hgd : X.A.guards = some []) (hr : Room k X.A) (hg : Gl X x) (hm : X.mg x = some (.ref f)) (hk : PySem.W.keepIn X.K (.ref f) = true) (hb : Binds X.K fd ps []) (hx : Passes CX X E)
    (ha : PA X (e :: es) t) (hdb : (x == ("__debug__" : Str)) = false := by decide) (he : starEach (e :: es) X.env = (false, eval e X.env) :: starEach es X.env := by rfl) (hpl : (backTo pos (starEach es X.env)).any (·.1) = false := by rfl) :
    PE X (.Call (.Name x p) (e :: es) [] pos) (tCall sp [] E t) := by
  constructor
  intro pins s σ H Q I h
  refine wpAny_Call_Name_kw (ld_glob I hg hm (PySem.W.callWith_K (h₀ := X.base) I.ok.mod.kin hk (thn (ha.run pos pins s σ H _ I h) ?_) he hpl) hdb)
  rintro us s1 ⟨vs, H1, I1, rel, want⟩
  refine ⟨I1.kIn, ?_⟩
  rw [List.append_nil] at want
  have ln : us.length = ps.length := rel.length.symm.trans (F.len _ _ _ _ want)
  have bnd := hb s1 us I1.kIn (by rw [List.append_nil]; exact ln)
  rw [List.append_nil] at bnd
  refine wpAny_call (codeAny_mono (F.run X.A hgd X.stack s1 H1 ⟨us, []⟩ us vs Q E hr I1.env0 bnd rel want) ?_)
  intro r s' z
  rcases r with e | (u | _ | _ | _)
  · exact hx pins σ H1 s1 e s' I1 z
  all_goals first | exact I1.after z | exact False.elim z
end
end L2
namespace L2
open PySem PySem.Spec PyProof.Rows
/-- the end of a law whose def is such a one -/
theorem walk_ofG {l : PySem.W.OpenLaw} {n k : Nat} {q : Program} {loose : List Str} {XP : (Str → Option Value) → Heap → Prop} {YP : World → Heap → Prop} {d : DefRec} {K : Params → PySem.W.Frag} {sp : World → Sp} {x : Str}
    (hn : l.most = some n) (hn2 : n ≤ sizeLine) (hdf : d.params.defaults = []) (hr : Room k callerA) (hY : ∀ (w : World) (h : Heap), YP w h → (K w.params).In h)
    (F : ∀ (w : World) (mg : Str → Option Value) (fa : Addr) (h : Heap), (K w.params).In h → h.Ns mainGlobals mg → mg d.name = some (.ref fa) →
      ∃ fd : FuncData, (∀ (s : Shared) (u : Value), BindsTo s fd ⟨[u], []⟩ [(x, u)]) ∧ ∀ base : Heap, (K w.params).In base → base.Ns mainGlobals mg → FnG l.prog w (K w.params) mg base CX0 k fa fd [x] (sp w))
    (hsp : ∀ (w : World) (H : Hp) (a : Addr) (ns : List Int), ns.length ≤ n → SqL (K w.params) H a (ns.map V.int) → sp w [.ref a] H (fun v _ => v = .bl true) E0) :
    PySem.W.WalkO q loose XP YP l.row.toRowW d [] (fun f vs => PySem.call f vs) := by
  refine Att.attach_call hn hdf fun w s₀ s₁ mg mb fa o pm cd doc a vs ns G Y _ _ _ hmg hobj hints hlen hg => ?_
  have inK := hY w _ Y
  obtain ⟨fd, bind, told⟩ := F w mg fa _ inK G.T.g hmg
  have rel := vals_ints hints
  have long : ns.length ≤ sizeLine := Nat.le_trans hlen hn2
  -- any abstract heap that knows at most the script, as it lies
  have key : ∀ H : Hp, (∀ b u, H b = some u → b = a ∧ (K w.params).lookup a = none ∧ u = .frz { cls := .type "list", data := .seq vs.toArray } (.lst (ns.map V.int))) → SqL (K w.params) H a (ns.map V.int) → HOk l.prog w H s₁.heap →
      codeAny (model l.prog w) callerA (.call (.ref fa) ⟨[.ref a], []⟩) (fun r s' => r = .ok (.ret (.bool true)) ∧ OldK s₁.heap s'.heap ∧ s'.os = s₁.os ∧ AllBare s'.gens) s₁ := by
    intro H only sq ok
    have keepN : ∀ {b : Addr} {m : Str → Option Value}, s₁.heap.Ns b m → (hidT s₁.heap H).Ns b m := by
      rintro b m ⟨ob, es, ep, h1, h2, r⟩
      refine ⟨ob, es, ep, hidT_get h1 ?_, h2, r⟩
      cases hH : H b with
      | none => rfl
      | some u =>
        obtain ⟨rfl, _, _⟩ := only b u hH
        rw [hobj] at h1
        cases h1
        cases h2
    have kIn' : (K w.params).In (hidT s₁.heap H) := fun b ob z => hidT_get (inK b ob z) (by
      cases hH : H b with
      | none => rfl
      | some u =>
        obtain ⟨rfl, hno, _⟩ := only b u hH
        rw [hno] at z
        cases z)
    obtain ⟨mc, c1, c2⟩ := G.T.nolimit
    have env : Env0 l.prog w (K w.params) mg (hidT s₁.heap H) callerA [] s₁ H := by
      refine ⟨rfl, ⟨kIn', keepN G.T.g, ⟨mb, keepN G.T.b, G.T.builtins⟩, ⟨mc, keepN c1, c2⟩⟩, fun b ob z => of_hidT z, Nat.le_of_eq (hidT_size _ _), trivial, fun b hb => ?_, ok, .of_eq hg⟩
      have hb' : b ∈ ([] : List Addr) := hb
      cases hb'
    refine codeAny_mono ((told _ kIn' (keepN G.T.g)).run callerA rfl [] s₁ H ⟨[.ref a], []⟩ [.ref a] [.ref a] _ _ hr env (bind s₁ (.ref a)) (.cons rfl .nil) (hsp w H a ns hlen sq)) ?_
    intro r s' z
    cases r with
    | error e => exact False.elim z
    | ok fl =>
      cases fl with
      | next => exact False.elim z
      | brk => exact False.elim z
      | cont => exact False.elim z
      | ret u =>
        obtain ⟨v, H', os, bare, un, ok', rv, ev⟩ := z
        have ev' : v = .bl true := ev
        subst ev'
        obtain rfl : u = Value.bool true := rv
        refine ⟨rfl, OldK.of_keep fun b ob hb => ?_, os, bare⟩
        cases hH : H b with
        | none =>
          refine un.keep b ob hb hH (fun hm => ?_) (by simp)
          have hm' : b ∈ ([] : List Addr) := hm
          cases hm'
        | some u =>
          obtain ⟨rfl, _, rfl⟩ := only b u hH
          obtain ⟨e1, _⟩ := ok b _ hH
          obtain ⟨e2, _⟩ := ok' b _ (un.frzs b _ _ hH)
          rw [hb] at e1
          cases e1
          exact e2
  by_cases hk : (K w.params).lookup a = none
  · refine key (fun b => if b = a then some (.frz { cls := .type "list", data := .seq vs.toArray } (.lst (ns.map V.int))) else none) (fun b u z => ?_) (.inl (.inr ⟨_, if_pos rfl⟩)) (fun b u z => ?_)
    · try dsimp only at z
      by_cases hb : b = a
      · rw [if_pos hb] at z
        exact ⟨hb, hk, (Option.some.inj z).symm⟩
      · rw [if_neg hb] at z
        cases z
    · try dsimp only at z
      by_cases hb : b = a
      · rw [if_pos hb] at z
        cases z
        subst hb
        exact ⟨hobj, by rw [List.length_map]; exact long, vs, _, rel, hobj⟩
      · rw [if_neg hb] at z
        cases z
  · obtain ⟨ob, hob⟩ := Option.ne_none_iff_exists'.mp hk
    have same := inK a ob hob
    rw [hobj] at same
    cases same
    refine key (fun _ => none) (fun b u z => by cases z) (.inr ⟨_, vs.toArray, _, hob, rfl, rfl, rfl, ?_, by simpa using rel⟩) (fun b u z => by cases z)
    rw [List.size_toArray, hints.length]
    exact long
end L2
set_option Elab.async false
set_option linter.all false
set_option maxRecDepth 100000
set_option maxHeartbeats 2000000
/-! repr of data, where no guard stands -/
namespace L2
open PySem PySem.Spec PyProof.Rows
def rReprD (K : PySem.W.Frag) : List V → Hp → VK → Prop := fun xs H Q => ∃ x d, xs = [x] ∧ Dp K H x d ∧ d.showable = true ∧ d.hasDict = false ∧ d.depth ≤ 60 ∧ d.shown.length ≤ sizeLine ∧ Q (.str d.shown) H
theorem call_reprD {X : Cx} (hgd : X.A.guards = some []) (hu : X.A.units + 64 < cLine) : CallR X (.builtin "repr") (rReprD X.K) := by
  intro pins s σ H xs us Q I r h
  obtain ⟨x, d, rfl, hd, hs, hnd, hdp, hz, q⟩ := h
  obtain ⟨u, rfl, rx⟩ := vals1 r
  obtain ⟨as, rd⟩ := Dp.reads I d x u hd rx
  cases hd with
  | non =>
    obtain rfl : u = Value.none := rx
    exact PySem.P.repr_of_none ⟨.str "None", H, I.tok _, ⟨_, rfl⟩, q⟩
  | bl b =>
    obtain rfl : u = Value.bool b := rx
    exact PySem.P.repr_of_bool ⟨.str _, H, I.tok _, ⟨_, rfl⟩, q⟩
  | int i =>
    obtain ⟨t, rfl⟩ := rx
    exact PySem.P.repr_of_int (by simpa [PyData.showable] using hs) ⟨.str (toString i), H, I.tok _, ⟨_, rfl⟩, q⟩
  | str y =>
    obtain ⟨t, rfl⟩ := rx
    exact PySem.P.repr_of_str ⟨.str (reprText y), H, I.tok _, ⟨_, rfl⟩, q⟩ hz
  | @lst a ys ds h1 h2 =>
    obtain rfl : u = Value.ref a := rx
    exact repr_of_reads' rd hs (fun z => by rw [hnd] at z; cases z) hgd (by omega) (fun _ _ z => z) (fun h' v tk k => ⟨.str _, H, I.kept k, ⟨_, rfl⟩, q⟩) hz
  | @tup a ys ds h1 h2 =>
    obtain rfl : u = Value.ref a := rx
    exact repr_of_reads' rd hs (fun z => by rw [hnd] at z; cases z) hgd (by omega) (fun _ _ z => z) (fun h' v tk k => ⟨.str _, H, I.kept k, ⟨_, rfl⟩, q⟩) hz
end L2
namespace L2
open PySem PySem.Spec PyProof.Rows
/-- what an own error class says, so that isinstance asks its instances rightly -/
structure XIsC (K : PySem.W.Frag) (D : Addr) : Prop where
  hg : PySem.W.findIn K (.ref D) "__getattribute__" = some (some (.builtin "BaseException.__getattribute__"))
  hk : PySem.W.findIn K (.ref D) "__getattr__" = some none
  hs : PySem.W.subIn K (.ref D) (.type "BaseException") = some true
  hd : PySem.W.hasDictIn K D = true
  ha : PySem.W.findIn K (.ref D) "__class__" = some (some (.builtin "object.__class__"))
  hn : PySem.W.specialIn K (.builtin "object.__class__") "__get__" = some (some (.builtin "getset_descriptor.__get__"))
  ht : PySem.W.takesIn K (.builtin "object.__class__") = some true
  hm : PySem.W.mroIn K D (.type "object") = some true
end L2
namespace L2
open PySem PySem.Spec PyProof.Rows
/-- isinstance(e, c), e the error that the suite holds (at a; its class cls, its dict d) -/
def rIsX (K : PySem.W.Frag) (a : Addr) (cls : Value) (d : Option Addr) : List V → Hp → VK → Prop := fun xs H Q => ∃ (D dd : Addr) (fs : List (Str × V)) (c : V) (cv : Value) (b : Bool), xs = [.ref a, c] ∧ cls = .ref D ∧ d = some dd ∧ H dd = some (.xd fs) ∧ ClsV c cv ∧ XIsC K D ∧
  PySem.W.kitOne K (.ref D) cv = some b ∧ Q (.bl b) H
theorem call_isX {X : Cx} {a : Addr} {oe : Obj} {cls : Value} {d : Option Addr} {pn : List (Addr × Obj)} (hz : Zc cls d oe) (hf : ∃ vs, oe.data = .fields vs) : CallR (X.suite a ((a, oe) :: pn)) (.builtin "isinstance") (rIsX X.K a cls d) := by
  intro pins s σ H xs us Q I r h
  obtain ⟨D, dd, fs, c, cv, b, rfl, rfl, rfl, hdd, hcv, T, e, q⟩ := h
  obtain ⟨u1, u2, rfl, r1, r2⟩ := vals2 r
  obtain rfl : u1 = Value.ref a := r1
  obtain rfl := hcv.eq r2
  obtain ⟨ha, _⟩ := I.pin (a, oe) (List.mem_append_left _ List.mem_cons_self)
  obtain ⟨vs, hd⟩ := hf
  obtain ⟨mA, hns, _⟩ := (show ObjOk X.prog X.w H s.heap dd (.xd fs) from I.hok dd _ hdd)
  obtain ⟨od, ho, _⟩ := lookIn_ns hns
  have J : PySem.W.InstAt s.heap a oe D (some od) := ⟨ha, hz.1, by unfold PySem.W.notCls; rw [hd] <;> rfl, by rw [hz.2]; exact ho⟩
  have hcl : (PySem.W.clsIn X.K D).isSome = true := by
    obtain ⟨cd, hc, _⟩ := PySem.W.any_some T.hd
    rw [hc]
    rfl
  exact PySem.W.kia_one (PySem.W.kitx_exc hcl T.hg T.hk T.hs T.ha T.hn T.ht T.hm) I.kIn J e (fun z => nomatch z) fun tk => ⟨.bl b, H, I.kept (t' := tk) fun _ _ z => z, rfl, q⟩
end L2
set_option Elab.async false
set_option linter.all false
set_option maxRecDepth 100000
set_option maxHeartbeats 2000000
/-! an own error over ValueError (perhaps over others between), whose __init__ says super().__init__(text) and keeps one field -/
namespace FoX
open PySem PySem.W PySem.Calls PyProof.Rows PySem.HandSPX
theorem one_sz (v : Value) : [v].length ≤ sizeLine := by
  rw [sizeLine_eq]
  exact (by decide : 1 ≤ 16777216)
section
variable {prog : Program} {w : World} {A : Around} {E : Value → Shared → Prop} {h : Heap} {g : Array GenState} {d : Drawn} {t : Nat} {os : OsState}
/-- the bound built-in __init__ called -/
theorem mw_call {nm q : Str} {C N u e t0 : Addr} {bs bm : List Value} {hdct : Bool} {sn : List Str} {sub : List Value} {ab : Bool} {col : Option Bool} {dd : Option Addr} {k0 k1 k2 k3 k5 : Option Value} {rest : List Value} {Q : Value → Shared → Prop}
    (hC : h.get? C = some (excClassObj nm q C N bs bm hdct sn sub ab col dd k0 k1 k2 k3 k5 "ValueError.__new__")) (he : h.get? e = some (HandSPX.excO C t0)) (hu : h.get? u = some (kxs_mw "ValueError.__init__" e)) (hz : rest.length ≤ sizeLine)
    (hq : ∀ h' t1, (∀ b o, b ≠ e → h.get? b = some o → h'.get? b = some o) → h'.get? e = some (HandSPX.excO C t1) → Q .none ⟨h', g, d, t, os⟩) :
    wpAny (model prog w) A (call (.ref u) rest) Q E ⟨h, g, d, t, os⟩ := by
  refine wpAny_call (codeAny_of_tree ?_)
  show wpAny (model prog w) A.in1 (callAny (.ref u) ⟨rest, []⟩) _ _ _
  simp only [callAny]
  refine wpAny_bind (wpAny_load hu ?_)
  have tb : (Value.type "method-wrapper" == Value.type "method" || Value.type "method-wrapper" == Value.type "builtin_function_or_method" || Value.type "method-wrapper" == Value.type "method-wrapper") = true := by decide
  simp only [kxs_mw, tb, if_true]
  refine KFB.if_so (by decide) (wpAny_bind (check_bound_init F.excBase_ValueError.toExcCallFacts hC he rfl ?_))
  refine wpAny_bind (wpAny_pure (wpAny_pure ⟨plainId_quiet F.excBase_ValueError.init.plain _, codeAny_builtin F.excBase_ValueError.initEntry ?_⟩))
  exact exc_init_tree (cls := .ref C) (t0 := t0) (dv := none) (c2 := .none) (c3 := .none) (b4 := .bool false) he hz fun h' k e' _ => hq h' _ k e'
end
end FoX
set_option Elab.async false
set_option linter.all false
set_option maxRecDepth 100000
set_option maxHeartbeats 2000000
namespace FoX_thing
open PySem PySem.W PySem.Calls PyProof.Rows PySem.HandSPX FoX
/-- the text of such an __init__ -/
def xB (msg : Str) (a1 a2 a3 a4 a5 a6 q1 q2 q3 q4 : Pos) (j : Nat) : List Stmt :=
  [.Expr (.Call (.Attribute (.Call (.Name "super" a1) [] [] a2) "__init__" a3) [.Constant (.str msg) j a4] [] a5) a6, .Assign [.Attribute (.Name "self" q1) (Str.ofString "thing") q2] (.Name (Str.ofString "thing") q3) q4]
def xS : Scope := { kind := .function, names := [(Str.ofString "self", .local), ((Str.ofString "thing"), .local), (Str.ofString "__class__", .free), (Str.ofString "super", .globalImplicit)], isGenerator := false, isCoroutine := false, more := [] }
def xA (p1 p2 : Pos) : Arguments := { posonlyargs := [], args := [{ arg := "self", annotation := none, pos := p1 }, { arg := (Str.ofString "thing"), annotation := none, pos := p2 }], vararg := none, kwonlyargs := [], kw_defaults := [], kwarg := none, defaults := [] }
/-- what the written part says of the class at C and its __init__ at fI -/
structure XTxt (P : Program) (K : Frag) (mg : Str → Option Value) (C fI : Addr) : Prop where
  cls : ∃ nm q N bs bm sn sub ab col dd k0 k1 k2 k3 k5, K.lookup C = some (excClassObj nm q C N bs bm true sn sub ab col dd k0 k1 k2 k3 k5 "ValueError.__new__") ∧ refsVE bm = true
  sa : findIn K (.ref C) "__setattr__" = some (some (.builtin "object.__setattr__"))
  ga : findIn K (.ref C) "__getattribute__" = some (some (.builtin "BaseException.__getattribute__"))
  gg : findIn K (.ref C) "__getattr__" = some none
  noN : findIn K (.ref C) (Str.ofString "thing") = some none
  iC : findIn K (.ref C) "__init__" = some (some (.ref fI))
  tC : typeIn K (.ref fI) = some (.type "function")
  kC : keepIn K (.ref C) = true
  exC : subIn K (.ref C) (.type "BaseException") = some true
  tyC : typeIn K (.ref C) = some (.type "type")
  hdC : hasDictIn K C = true
  sup : ks_superIn K C C "__init__" = some (some (.builtin "ValueError.__init__"))
  tp : nsIn K cStatics "thirdparty.any" = some none
  zs : mg "super" = none
  ve : subIn K (.ref C) (.type "ValueError") = some true
  mr : mroIn K C (.ref C) = some true
  top : (P.main.scope.names.lookup ("super" : Str)).isSome = false
  fn : ∃ (qual msg : Str) (oc : Value) (od : Option Addr) (doc pm kV : Value) (an : Option Addr) (cc cda : Addr) (ct : Value) (osl : Array (Option Value)) (p1 p2 a1 a2 a3 a4 a5 a6 q1 q2 q3 q4 : Pos) (j : Nat) (ccl cl : Value) (cdd cld : Option Addr) (vs : Array Value) (ccs csl : Array (Option Value)) (file : Str) (tf : Tok),
    K.lookup fI = some ⟨oc, od, .func (ksFn "__init__" qual (xA p1 p2) (xB msg a1 a2 a3 a4 a5 a6 q1 q2 q3 q4 j) xS .none kV doc pm an (.ref cda) ct cc), osl⟩ ∧ codeIn K (.ref cda) qual = true ∧
    K.lookup cda = some ⟨ccl, cdd, .fields vs, ccs⟩ ∧ vs[2]? = some (.str file tf) ∧ ((P.main.file : Str) == file) = true ∧ (a3.endLine == a5.line) = true ∧ K.lookup cc = some ⟨cl, cld, .cell (some (.ref C)), csl⟩
theorem xcel : ∀ y ∈ xS.names, y.2 ≠ .cell := by decide
/-- the call of super's method, its tree -/
theorem x_tree (msg : Str) (a1 a2 a3 a4 a5 : Pos) (j : Nat) (env : Env) (hl : (a3.endLine == a5.line) = true) : eval (.Call (.Attribute (.Call (.Name "super" a1) [] [] a2) "__init__" a3) [.Constant (.str msg) j a4] [] a5) env = (do
      let ov ← attributeBase (.Call (.Name "super" a1) [] [] a2) "__init__" env (eval (.Call (.Name "super" a1) [] [] a2) env)
      standAt a3.atName
      let (f, first) ← holding [ov] (getMethod ov "__init__" (do return (← importBound (.Call (.Name "super" a1) [] [] a2) env).getD true))
      callWith a5 f first (backTo a5 (starEach [.Constant (.str msg) j a4] env)) []) := by
  rw [arm_eval_Call]
  unfold methodCall methodCallPos
  simp only [hl, Bool.or_true, if_true]
  rfl
/-- what __init__ leaves of a fresh error at x -/
structure XEnd (h h' : Heap) (x C dx : Addr) (v : Value) : Prop where
  keep : ∀ b o, b ≠ x → h.get? b = some o → h'.get? b = some o
  obj : ∃ t1 : Addr, h'.get? x = some { cls := .ref C, dict := some dx, data := .fields #[.ref t1, .none, .none, .none, .bool false, .none] }
  dbig : h.objs.size ≤ dx
  dne : dx ≠ x
  ns : h'.Ns1 dx (fun y => if y = (Str.ofString "thing") then some v else none)
section
variable {prog : Program} {w : World} {A : Around} {E : Value → Shared → Prop} {R : Result → Shared → Prop} {s : Shared} {K : Frag} {mg : Str → Option Value} {C fI : Addr}
theorem x_init (T : XTxt prog K mg C fI) {x t0 : Addr} {v : Value} (X : K.In s.heap) (hg : s.heap.Ns mainGlobals mg) (hbl : ∃ mb, s.heap.Ns builtinsNs mb ∧ ∀ y : Str, y ≠ "__name__" → mb y = bootBuiltins y) (hlim : s.heap.NoLimit)
    (hx : s.heap.get? x = some (HandSPX.excO C t0)) (hnx : K.lookup x = none) (hroom : A.depth < recursionLimit) (hq : ∀ h' tk dx, XEnd s.heap h' x C dx v → R (.ok (.ret .none)) { s with heap := h', toks := tk }) :
    codeAny (model prog w) A (.call (.ref fI) ⟨[.ref x, v], []⟩) R s := by
  obtain ⟨qual, msg, oc, od, doc, pm, kV, an, cc, cda, ct, osl, p1, p2, a1, a2, a3, a4, a5, a6, q1, q2, q3, q4, j, ccl, cl, cdd, cld, vs, ccs, csl, file, tf, ho, hcd, hcode, hvs, hfile, hline, hcell⟩ := T.fn
  obtain ⟨nm, q, N, bs, bm, sn, sub, ab, col, dd, k0, k1, k2, k3, k5, hC, hbm⟩ := T.cls
  have hcl : clsIn K C = some { name := nm, bases := bs, mro := .ref C :: bm, ns := N, qualname := q, hasDict := true, slotNames := sn, subclasses := sub, abstract := ab, collection := col, hasDel := false } := by unfold clsIn; rw [hC] <;> rfl
  obtain ⟨hp, g, d, tk, os⟩ := s
  refine ks_codeAny_call_defAt (fd := ksFn "__init__" qual (xA p1 p2) (xB msg a1 a2 a3 a4 a5 a6 q1 q2 q3 q4 j) xS .none kV doc pm an (.ref cda) ct cc) (body := xB msg a1 a2 a3 a4 a5 a6 q1 q2 q3 q4 j) (binds := [(Str.ofString "self", .ref x), ((Str.ofString "thing"), v)]) hroom (X _ _ ho) rfl hlim (codeRec_of X hcd) rfl (BindsTo.of_eq rfl) xcel ?_ (fun h₁ hns k => ?_) rfl rfl rfl
  · intro y hy
    rcases List.mem_cons.mp hy with rfl | hy
    · exact rfl
    · rcases List.mem_cons.mp hy with rfl | hy
      · exact rfl
      · cases hy
  have X₁ : K.In h₁ := X.keeps k
  have hx₁ : h₁.get? x = some (HandSPX.excO C t0) := k _ _ hx
  have I₁ : InstAt h₁ x (HandSPX.excO C t0) C none := ⟨hx₁, rfl, rfl, trivial⟩
  have vself : (fun y : Str => List.lookup y (List.reverse [((Str.ofString "self"), Value.ref x), ((Str.ofString "thing"), v)])) (Str.ofString "self") = some (.ref x) := by
    have e : ((Str.ofString "self") == (Str.ofString "thing")) = false := by decide +kernel
    simp [List.lookup, e]
  have vfld : (fun y : Str => List.lookup y (List.reverse [((Str.ofString "self"), Value.ref x), ((Str.ofString "thing"), v)])) (Str.ofString "thing") = some v := by
    simp [List.lookup]
  obtain ⟨mb, hb1, hb2⟩ := hbl
  -- super().__init__(text)
  refine ks_wpAt_execs_cons (ks_wpAt_Expr_any (ks_wpAt_MethodCall ?_ (x_tree msg a1 a2 a3 a4 a5 j _ hline)) rfl rfl)
  refine ks_wpAt_super_base (f := fI) (fd := ksFn "__init__" qual (xA p1 p2) (xB msg a1 a2 a3 a4 a5 a6 q1 q2 q3 q4 j) xS .none kV doc pm an (.ref cda) ct cc) (ar := { arg := "self", annotation := none, pos := p1 }) rfl rfl rfl rfl (X₁ _ _ ho) rfl rfl rfl (X₁ _ _ hcode) rfl hvs hfile T.top ?_
  refine ks_loadName_global rfl rfl (loadGlobal_builtin (hg.keeps k) T.zs (hb1.keeps k) ((hb2 _ (by decide +kernel)).trans (by decide +kernel)) ⟨rfl, ?_⟩)
  refine wpAny_loadName_free rfl rfl rfl ⟨_, X₁ _ _ hcell, rfl⟩ ?_
  refine wpAny_loadName_local rfl rfl hns vself ?_
  obtain ⟨oD, hD1, hD2⟩ : ∃ oD, h₁.get? C = some oD ∧ oD.data = .cls { name := nm, bases := bs, mro := .ref C :: bm, ns := N, qualname := q, hasDict := true, slotNames := sn, subclasses := sub, abstract := ab, collection := col, hasDel := false } := ⟨_, X₁ _ _ hC, rfl⟩
  refine ks_wpAny_isType_cls hD1 hD2 ⟨rfl, ?_⟩
  refine ks_wpAny_call_super hD1 hD2 hx₁ rfl (fun c e => by cases e) (looks_mroIn X₁ T.mr) (fun h₂ e₂ k₂ => ?_)
  have X₂ : K.In h₂ := X₁.keeps k₂
  have hx₂ : h₂.get? x = some (HandSPX.excO C t0) := k₂ _ _ hx₁
  have I₂ : InstAt h₂ x (HandSPX.excO C t0) C none := ⟨hx₂, rfl, rfl, trivial⟩
  have hsup := T.sup
  unfold ks_superIn at hsup
  rw [hcl] at hsup
  have hmro : Looks (model prog w) h₂ (mroOf (.ref C)) (.ref C :: bm) := (looks_clsIn X₂ hcl).andThen .now
  refine kxs_getMethod kxs_ValueError e₂ (looks_opaque X₂ T.tp) hmro rfl X₂ hsup (I₂.type.andThen (looks_subIn X₂ T.ve)) (ks_ne X₂ I₂ hcl) rfl ?_
  -- the wrapper called
  have hk₃ : ∀ b o, h₂.get? b = some o → (h₂.push (kxs_mw "ValueError.__init__" x)).get? b = some o := fun b o e => Heap.get?_push_of_some _ e
  have hu₃ : (h₂.push (kxs_mw "ValueError.__init__" x)).get? h₂.objs.size = some (kxs_mw "ValueError.__init__" x) := Heap.get?_push_at rfl rfl
  refine kxs_callWith (i := "ValueError.__init__") (x := x) rfl (evalArgs_plain (Calls.spliced_cons (Calls.Constant_str (pos := a4) (k := j) (Calls.spliced_nil ⟨hu₃, ?_⟩))))
  refine mw_call (X₂.keeps hk₃ _ _ hC) (hk₃ _ _ hx₂) hu₃ (one_sz _) (fun h₄ t1 k₄ hx₄ => ?_)
  have kall : ∀ b o, b ≠ x → hp.get? b = some o → h₄.get? b = some o := fun b o hb e => k₄ b o hb (hk₃ b o (k₂ b o (k b o e)))
  have xC : x ≠ C := ks_ne X₂ I₂ hcl
  have X₄ : K.In h₄ := fun b o e => kall b o (fun z => by rw [z, hnx] at e; cases e) (X b o e)
  have hL : hp.objs.size ≠ x := Nat.ne_of_gt (Heap.lt_size hx)
  have hns₄ : h₄.Ns hp.objs.size (fun y => List.lookup y (List.reverse [((Str.ofString "self"), Value.ref x), ((Str.ofString "thing"), v)])) := by
    obtain ⟨oL, es, ep, hoL, r⟩ := hns
    exact ⟨oL, es, ep, k₄ _ _ hL (hk₃ _ _ (k₂ _ _ hoL)), r⟩
  -- self.field = field
  refine wpAt_of_wpAny ?_
  refine wpAny_execs_cons (plainObj_wpAny_Assign_Attribute ?_)
  refine wpAny_Name (wpAny_loadName_local rfl rfl hns₄ vfld (wpAny_Name (wpAny_loadName_local rfl rfl hns₄ vself ?_) (by decide))) (by decide)
  refine set_plain X₄ (ox := HandSPX.excO C t1) (od := none) ⟨hx₄, rfl, rfl, trivial⟩ T.sa ?_
  refine exc_osa X₄ hx₄ hcl (show refsVE (.ref C :: bm) = true from hbm) rfl T.noN (fun h₅ tk₅ dx k₅ dn dne hx₅ hn₅ => ?_)
  refine wpAny_execs_nil (hq h₅ tk₅ dx ⟨fun b o hb e => k₅ b o hb (kall b o hb e), ⟨t1, hx₅⟩, ?_, dne, hn₅⟩)
  have z1 : hp.objs.size < h₄.objs.size := hns₄.lt
  exact Nat.le_of_lt (Nat.lt_of_lt_of_le z1 dn)
/-- a made error -/
structure XMade (h h' : Heap) (e C d : Addr) (v : Value) : Prop where
  keep : ∀ b o, h.get? b = some o → h'.get? b = some o
  new : h.objs.size ≤ e
  obj : ∃ oe vs, h'.get? e = some oe ∧ oe.cls = .ref C ∧ oe.dict = some d ∧ oe.data = .fields vs ∧ vs[1]? = some .none ∧ vs[2]? = some .none
  dbig : h.objs.size ≤ d
  dne : d ≠ e
  ns : h'.Ns1 d (fun y => if y = (Str.ofString "thing") then some v else none)
theorem x_made (T : XTxt prog K mg C fI) {v : Value} (X : K.In s.heap) (hg : s.heap.Ns mainGlobals mg) (hbl : ∃ mb, s.heap.Ns builtinsNs mb ∧ ∀ y : Str, y ≠ "__name__" → mb y = bootBuiltins y) (hlim : s.heap.NoLimit) (hroom : A.depth + 1 < recursionLimit)
    (hq : ∀ h' tk e d, XMade s.heap h' e C d v → R (.ok (.ret (.ref e))) { s with heap := h', toks := tk }) : codeAny (model prog w) A (.call (.ref C) ⟨[v], []⟩) R s := by
  obtain ⟨nm, q, N, bs, bm, sn, sub, ab, col, dd, k0, k1, k2, k3, k5, hC, hbm⟩ := T.cls
  obtain ⟨hp, g, dr, tk, os⟩ := s
  have k : ∀ b o, hp.get? b = some o → ((hp.push (kdv_tup [v])).push (HandSPX.excO C hp.objs.size)).get? b = some o := fun b o e => Heap.get?_push_of_some _ (Heap.get?_push_of_some _ e)
  have hget : ((hp.push (kdv_tup [v])).push (HandSPX.excO C hp.objs.size)).get? (hp.objs.size + 1) = some (HandSPX.excO C hp.objs.size) := by heap_get
  have hnx : K.lookup (hp.objs.size + 1) = none := by
    cases e : K.lookup (hp.objs.size + 1) with
    | none => rfl
    | some o => exact absurd (Nat.lt_of_succ_lt (Heap.lt_size (X _ _ e))) (Nat.lt_irrefl _)
  refine call_own F.excBase_ValueError (fun Y => refsVE_contains Y bm hbm) (X _ _ hC) (looks_findIn X T.iC) (fun self => bind_fn X self T.tC) (one_sz v) ?_
  obtain ⟨mb, hb1, hb2⟩ := hbl
  refine x_init (s := ⟨(hp.push (kdv_tup [v])).push (HandSPX.excO C hp.objs.size), g, dr, tk, os⟩) T (X.keeps k) (hg.keeps k) ⟨mb, hb1.keeps k, hb2⟩ (hlim.keeps k) hget hnx ?_ fun h' tk' dx ⟨k', ⟨t1, hx⟩, dn, dne, hns⟩ => ?_
  · show A.depth + 1 < recursionLimit
    exact hroom
  · have old : ∀ b o, hp.get? b = some o → h'.get? b = some o := fun b o e => k' b o (Nat.ne_of_lt (Nat.lt_succ_of_lt (Heap.lt_size e))) (k b o e)
    have z : hp.objs.size + 1 + 1 ≤ dx := by
      first
        | (simpa only [Heap.size_push] using dn)
        | exact dn
        | (have q := dn; rw [Heap.size_push, Heap.size_push] at q; exact q)
    exact ⟨rfl, hq h' tk' (hp.objs.size + 1) dx ⟨old, Nat.le_succ _, ⟨_, _, hx, rfl, rfl, rfl, rfl, rfl⟩, Nat.le_trans (Nat.le_trans (Nat.le_succ _) (Nat.le_succ _)) z, dne, hns⟩⟩
end
end FoX_thing
namespace L2
open PySem PySem.Spec PyProof.Rows
theorem relO_thing {v : V} {v' : Value} (r : RelV v v') (f : Str) : RelO (List.lookup f [((Str.ofString "thing"), v)]) (if f = (Str.ofString "thing") then some v' else none) := by
  by_cases hw : f = (Str.ofString "thing")
  · subst hw
    rw [if_pos rfl]
    have q : List.lookup (Str.ofString "thing") [((Str.ofString "thing"), v)] = some v := by simp [List.lookup]
    rw [q]
    exact r
  · rw [if_neg hw]
    have qw : (f == (Str.ofString "thing")) = false := by simpa using hw
    have q2 : List.lookup f [((Str.ofString "thing"), v)] = none := by simp [List.lookup, qw]
    rw [q2]
    trivial
section
variable {X : Cx} {C fI : Addr} {nm : Str}
/-- Name(e) -/
def tMkX_thing (C : Addr) (ta : TA) : St → Hp → XK → Prop := fun σ H Q => ta σ H fun vs H1 => ∃ v, vs = [v] ∧ ∀ d, H1 d = none → Q (.ref C) (some d) (upd H1 d (.xd [((Str.ofString "thing"), v)]))
theorem pmkN_thing {a : Expr} {ta : TA} {p pos : Pos} {k : Nat} (T : FoX_thing.XTxt X.prog X.K X.mg C fI) (gC : X.mg nm = some (.ref C)) (hr : Room k X.A) (ha : PA X [a] ta) (hg : Gl X nm) (hdb : (nm == ("__debug__" : Str)) = false)
    (he : starEach (a :: []) X.env = (false, eval a X.env) :: starEach [] X.env := by rfl) (hpl : (backTo pos (starEach [] X.env)).any (·.1) = false := by rfl) :
    L2N.PMk X (.Call (.Name nm p) [a] [] pos) (tMkX_thing C ta) := by
  intro pins s σ H Q I h
  refine wpAny_Call_Name_kw (ld_glob I hg gC ?_ hdb)
  refine PySem.W.callWith_K (h₀ := X.base) I.ok.mod.kin T.kC (thn (ha.run pos pins s σ H _ I h) fun us s1 hh => ?_) he hpl
  obtain ⟨vs, H1, I1, r1, v, ev, q1⟩ := hh
  subst ev
  refine ⟨I1.kIn, ?_⟩
  cases r1 with
  | cons rv rn =>
    rename_i v' us'
    cases rn
    show wpAny _ _ (call (.ref C) [v']) _ _ _
    have hlim := I1.nolimit
    have hgl : s1.heap.Ns mainGlobals X.mg := I1.mod.glob.keeps I1.bk
    obtain ⟨mb, hb1, hb2⟩ := I1.mod.blt
    have hbl : ∃ mb, s1.heap.Ns builtinsNs mb ∧ ∀ y : Str, y ≠ "__name__" → mb y = bootBuiltins y := ⟨mb, hb1.keeps I1.bk, hb2⟩
    obtain ⟨hp, g, dr, tk, os⟩ := s1
    refine wpAny_call (FoX_thing.x_made T I1.kIn hgl hbl hlim (by have := hr.dp; omega) fun h' tk' e d M => ?_)
    show L2N.MkP X pins σ Q (.ref e) ⟨h', g, dr, tk', os⟩
    obtain ⟨oe, fv, hoe, hc, hd, hdat, h1, h2⟩ := M.obj
    have hns := M.ns
    obtain ⟨G', g1, g2⟩ := restrict h' fun b => decide (b ≠ e)
    have gk : ∀ b, b ≠ e → G'.get? b = h'.get? b := fun b hb => g1 b (decide_eq_true hb)
    have ge : G'.get? e = none := g2 e (by simp)
    have old : ∀ b o, hp.get? b = some o → G'.get? b = some o := fun b o q => (gk b (Nat.ne_of_lt (Nat.lt_of_lt_of_le (Heap.lt_size q) M.new))).trans (M.keep b o q)
    have ob : ObjOk X.prog X.w (upd H1 d (.xd [((Str.ofString "thing"), v)])) G' d (.xd [((Str.ofString "thing"), v)]) :=
      ⟨_, hns.at (fun o q => (gk d M.dne).trans q), fun f => relO_thing rv f⟩
    have J : Inv X pins σ (upd H1 d (.xd [((Str.ofString "thing"), v)])) ⟨G', g, dr, tk', os⟩ := I1.laid (t' := tk') old M.dbig ob
    refine ⟨e, oe, fv, ⟨G', g, dr, tk', os⟩, _, .ref C, some d, rfl, J, fun b o q => ?_, ge, hoe, ⟨hc, hd, fun vs e => by rw [hdat] at e; cases e; exact h2⟩, hdat, h1, ?_, rfl, I1.bare, raises_own T.exC T.tyC, q1 d (I1.hok.fresh M.dbig)⟩
    · by_cases hb : b = e
      · have q' : G'.get? b = some o := q
        rw [hb, ge] at q'; cases q'
      · exact (gk b hb).symm.trans q
    · rw [upd_ne (Ne.symm M.dne)]
      exact I1.hok.fresh M.new
theorem pmk_thing {a : Expr} {ta : TA} {p pos : Pos} {k : Nat} (T : FoX_thing.XTxt X.prog X.K X.mg C fI) (gC : X.mg nm = some (.ref C)) (hr : Room k X.A) (ha : PA X [a] ta) (hg : Gl X nm) (hdb : (nm == ("__debug__" : Str)) = false)
    (he : starEach (a :: []) X.env = (false, eval a X.env) :: starEach [] X.env := by rfl) (hpl : (backTo pos (starEach [] X.env)).any (·.1) = false := by rfl) :
    PMk X (.Call (.Name nm p) [a] [] pos) (tMkX_thing C ta) := by
  intro pins s σ H Q I h
  refine wpAny_mono (pmkN_thing T gC hr ha hg hdb he hpl pins s σ H Q I h) (fun u s' z => ?_) fun _ _ x => x
  obtain ⟨e, oe, vs, sI, H', cls, d, r1, r2, r3, r4, r5, r6, r7⟩ := z
  exact ⟨e, oe, vs, sI, H', cls, d, r1, r2, r3, r4, r5, r6.zc, r7⟩
/-- raise Name(e) -/
def tRaiseX_thing (C : Addr) (W : WX) (ta : TA) : TS := fun _ σ H => tMkX_thing C ta σ H fun cls d H' => W cls d σ H'
theorem ps_raise_thing {a : Expr} {ta : TA} {W : WX} {p pos pos2 : Pos} {k : Nat} (hc : X.calm = true) (T : FoX_thing.XTxt X.prog X.K X.mg C fI) (gC : X.mg nm = some (.ref C)) (hr : Room k X.A) (tk : Takes X W) (ha : PA X [a] ta) (hg : Gl X nm := by rfl) (hdb : (nm == ("__debug__" : Str)) = false := by decide)
    (he : starEach (a :: []) X.env = (false, eval a X.env) :: starEach [] X.env := by rfl) (hpl : (backTo pos (starEach [] X.env)).any (·.1) = false := by rfl) :
    PS X (.Raise (some (.Call (.Name nm p) [a] [] pos)) none pos2) (tRaiseX_thing C W ta) := ps_raise hc tk (pmk_thing T gC hr ha hg hdb he hpl)
theorem ps_raiseN_thing {a : Expr} {ta : TA} {W : WX} {p pos pos2 : Pos} {k : Nat} (hc : X.calm = true) (T : FoX_thing.XTxt X.prog X.K X.mg C fI) (gC : X.mg nm = some (.ref C)) (hr : Room k X.A) (tk : L2N.Takes X W) (ha : PA X [a] ta) (hg : Gl X nm := by rfl) (hdb : (nm == ("__debug__" : Str)) = false := by decide)
    (he : starEach (a :: []) X.env = (false, eval a X.env) :: starEach [] X.env := by rfl) (hpl : (backTo pos (starEach [] X.env)).any (·.1) = false := by rfl) :
    PS X (.Raise (some (.Call (.Name nm p) [a] [] pos)) none pos2) (tRaiseX_thing C W ta) := L2N.ps_raise hc tk (pmkN_thing T gC hr ha hg hdb he hpl)
/-- e.field, e the error that the suite holds (at a; its class cls, its dict d) -/
def tByX_thing (C : Addr) (a : Addr) (cls : Value) (d : Option Addr) (te : TE) : TE := fun σ H Q => te σ H fun x H1 => x = .ref a ∧ cls = .ref C ∧ ∃ (dd : Addr) (v : V), d = some dd ∧ H1 dd = some (.xd [((Str.ofString "thing"), v)]) ∧ Q v H1
theorem pe_by_thing {a : Addr} {oe : Obj} {cls : Value} {d : Option Addr} {pn : List (Addr × Obj)} {e : Expr} {te : TE} {pos : Pos} (T : FoX_thing.XTxt X.prog X.K X.mg C fI) (hz : Zc cls d oe) (hf : ∃ vs, oe.data = .fields vs) (he : PE (X.suite a ((a, oe) :: pn)) e te)
    (hb : attributeBase e (Str.ofString "thing") X.env (eval e X.env) = eval e X.env := by rfl) :
    PE (X.suite a ((a, oe) :: pn)) (.Attribute e (Str.ofString "thing") pos) (tByX_thing C a cls d te) := by
  refine ⟨fun pins s σ H Q I h => ?_⟩
  refine attr_of hb (thn (he.run pins s σ H _ I h) fun u s1 hh => ?_)
  obtain ⟨x, H1, I1, rx, ex, ec, dd, v, ed, ea, q⟩ := hh
  subst ex
  obtain rfl : u = Value.ref a := rx
  subst ec
  subst ed
  obtain ⟨ha, _⟩ := I1.pin (a, oe) (List.mem_append_left _ List.mem_cons_self)
  obtain ⟨vs, hd⟩ := hf
  have hx : ObjOk X.prog X.w H1 s1.heap dd (.xd [((Str.ofString "thing"), v)]) := I1.hok dd _ ea
  obtain ⟨mA, hns, hr⟩ := hx
  obtain ⟨od, ho, hl⟩ := lookIn_ns hns
  have l : List.lookup (Str.ofString "thing") [((Str.ofString "thing"), v)] = some v := by simp [List.lookup]
  obtain ⟨u, hu, ru⟩ := RelO.some_of (v := v) (o := mA (Str.ofString "thing")) (by rw [← l]; exact hr (Str.ofString "thing"))
  have J : PySem.W.InstAt s1.heap a oe C (some od) := ⟨ha, hz.1, by unfold PySem.W.notCls; rw [hd] <;> rfl, by rw [hz.2]; exact ho⟩
  exact HandSPX.exc_get I1.kIn J T.ga T.gg T.exC (PySem.W.findObj_own T.hdC T.noN rfl (by rw [hl, hu])) (handed_of ru) ⟨v, H1, I1.tok _, ru, q⟩
end
end L2
set_option Elab.async false
set_option linter.all false
set_option maxRecDepth 100000
set_option maxHeartbeats 2000000
/-! promises joined; a def called within an except suite with the error -/
namespace L2
open PySem PySem.Spec PyProof.Rows
section
variable {P : Program} {w : World} {K : PySem.W.Frag} {mg : Str → Option Value} {base : Heap} {k j : Nat} {f : Addr} {fd : FuncData} {ps : List Str} {sp sp' : Sp}
theorem FnOk.or {CX : CXT} (a : FnOk P w K mg base CX k f fd ps sp) (b : FnOk P w K mg base CX k f fd ps sp') : FnOk P w K mg base CX k f fd ps (fun vs H Q E => sp vs H Q E ∨ sp' vs H Q E) :=
  ⟨fun vs H Q E h => h.elim (a.len vs H Q E) (b.len vs H Q E), fun A outer s H args us vs Q E hr e0 hb r h => h.elim (a.run A outer s H args us vs Q E hr e0 hb r) (b.run A outer s H args us vs Q E hr e0 hb r)⟩
theorem FnOk.up {CX : CXT} (a : FnOk P w K mg base CX0 k f fd ps sp) : FnOk P w K mg base CX k f fd ps sp :=
  ⟨a.len, fun A outer s H args us vs Q E hr e0 hb r h => codeAny_mono (a.run A outer s H args us vs Q E hr e0 hb r h) fun r s' z => by
    cases r with
    | error e => exact False.elim z
    | ok fl => cases fl <;> exact z⟩
theorem FnOk.lift {CX : CXT} (a : FnOk P w K mg base CX k f fd ps sp) (h : k ≤ j) : FnOk P w K mg base CX j f fd ps sp :=
  ⟨a.len, fun A outer s H args us vs Q E hr e0 hb r => a.run A outer s H args us vs Q E (hr.mono h) e0 hb r⟩
end
/-- what a def promises that is called within an except suite, the error (at p) among its arguments, where nothing is being shown -/
structure FnE (P : Program) (w : World) (K : PySem.W.Frag) (mg : Str → Option Value) (base : Heap) (k : Nat) (f : Addr) (fd : FuncData) (ps : List Str) (sp : Addr × Obj → Sp) : Prop where
  len : ∀ p vs H Q E, sp p vs H Q E → vs.length = ps.length
  run : ∀ (A : Around), A.guards = some [] → ∀ (outer : List Env) (s : Shared) (H : Hp) (args : Args) (us : List Value) (vs : List V) (Q : VK) (E : XK) (p : Addr × Obj), L2H.RoomH k A → L2H.PinOk outer H s p → Env0 P w K mg base A outer s H → BindsTo s fd args (ps.zip us) → Vals vs us → sp p vs H Q E →
    codeAny (model P w) A (.call (.ref f) args) (CR CX0 outer P w H s Q E) s
section
variable {P : Program} {w : World} {K : PySem.W.Frag} {mg : Str → Option Value} {base : Heap}
theorem Fun.okE {x qual : Str} {st : Stmt} {f : Addr} {fd : FuncData} {N ps : List Str} {k : Nat} {sp : Addr × Obj → Sp} (F : Fun K x qual st f fd) (S : FnScope N ps (defScope st)) (len : ∀ p vs H Q E, sp p vs H Q E → vs.length = ps.length)
    (walk : ∀ (cdv : Value) (A : Around) (outer : List Env) (s : Shared) (H : Hp) (vs : List V) (Q : VK) (E : XK) (p : Addr × Obj), A.guards = some [] → L2H.RoomH k (A.deeper (envOfC qual (defScope st) s.heap.objs.size f cdv)) → sp p vs H Q E →
      ∃ t, PSs (L2H.cxH CX0 P w K mg base N qual (defScope st) f cdv A outer s H E p).nox (defBody st) t ∧ t { nx := fun _ H' => Q .non H', rt := Q } (start N vs) H) : FnE P w K mg base (k + 1) f fd ps sp := by
  obtain ⟨oc, od, kV, doc, pm, an, cdv, ct, osl, rfl, lk, hcd⟩ := F.ex
  refine ⟨len, fun A hgd outer s H args us vs Q E p room hpin env bind rel want => ?_⟩
  have inB : ∀ b o, base.get? b = some o → s.heap.get? b = some o := fun b o z => (env.bs b o z).1
  have inK := env.mod.kin.keeps inB
  have kinds : ∀ y ∈ ps.zip us, (defScope st).names.lookup y.1 = some .local ∨ ((defScope st).names.lookup y.1 = some .cell ∧ ((cellsFrom (s.heap.objs.size + 1) (defScope st).names []).lookup y.1).isSome = true) := by
    rintro ⟨n, v⟩ hy
    exact (S.par n (List.of_mem_zip hy).1).imp id fun q => ⟨q, PySem.W.cellsFrom_some _ _ _ (.inl q)⟩
  refine codeAny_call_function room.depth (inK _ _ lk) rfl S.co S.gen rfl (PySem.W.codeRec_of inK hcd) (bind _ _ _ _ (wpAny_newFunctionEnv_cells S.kind kinds ?_))
  rintro _ rfl s1 entry
  refine ⟨(env.mod.nolimit.keeps inB).keeps entry.toInCall.keep, codeAny_func ?_⟩
  obtain ⟨t, body, told⟩ := walk cdv A outer s H vs Q E p hgd (room.deeper _) want
  have start0 : Inv (L2H.cxH CX0 P w K mg base N qual (defScope st) f cdv A outer s H E p) [] (L2.start N vs) H s1 := L2H.inv_startH S hpin env (len _ _ _ _ _ want) rel entry
  refine wpAny_mono (body.nox.run [] s1 (start N vs) H _ start0 told) ?_ fun _ _ z => z
  intro fl s' z
  cases fl with
  | ret u =>
    obtain ⟨v, σ', H', J, rv, q⟩ := z
    exact ⟨v, H', J.os, J.bare, J.base, J.hok, rv, q⟩
  | next =>
    obtain ⟨σ', H', J, q⟩ := z
    exact ⟨.non, H', J.os, J.bare, J.base, J.hok, rfl, q⟩
  | brk => exact z.elim fun _ z => z.elim fun _ z => z.2.elim
  | cont => exact z.elim fun _ z => z.elim fun _ z => z.2.elim
end
section
variable {X : Cx} {k : Nat} {f : Addr} {fd : FuncData} {ps : List Str} {sp : Addr × Obj → Sp} {x : Str} {q pos : Pos} {e : Expr} {es : List Expr} {t : TA} {p : Addr × Obj}
theorem pe_callE {sp' : Sp} (hsp : ∀ vs H Q, sp' vs H Q E0 → sp p vs H Q E0) (F : FnE X.prog X.w X.K X.mg X.base k f fd ps sp) (hgd : X.A.guards = some []) (hr : L2H.RoomH k X.A) (hp : p ∈ X.pn) (hg : Gl X x) (hm : X.mg x = some (.ref f)) (hk : PySem.W.keepIn X.K (.ref f) = true) (hb : Binds X.K fd ps [])
    (ha : PA X (e :: es) t) (hdb : (x == ("__debug__" : Str)) = false := by decide) (he : starEach (e :: es) X.env = (false, eval e X.env) :: starEach es X.env := by rfl) (hpl : (backTo pos (starEach es X.env)).any (·.1) = false := by rfl) :
    PE X (.Call (.Name x q) (e :: es) [] pos) (tCall sp' [] E0 t) := by
  constructor
  intro pins s σ H Q I h
  refine wpAny_Call_Name_kw (ld_glob I hg hm (PySem.W.callWith_K (h₀ := X.base) I.ok.mod.kin hk (thn (ha.run pos pins s σ H _ I h) ?_) he hpl) hdb)
  rintro us s1 ⟨vs, H1, I1, rel, want⟩
  refine ⟨I1.kIn, ?_⟩
  rw [List.append_nil] at want
  replace want := hsp _ _ _ want
  have ln : us.length = ps.length := rel.length.symm.trans (F.len _ _ _ _ _ want)
  have bnd := hb s1 us I1.kIn (by rw [List.append_nil]; exact ln)
  rw [List.append_nil] at bnd
  have P1 := I1.pin p (List.mem_append_left _ hp)
  have hpin : L2H.PinOk X.stack H1 s1 p := ⟨P1.1, P1.2.1, fun hm => (List.mem_cons.mp (I1.stkSub p.1 hm)).elim P1.2.2.1 P1.2.2.2.1, P1.2.2.2.2⟩
  refine wpAny_call (codeAny_mono (F.run X.A hgd X.stack s1 H1 ⟨us, []⟩ us vs Q E0 p hr hpin I1.env0 bnd rel want) ?_)
  intro r s' z
  rcases r with e | (u | _ | _ | _)
  all_goals first | exact I1.after z | exact False.elim z
end
/-- isinstance(e, c), e an error that is pinned -/
theorem call_isP {X : Cx} {a : Addr} {oe : Obj} {cls : Value} {d : Option Addr} (hp : (a, oe) ∈ X.pn) (hz : Zc cls d oe) (hf : ∃ vs, oe.data = .fields vs) : CallR X (.builtin "isinstance") (rIsX X.K a cls d) := by
  intro pins s σ H xs us Q I r h
  obtain ⟨D, dd, fs, c, cv, b, rfl, rfl, rfl, hdd, hcv, T, e, q⟩ := h
  obtain ⟨u1, u2, rfl, r1, r2⟩ := vals2 r
  obtain rfl : u1 = Value.ref a := r1
  obtain rfl := hcv.eq r2
  obtain ⟨ha, _⟩ := I.pin (a, oe) (List.mem_append_left _ hp)
  obtain ⟨vs, hd⟩ := hf
  obtain ⟨mA, hns, _⟩ := (show ObjOk X.prog X.w H s.heap dd (.xd fs) from I.hok dd _ hdd)
  obtain ⟨od, ho, _⟩ := lookIn_ns hns
  have J : PySem.W.InstAt s.heap a oe D (some od) := ⟨ha, hz.1, by unfold PySem.W.notCls; rw [hd] <;> rfl, by rw [hz.2]; exact ho⟩
  have hcl : (PySem.W.clsIn X.K D).isSome = true := by
    obtain ⟨cd, hc, _⟩ := PySem.W.any_some T.hd
    rw [hc]
    rfl
  exact PySem.W.kia_one (PySem.W.kitx_exc hcl T.hg T.hk T.hs T.ha T.hn T.ht T.hm) I.kIn J e (fun z => nomatch z) fun tk => ⟨.bl b, H, I.kept (t' := tk) fun _ _ z => z, rfl, q⟩
/-- e.thing of such a one -/
def tByP (P : Program) (K : PySem.W.Frag) (mg : Str → Option Value) (a : Addr) (cls : Value) (d : Option Addr) (te : TE) : TE := fun σ H Q => te σ H fun x H1 => x = .ref a ∧ ∃ C fI : Addr, FoX_thing.XTxt P K mg C fI ∧ cls = .ref C ∧ ∃ (dd : Addr) (v : V), d = some dd ∧ H1 dd = some (.xd [((Str.ofString "thing"), v)]) ∧ Q v H1
theorem pe_byP {X : Cx} {a : Addr} {oe : Obj} {cls : Value} {d : Option Addr} {e : Expr} {te : TE} {pos : Pos} (hp : (a, oe) ∈ X.pn) (hz : Zc cls d oe) (hf : ∃ vs, oe.data = .fields vs) (he : PE X e te)
    (hb : attributeBase e (Str.ofString "thing") X.env (eval e X.env) = eval e X.env := by rfl) :
    PE X (.Attribute e (Str.ofString "thing") pos) (tByP X.prog X.K X.mg a cls d te) := by
  refine ⟨fun pins s σ H Q I h => ?_⟩
  refine attr_of hb (thn (he.run pins s σ H _ I h) fun u s1 hh => ?_)
  obtain ⟨x, H1, I1, rx, ex, C, fI, T, ec, dd, v, ed, ea, q⟩ := hh
  subst ex
  obtain rfl : u = Value.ref a := rx
  subst ec
  subst ed
  obtain ⟨ha, _⟩ := I1.pin (a, oe) (List.mem_append_left _ hp)
  obtain ⟨vs, hd⟩ := hf
  have hx : ObjOk X.prog X.w H1 s1.heap dd (.xd [((Str.ofString "thing"), v)]) := I1.hok dd _ ea
  obtain ⟨mA, hns, hr⟩ := hx
  obtain ⟨od, ho, hl⟩ := lookIn_ns hns
  have l : List.lookup (Str.ofString "thing") [((Str.ofString "thing"), v)] = some v := by simp [List.lookup]
  obtain ⟨u, hu, ru⟩ := RelO.some_of (v := v) (o := mA (Str.ofString "thing")) (by rw [← l]; exact hr (Str.ofString "thing"))
  have J : PySem.W.InstAt s1.heap a oe C (some od) := ⟨ha, hz.1, by unfold PySem.W.notCls; rw [hd] <;> rfl, by rw [hz.2]; exact ho⟩
  exact HandSPX.exc_get I1.kIn J T.ga T.gg T.exC (PySem.W.findObj_own T.hdC T.noN rfl (by rw [hl, hu])) (handed_of ru) ⟨v, H1, I1.tok _, ru, q⟩
end L2
set_option Elab.async false
set_option linter.all false
set_option maxRecDepth 100000
set_option maxHeartbeats 2000000
/-! xs != [] of any items; loops over enumerate(xs) -/
namespace L2
open PySem PySem.Spec PyProof.Rows
section
variable {X : Cx}
def rNeNil : R2 := fun x y H Q => ∃ (a b : Addr) (xs : List V), x = .ref a ∧ y = .ref b ∧ H a = some (.lst xs) ∧ H b = some (.lst []) ∧ Q (.bl (!xs.isEmpty)) H
theorem op_neNil (hu : X.A.units < cLine) : OpR X (compareOp .NotEq) rNeNil := by
  intro pins s σ H x y v u Q I rx ry h
  obtain ⟨a, b, xs, rfl, rfl, ha, hb, q⟩ := h
  obtain rfl : v = Value.ref a := rx
  obtain rfl : u = Value.ref b := ry
  obtain ⟨_, its, n1, r1, e1⟩ := (show ObjOk X.prog X.w H s.heap a (.lst xs) from I.hok a _ ha)
  obtain ⟨_, its2, n2, r2, e2⟩ := (show ObjOk X.prog X.w H s.heap b (.lst []) from I.hok b _ hb)
  have l1 := r1.length
  have l2 := r2.length
  have hl1 : s.heap.IsList a its.toArray := ⟨_, e1, rfl, _, rfl⟩
  have hl2 : s.heap.IsList b its2.toArray := ⟨_, e2, rfl, _, rfl⟩
  have z2 : its2.length = 0 := by rw [← l2]; rfl
  cases xs with
  | nil =>
    have z1 : its.length = 0 := by rw [← l1]; rfl
    have k := PySem.SeqAt.RcNeAt.lists (A := X.A) (s := s) (e := fun _ => true) hl1 hl2 (by simp [z1, z2]) hu (fun j h1 h2 => by simp [z1] at h1)
    have e : (!(List.range its.toArray.size).all fun _ => true) = false := by simp
    rw [e] at k
    exact k X.prog X.w X.xe _ ⟨.bl false, H, I, rfl, q⟩
  | cons y ys =>
    have z1 : its.length = ys.length + 1 := by rw [← l1]; rfl
    have k := PySem.SeqAt.RcNeAt.lists_lengths (A := X.A) (s := s) hl1 hl2 (by simp [z1, z2]) hu
    exact k X.prog X.w X.xe _ ⟨.bl true, H, I, rfl, q⟩
end
/-- a loop over enumerate of a list -/
theorem for_enumL {K : PySem.W.Frag} {a : Addr} {xs : List V} {g : TG} {tb : TS} {D : Ends} {σ : L2.St} {H : Hp} (Pv : Nat → L2.St → Hp → Prop) (h0 : Pv 0 σ H) (hq : ∀ i σ H, Pv i σ H → SqL K H a xs)
    (hs : ∀ (i : Nat) (x : V) (T : Addr) (σ : L2.St) (H : Hp), xs[i]? = some x → Pv i σ H → H T = none → g (.ref T) σ (upd H T (.tup [.int (i : Nat), x])) fun σ2 H2 => tb { D with nx := Pv (i + 1), ct := Pv (i + 1), bk := D.nx } σ2 H2) (hd : ∀ σ H, Pv xs.length σ H → D.nx σ H) :
    ∃ W : Nat → Nat → L2.St → Hp → Prop, (∃ m, W 0 m σ H) ∧ ∀ i m σ H, W i m σ H →
      ((Ite K a).stop i H ∧ D.nx σ H) ∨ ((Ite K a).go i H ∧ ∃ N : L2.St → Hp → Prop, (∀ σ' H', N σ' H' → ∃ m', m' < m ∧ W (i + 1) m' σ' H') ∧ ∀ v H', (Ite K a).yld i H v H' → g v σ H' fun σ2 H2 => tb { D with nx := N, ct := N, bk := D.nx } σ2 H2) := by
  refine ⟨fun i m σ H => m = xs.length - i ∧ i ≤ xs.length ∧ Pv i σ H, ⟨xs.length, rfl, Nat.zero_le _, h0⟩, ?_⟩
  rintro i m σ H ⟨rfl, hi, p⟩
  have qx := hq i σ H p
  by_cases hlt : i < xs.length
  · have hx : xs[i]? = some xs[i] := List.getElem?_eq_getElem hlt
    refine .inr ⟨⟨xs, _, qx, hx⟩, Pv (i + 1), fun σ' H' p' => ⟨xs.length - (i + 1), by omega, rfl, hlt, p'⟩, fun v H' y => ?_⟩
    obtain ⟨T, x', rfl, hT, rfl, f1⟩ := y
    exact hs i x' T σ H (f1 xs qx) p hT
  · have e : i = xs.length := by omega
    subst e
    exact .inl ⟨⟨xs, qx, Nat.le_refl _⟩, hd σ H p⟩
end L2
set_option Elab.async false
set_option linter.all false
set_option maxRecDepth 100000
set_option maxHeartbeats 2000000
namespace FoX_number
open PySem PySem.W PySem.Calls PyProof.Rows PySem.HandSPX FoX
/-- the text of such an __init__ -/
def xB (msg : Str) (a1 a2 a3 a4 a5 a6 q1 q2 q3 q4 : Pos) (j : Nat) : List Stmt :=
  [.Expr (.Call (.Attribute (.Call (.Name "super" a1) [] [] a2) "__init__" a3) [.Constant (.str msg) j a4] [] a5) a6, .Assign [.Attribute (.Name "self" q1) (Str.ofString "number") q2] (.Name (Str.ofString "number") q3) q4]
def xS : Scope := { kind := .function, names := [(Str.ofString "self", .local), ((Str.ofString "number"), .local), (Str.ofString "__class__", .free), (Str.ofString "super", .globalImplicit)], isGenerator := false, isCoroutine := false, more := [] }
def xA (p1 p2 : Pos) : Arguments := { posonlyargs := [], args := [{ arg := "self", annotation := none, pos := p1 }, { arg := (Str.ofString "number"), annotation := none, pos := p2 }], vararg := none, kwonlyargs := [], kw_defaults := [], kwarg := none, defaults := [] }
/-- what the written part says of the class at C and its __init__ at fI -/
structure XTxt (P : Program) (K : Frag) (mg : Str → Option Value) (C fI : Addr) : Prop where
  cls : ∃ nm q N bs bm sn sub ab col dd k0 k1 k2 k3 k5, K.lookup C = some (excClassObj nm q C N bs bm true sn sub ab col dd k0 k1 k2 k3 k5 "ValueError.__new__") ∧ refsVE bm = true
  sa : findIn K (.ref C) "__setattr__" = some (some (.builtin "object.__setattr__"))
  ga : findIn K (.ref C) "__getattribute__" = some (some (.builtin "BaseException.__getattribute__"))
  gg : findIn K (.ref C) "__getattr__" = some none
  noN : findIn K (.ref C) (Str.ofString "number") = some none
  iC : findIn K (.ref C) "__init__" = some (some (.ref fI))
  tC : typeIn K (.ref fI) = some (.type "function")
  kC : keepIn K (.ref C) = true
  exC : subIn K (.ref C) (.type "BaseException") = some true
  tyC : typeIn K (.ref C) = some (.type "type")
  hdC : hasDictIn K C = true
  sup : ks_superIn K C C "__init__" = some (some (.builtin "ValueError.__init__"))
  tp : nsIn K cStatics "thirdparty.any" = some none
  zs : mg "super" = none
  ve : subIn K (.ref C) (.type "ValueError") = some true
  mr : mroIn K C (.ref C) = some true
  top : (P.main.scope.names.lookup ("super" : Str)).isSome = false
  fn : ∃ (qual msg : Str) (oc : Value) (od : Option Addr) (doc pm kV : Value) (an : Option Addr) (cc cda : Addr) (ct : Value) (osl : Array (Option Value)) (p1 p2 a1 a2 a3 a4 a5 a6 q1 q2 q3 q4 : Pos) (j : Nat) (ccl cl : Value) (cdd cld : Option Addr) (vs : Array Value) (ccs csl : Array (Option Value)) (file : Str) (tf : Tok),
    K.lookup fI = some ⟨oc, od, .func (ksFn "__init__" qual (xA p1 p2) (xB msg a1 a2 a3 a4 a5 a6 q1 q2 q3 q4 j) xS .none kV doc pm an (.ref cda) ct cc), osl⟩ ∧ codeIn K (.ref cda) qual = true ∧
    K.lookup cda = some ⟨ccl, cdd, .fields vs, ccs⟩ ∧ vs[2]? = some (.str file tf) ∧ ((P.main.file : Str) == file) = true ∧ (a3.endLine == a5.line) = true ∧ K.lookup cc = some ⟨cl, cld, .cell (some (.ref C)), csl⟩
theorem xcel : ∀ y ∈ xS.names, y.2 ≠ .cell := by decide
/-- the call of super's method, its tree -/
theorem x_tree (msg : Str) (a1 a2 a3 a4 a5 : Pos) (j : Nat) (env : Env) (hl : (a3.endLine == a5.line) = true) : eval (.Call (.Attribute (.Call (.Name "super" a1) [] [] a2) "__init__" a3) [.Constant (.str msg) j a4] [] a5) env = (do
      let ov ← attributeBase (.Call (.Name "super" a1) [] [] a2) "__init__" env (eval (.Call (.Name "super" a1) [] [] a2) env)
      standAt a3.atName
      let (f, first) ← holding [ov] (getMethod ov "__init__" (do return (← importBound (.Call (.Name "super" a1) [] [] a2) env).getD true))
      callWith a5 f first (backTo a5 (starEach [.Constant (.str msg) j a4] env)) []) := by
  rw [arm_eval_Call]
  unfold methodCall methodCallPos
  simp only [hl, Bool.or_true, if_true]
  rfl
/-- what __init__ leaves of a fresh error at x -/
structure XEnd (h h' : Heap) (x C dx : Addr) (v : Value) : Prop where
  keep : ∀ b o, b ≠ x → h.get? b = some o → h'.get? b = some o
  obj : ∃ t1 : Addr, h'.get? x = some { cls := .ref C, dict := some dx, data := .fields #[.ref t1, .none, .none, .none, .bool false, .none] }
  dbig : h.objs.size ≤ dx
  dne : dx ≠ x
  ns : h'.Ns1 dx (fun y => if y = (Str.ofString "number") then some v else none)
section
variable {prog : Program} {w : World} {A : Around} {E : Value → Shared → Prop} {R : Result → Shared → Prop} {s : Shared} {K : Frag} {mg : Str → Option Value} {C fI : Addr}
theorem x_init (T : XTxt prog K mg C fI) {x t0 : Addr} {v : Value} (X : K.In s.heap) (hg : s.heap.Ns mainGlobals mg) (hbl : ∃ mb, s.heap.Ns builtinsNs mb ∧ ∀ y : Str, y ≠ "__name__" → mb y = bootBuiltins y) (hlim : s.heap.NoLimit)
    (hx : s.heap.get? x = some (HandSPX.excO C t0)) (hnx : K.lookup x = none) (hroom : A.depth < recursionLimit) (hq : ∀ h' tk dx, XEnd s.heap h' x C dx v → R (.ok (.ret .none)) { s with heap := h', toks := tk }) :
    codeAny (model prog w) A (.call (.ref fI) ⟨[.ref x, v], []⟩) R s := by
  obtain ⟨qual, msg, oc, od, doc, pm, kV, an, cc, cda, ct, osl, p1, p2, a1, a2, a3, a4, a5, a6, q1, q2, q3, q4, j, ccl, cl, cdd, cld, vs, ccs, csl, file, tf, ho, hcd, hcode, hvs, hfile, hline, hcell⟩ := T.fn
  obtain ⟨nm, q, N, bs, bm, sn, sub, ab, col, dd, k0, k1, k2, k3, k5, hC, hbm⟩ := T.cls
  have hcl : clsIn K C = some { name := nm, bases := bs, mro := .ref C :: bm, ns := N, qualname := q, hasDict := true, slotNames := sn, subclasses := sub, abstract := ab, collection := col, hasDel := false } := by unfold clsIn; rw [hC] <;> rfl
  obtain ⟨hp, g, d, tk, os⟩ := s
  refine ks_codeAny_call_defAt (fd := ksFn "__init__" qual (xA p1 p2) (xB msg a1 a2 a3 a4 a5 a6 q1 q2 q3 q4 j) xS .none kV doc pm an (.ref cda) ct cc) (body := xB msg a1 a2 a3 a4 a5 a6 q1 q2 q3 q4 j) (binds := [(Str.ofString "self", .ref x), ((Str.ofString "number"), v)]) hroom (X _ _ ho) rfl hlim (codeRec_of X hcd) rfl (BindsTo.of_eq rfl) xcel ?_ (fun h₁ hns k => ?_) rfl rfl rfl
  · intro y hy
    rcases List.mem_cons.mp hy with rfl | hy
    · exact rfl
    · rcases List.mem_cons.mp hy with rfl | hy
      · exact rfl
      · cases hy
  have X₁ : K.In h₁ := X.keeps k
  have hx₁ : h₁.get? x = some (HandSPX.excO C t0) := k _ _ hx
  have I₁ : InstAt h₁ x (HandSPX.excO C t0) C none := ⟨hx₁, rfl, rfl, trivial⟩
  have vself : (fun y : Str => List.lookup y (List.reverse [((Str.ofString "self"), Value.ref x), ((Str.ofString "number"), v)])) (Str.ofString "self") = some (.ref x) := by
    have e : ((Str.ofString "self") == (Str.ofString "number")) = false := by decide +kernel
    simp [List.lookup, e]
  have vfld : (fun y : Str => List.lookup y (List.reverse [((Str.ofString "self"), Value.ref x), ((Str.ofString "number"), v)])) (Str.ofString "number") = some v := by
    simp [List.lookup]
  obtain ⟨mb, hb1, hb2⟩ := hbl
  -- super().__init__(text)
  refine ks_wpAt_execs_cons (ks_wpAt_Expr_any (ks_wpAt_MethodCall ?_ (x_tree msg a1 a2 a3 a4 a5 j _ hline)) rfl rfl)
  refine ks_wpAt_super_base (f := fI) (fd := ksFn "__init__" qual (xA p1 p2) (xB msg a1 a2 a3 a4 a5 a6 q1 q2 q3 q4 j) xS .none kV doc pm an (.ref cda) ct cc) (ar := { arg := "self", annotation := none, pos := p1 }) rfl rfl rfl rfl (X₁ _ _ ho) rfl rfl rfl (X₁ _ _ hcode) rfl hvs hfile T.top ?_
  refine ks_loadName_global rfl rfl (loadGlobal_builtin (hg.keeps k) T.zs (hb1.keeps k) ((hb2 _ (by decide +kernel)).trans (by decide +kernel)) ⟨rfl, ?_⟩)
  refine wpAny_loadName_free rfl rfl rfl ⟨_, X₁ _ _ hcell, rfl⟩ ?_
  refine wpAny_loadName_local rfl rfl hns vself ?_
  obtain ⟨oD, hD1, hD2⟩ : ∃ oD, h₁.get? C = some oD ∧ oD.data = .cls { name := nm, bases := bs, mro := .ref C :: bm, ns := N, qualname := q, hasDict := true, slotNames := sn, subclasses := sub, abstract := ab, collection := col, hasDel := false } := ⟨_, X₁ _ _ hC, rfl⟩
  refine ks_wpAny_isType_cls hD1 hD2 ⟨rfl, ?_⟩
  refine ks_wpAny_call_super hD1 hD2 hx₁ rfl (fun c e => by cases e) (looks_mroIn X₁ T.mr) (fun h₂ e₂ k₂ => ?_)
  have X₂ : K.In h₂ := X₁.keeps k₂
  have hx₂ : h₂.get? x = some (HandSPX.excO C t0) := k₂ _ _ hx₁
  have I₂ : InstAt h₂ x (HandSPX.excO C t0) C none := ⟨hx₂, rfl, rfl, trivial⟩
  have hsup := T.sup
  unfold ks_superIn at hsup
  rw [hcl] at hsup
  have hmro : Looks (model prog w) h₂ (mroOf (.ref C)) (.ref C :: bm) := (looks_clsIn X₂ hcl).andThen .now
  refine kxs_getMethod kxs_ValueError e₂ (looks_opaque X₂ T.tp) hmro rfl X₂ hsup (I₂.type.andThen (looks_subIn X₂ T.ve)) (ks_ne X₂ I₂ hcl) rfl ?_
  -- the wrapper called
  have hk₃ : ∀ b o, h₂.get? b = some o → (h₂.push (kxs_mw "ValueError.__init__" x)).get? b = some o := fun b o e => Heap.get?_push_of_some _ e
  have hu₃ : (h₂.push (kxs_mw "ValueError.__init__" x)).get? h₂.objs.size = some (kxs_mw "ValueError.__init__" x) := Heap.get?_push_at rfl rfl
  refine kxs_callWith (i := "ValueError.__init__") (x := x) rfl (evalArgs_plain (Calls.spliced_cons (Calls.Constant_str (pos := a4) (k := j) (Calls.spliced_nil ⟨hu₃, ?_⟩))))
  refine mw_call (X₂.keeps hk₃ _ _ hC) (hk₃ _ _ hx₂) hu₃ (one_sz _) (fun h₄ t1 k₄ hx₄ => ?_)
  have kall : ∀ b o, b ≠ x → hp.get? b = some o → h₄.get? b = some o := fun b o hb e => k₄ b o hb (hk₃ b o (k₂ b o (k b o e)))
  have xC : x ≠ C := ks_ne X₂ I₂ hcl
  have X₄ : K.In h₄ := fun b o e => kall b o (fun z => by rw [z, hnx] at e; cases e) (X b o e)
  have hL : hp.objs.size ≠ x := Nat.ne_of_gt (Heap.lt_size hx)
  have hns₄ : h₄.Ns hp.objs.size (fun y => List.lookup y (List.reverse [((Str.ofString "self"), Value.ref x), ((Str.ofString "number"), v)])) := by
    obtain ⟨oL, es, ep, hoL, r⟩ := hns
    exact ⟨oL, es, ep, k₄ _ _ hL (hk₃ _ _ (k₂ _ _ hoL)), r⟩
  -- self.field = field
  refine wpAt_of_wpAny ?_
  refine wpAny_execs_cons (plainObj_wpAny_Assign_Attribute ?_)
  refine wpAny_Name (wpAny_loadName_local rfl rfl hns₄ vfld (wpAny_Name (wpAny_loadName_local rfl rfl hns₄ vself ?_) (by decide))) (by decide)
  refine set_plain X₄ (ox := HandSPX.excO C t1) (od := none) ⟨hx₄, rfl, rfl, trivial⟩ T.sa ?_
  refine exc_osa X₄ hx₄ hcl (show refsVE (.ref C :: bm) = true from hbm) rfl T.noN (fun h₅ tk₅ dx k₅ dn dne hx₅ hn₅ => ?_)
  refine wpAny_execs_nil (hq h₅ tk₅ dx ⟨fun b o hb e => k₅ b o hb (kall b o hb e), ⟨t1, hx₅⟩, ?_, dne, hn₅⟩)
  have z1 : hp.objs.size < h₄.objs.size := hns₄.lt
  exact Nat.le_of_lt (Nat.lt_of_lt_of_le z1 dn)
/-- a made error -/
structure XMade (h h' : Heap) (e C d : Addr) (v : Value) : Prop where
  keep : ∀ b o, h.get? b = some o → h'.get? b = some o
  new : h.objs.size ≤ e
  obj : ∃ oe vs, h'.get? e = some oe ∧ oe.cls = .ref C ∧ oe.dict = some d ∧ oe.data = .fields vs ∧ vs[1]? = some .none ∧ vs[2]? = some .none
  dbig : h.objs.size ≤ d
  dne : d ≠ e
  ns : h'.Ns1 d (fun y => if y = (Str.ofString "number") then some v else none)
theorem x_made (T : XTxt prog K mg C fI) {v : Value} (X : K.In s.heap) (hg : s.heap.Ns mainGlobals mg) (hbl : ∃ mb, s.heap.Ns builtinsNs mb ∧ ∀ y : Str, y ≠ "__name__" → mb y = bootBuiltins y) (hlim : s.heap.NoLimit) (hroom : A.depth + 1 < recursionLimit)
    (hq : ∀ h' tk e d, XMade s.heap h' e C d v → R (.ok (.ret (.ref e))) { s with heap := h', toks := tk }) : codeAny (model prog w) A (.call (.ref C) ⟨[v], []⟩) R s := by
  obtain ⟨nm, q, N, bs, bm, sn, sub, ab, col, dd, k0, k1, k2, k3, k5, hC, hbm⟩ := T.cls
  obtain ⟨hp, g, dr, tk, os⟩ := s
  have k : ∀ b o, hp.get? b = some o → ((hp.push (kdv_tup [v])).push (HandSPX.excO C hp.objs.size)).get? b = some o := fun b o e => Heap.get?_push_of_some _ (Heap.get?_push_of_some _ e)
  have hget : ((hp.push (kdv_tup [v])).push (HandSPX.excO C hp.objs.size)).get? (hp.objs.size + 1) = some (HandSPX.excO C hp.objs.size) := by heap_get
  have hnx : K.lookup (hp.objs.size + 1) = none := by
    cases e : K.lookup (hp.objs.size + 1) with
    | none => rfl
    | some o => exact absurd (Nat.lt_of_succ_lt (Heap.lt_size (X _ _ e))) (Nat.lt_irrefl _)
  refine call_own F.excBase_ValueError (fun Y => refsVE_contains Y bm hbm) (X _ _ hC) (looks_findIn X T.iC) (fun self => bind_fn X self T.tC) (one_sz v) ?_
  obtain ⟨mb, hb1, hb2⟩ := hbl
  refine x_init (s := ⟨(hp.push (kdv_tup [v])).push (HandSPX.excO C hp.objs.size), g, dr, tk, os⟩) T (X.keeps k) (hg.keeps k) ⟨mb, hb1.keeps k, hb2⟩ (hlim.keeps k) hget hnx ?_ fun h' tk' dx ⟨k', ⟨t1, hx⟩, dn, dne, hns⟩ => ?_
  · show A.depth + 1 < recursionLimit
    exact hroom
  · have old : ∀ b o, hp.get? b = some o → h'.get? b = some o := fun b o e => k' b o (Nat.ne_of_lt (Nat.lt_succ_of_lt (Heap.lt_size e))) (k b o e)
    have z : hp.objs.size + 1 + 1 ≤ dx := by
      first
        | (simpa only [Heap.size_push] using dn)
        | exact dn
        | (have q := dn; rw [Heap.size_push, Heap.size_push] at q; exact q)
    exact ⟨rfl, hq h' tk' (hp.objs.size + 1) dx ⟨old, Nat.le_succ _, ⟨_, _, hx, rfl, rfl, rfl, rfl, rfl⟩, Nat.le_trans (Nat.le_trans (Nat.le_succ _) (Nat.le_succ _)) z, dne, hns⟩⟩
end
end FoX_number
namespace L2
open PySem PySem.Spec PyProof.Rows
theorem relO_number {v : V} {v' : Value} (r : RelV v v') (f : Str) : RelO (List.lookup f [((Str.ofString "number"), v)]) (if f = (Str.ofString "number") then some v' else none) := by
  by_cases hw : f = (Str.ofString "number")
  · subst hw
    rw [if_pos rfl]
    have q : List.lookup (Str.ofString "number") [((Str.ofString "number"), v)] = some v := by simp [List.lookup]
    rw [q]
    exact r
  · rw [if_neg hw]
    have qw : (f == (Str.ofString "number")) = false := by simpa using hw
    have q2 : List.lookup f [((Str.ofString "number"), v)] = none := by simp [List.lookup, qw]
    rw [q2]
    trivial
section
variable {X : Cx} {C fI : Addr} {nm : Str}
/-- Name(e) -/
def tMkX_number (C : Addr) (ta : TA) : St → Hp → XK → Prop := fun σ H Q => ta σ H fun vs H1 => ∃ v, vs = [v] ∧ ∀ d, H1 d = none → Q (.ref C) (some d) (upd H1 d (.xd [((Str.ofString "number"), v)]))
theorem pmkN_number {a : Expr} {ta : TA} {p pos : Pos} {k : Nat} (T : FoX_number.XTxt X.prog X.K X.mg C fI) (gC : X.mg nm = some (.ref C)) (hr : Room k X.A) (ha : PA X [a] ta) (hg : Gl X nm) (hdb : (nm == ("__debug__" : Str)) = false)
    (he : starEach (a :: []) X.env = (false, eval a X.env) :: starEach [] X.env := by rfl) (hpl : (backTo pos (starEach [] X.env)).any (·.1) = false := by rfl) :
    L2N.PMk X (.Call (.Name nm p) [a] [] pos) (tMkX_number C ta) := by
  intro pins s σ H Q I h
  refine wpAny_Call_Name_kw (ld_glob I hg gC ?_ hdb)
  refine PySem.W.callWith_K (h₀ := X.base) I.ok.mod.kin T.kC (thn (ha.run pos pins s σ H _ I h) fun us s1 hh => ?_) he hpl
  obtain ⟨vs, H1, I1, r1, v, ev, q1⟩ := hh
  subst ev
  refine ⟨I1.kIn, ?_⟩
  cases r1 with
  | cons rv rn =>
    rename_i v' us'
    cases rn
    show wpAny _ _ (call (.ref C) [v']) _ _ _
    have hlim := I1.nolimit
    have hgl : s1.heap.Ns mainGlobals X.mg := I1.mod.glob.keeps I1.bk
    obtain ⟨mb, hb1, hb2⟩ := I1.mod.blt
    have hbl : ∃ mb, s1.heap.Ns builtinsNs mb ∧ ∀ y : Str, y ≠ "__name__" → mb y = bootBuiltins y := ⟨mb, hb1.keeps I1.bk, hb2⟩
    obtain ⟨hp, g, dr, tk, os⟩ := s1
    refine wpAny_call (FoX_number.x_made T I1.kIn hgl hbl hlim (by have := hr.dp; omega) fun h' tk' e d M => ?_)
    show L2N.MkP X pins σ Q (.ref e) ⟨h', g, dr, tk', os⟩
    obtain ⟨oe, fv, hoe, hc, hd, hdat, h1, h2⟩ := M.obj
    have hns := M.ns
    obtain ⟨G', g1, g2⟩ := restrict h' fun b => decide (b ≠ e)
    have gk : ∀ b, b ≠ e → G'.get? b = h'.get? b := fun b hb => g1 b (decide_eq_true hb)
    have ge : G'.get? e = none := g2 e (by simp)
    have old : ∀ b o, hp.get? b = some o → G'.get? b = some o := fun b o q => (gk b (Nat.ne_of_lt (Nat.lt_of_lt_of_le (Heap.lt_size q) M.new))).trans (M.keep b o q)
    have ob : ObjOk X.prog X.w (upd H1 d (.xd [((Str.ofString "number"), v)])) G' d (.xd [((Str.ofString "number"), v)]) :=
      ⟨_, hns.at (fun o q => (gk d M.dne).trans q), fun f => relO_number rv f⟩
    have J : Inv X pins σ (upd H1 d (.xd [((Str.ofString "number"), v)])) ⟨G', g, dr, tk', os⟩ := I1.laid (t' := tk') old M.dbig ob
    refine ⟨e, oe, fv, ⟨G', g, dr, tk', os⟩, _, .ref C, some d, rfl, J, fun b o q => ?_, ge, hoe, ⟨hc, hd, fun vs e => by rw [hdat] at e; cases e; exact h2⟩, hdat, h1, ?_, rfl, I1.bare, raises_own T.exC T.tyC, q1 d (I1.hok.fresh M.dbig)⟩
    · by_cases hb : b = e
      · have q' : G'.get? b = some o := q
        rw [hb, ge] at q'; cases q'
      · exact (gk b hb).symm.trans q
    · rw [upd_ne (Ne.symm M.dne)]
      exact I1.hok.fresh M.new
theorem pmk_number {a : Expr} {ta : TA} {p pos : Pos} {k : Nat} (T : FoX_number.XTxt X.prog X.K X.mg C fI) (gC : X.mg nm = some (.ref C)) (hr : Room k X.A) (ha : PA X [a] ta) (hg : Gl X nm) (hdb : (nm == ("__debug__" : Str)) = false)
    (he : starEach (a :: []) X.env = (false, eval a X.env) :: starEach [] X.env := by rfl) (hpl : (backTo pos (starEach [] X.env)).any (·.1) = false := by rfl) :
    PMk X (.Call (.Name nm p) [a] [] pos) (tMkX_number C ta) := by
  intro pins s σ H Q I h
  refine wpAny_mono (pmkN_number T gC hr ha hg hdb he hpl pins s σ H Q I h) (fun u s' z => ?_) fun _ _ x => x
  obtain ⟨e, oe, vs, sI, H', cls, d, r1, r2, r3, r4, r5, r6, r7⟩ := z
  exact ⟨e, oe, vs, sI, H', cls, d, r1, r2, r3, r4, r5, r6.zc, r7⟩
/-- raise Name(e) -/
def tRaiseX_number (C : Addr) (W : WX) (ta : TA) : TS := fun _ σ H => tMkX_number C ta σ H fun cls d H' => W cls d σ H'
theorem ps_raise_number {a : Expr} {ta : TA} {W : WX} {p pos pos2 : Pos} {k : Nat} (hc : X.calm = true) (T : FoX_number.XTxt X.prog X.K X.mg C fI) (gC : X.mg nm = some (.ref C)) (hr : Room k X.A) (tk : Takes X W) (ha : PA X [a] ta) (hg : Gl X nm := by rfl) (hdb : (nm == ("__debug__" : Str)) = false := by decide)
    (he : starEach (a :: []) X.env = (false, eval a X.env) :: starEach [] X.env := by rfl) (hpl : (backTo pos (starEach [] X.env)).any (·.1) = false := by rfl) :
    PS X (.Raise (some (.Call (.Name nm p) [a] [] pos)) none pos2) (tRaiseX_number C W ta) := ps_raise hc tk (pmk_number T gC hr ha hg hdb he hpl)
theorem ps_raiseN_number {a : Expr} {ta : TA} {W : WX} {p pos pos2 : Pos} {k : Nat} (hc : X.calm = true) (T : FoX_number.XTxt X.prog X.K X.mg C fI) (gC : X.mg nm = some (.ref C)) (hr : Room k X.A) (tk : L2N.Takes X W) (ha : PA X [a] ta) (hg : Gl X nm := by rfl) (hdb : (nm == ("__debug__" : Str)) = false := by decide)
    (he : starEach (a :: []) X.env = (false, eval a X.env) :: starEach [] X.env := by rfl) (hpl : (backTo pos (starEach [] X.env)).any (·.1) = false := by rfl) :
    PS X (.Raise (some (.Call (.Name nm p) [a] [] pos)) none pos2) (tRaiseX_number C W ta) := L2N.ps_raise hc tk (pmkN_number T gC hr ha hg hdb he hpl)
/-- e.field, e the error that the suite holds (at a; its class cls, its dict d) -/
def tByX_number (C : Addr) (a : Addr) (cls : Value) (d : Option Addr) (te : TE) : TE := fun σ H Q => te σ H fun x H1 => x = .ref a ∧ cls = .ref C ∧ ∃ (dd : Addr) (v : V), d = some dd ∧ H1 dd = some (.xd [((Str.ofString "number"), v)]) ∧ Q v H1
theorem pe_by_number {a : Addr} {oe : Obj} {cls : Value} {d : Option Addr} {pn : List (Addr × Obj)} {e : Expr} {te : TE} {pos : Pos} (T : FoX_number.XTxt X.prog X.K X.mg C fI) (hz : Zc cls d oe) (hf : ∃ vs, oe.data = .fields vs) (he : PE (X.suite a ((a, oe) :: pn)) e te)
    (hb : attributeBase e (Str.ofString "number") X.env (eval e X.env) = eval e X.env := by rfl) :
    PE (X.suite a ((a, oe) :: pn)) (.Attribute e (Str.ofString "number") pos) (tByX_number C a cls d te) := by
  refine ⟨fun pins s σ H Q I h => ?_⟩
  refine attr_of hb (thn (he.run pins s σ H _ I h) fun u s1 hh => ?_)
  obtain ⟨x, H1, I1, rx, ex, ec, dd, v, ed, ea, q⟩ := hh
  subst ex
  obtain rfl : u = Value.ref a := rx
  subst ec
  subst ed
  obtain ⟨ha, _⟩ := I1.pin (a, oe) (List.mem_append_left _ List.mem_cons_self)
  obtain ⟨vs, hd⟩ := hf
  have hx : ObjOk X.prog X.w H1 s1.heap dd (.xd [((Str.ofString "number"), v)]) := I1.hok dd _ ea
  obtain ⟨mA, hns, hr⟩ := hx
  obtain ⟨od, ho, hl⟩ := lookIn_ns hns
  have l : List.lookup (Str.ofString "number") [((Str.ofString "number"), v)] = some v := by simp [List.lookup]
  obtain ⟨u, hu, ru⟩ := RelO.some_of (v := v) (o := mA (Str.ofString "number")) (by rw [← l]; exact hr (Str.ofString "number"))
  have J : PySem.W.InstAt s1.heap a oe C (some od) := ⟨ha, hz.1, by unfold PySem.W.notCls; rw [hd] <;> rfl, by rw [hz.2]; exact ho⟩
  exact HandSPX.exc_get I1.kIn J T.ga T.gg T.exC (PySem.W.findObj_own T.hdC T.noN rfl (by rw [hl, hu])) (handed_of ru) ⟨v, H1, I1.tok _, ru, q⟩
end
end L2
set_option Elab.async false
set_option linter.all false
set_option maxRecDepth 100000
set_option maxHeartbeats 2000000
/-! sum of a tuple; zip of a tuple and a list (or a tuple); enumerate of a list or a tuple -/
namespace L2
open PySem PySem.Spec PyProof.Rows
section
variable {X : Cx}
/-- sum(t), t a tuple of whole numbers -/
def rSumT (K : PySem.W.Frag) : List V → Hp → VK → Prop := fun xs H Q => ∃ (a : Addr) (ns : List Int), xs = [.ref a] ∧ SqT K H a (ns.map V.int) ∧ Q (.int ns.sum) H
theorem cr_sumT (hc : X.calm = true) : CallR X (.builtin "sum") (rSumT X.K) := by
  intro pins s σ H vs us Q I r h
  obtain ⟨a, ns, rfl, hs, q⟩ := h
  obtain ⟨its, rv, p, _⟩ := I.tuple hs
  rw [Vals.ref1 r]
  obtain ⟨xs, e⟩ := rv.ints.allInts.items
  have hn : numsOf (intItems xs).toList = ns := by rw [← e]; exact rv.ints.numsOf
  rw [nums_intItems] at hn
  have ht : s.heap.IsTuple a (intItems xs) := by rw [← e]; exact p
  have lt : a < s.heap.objs.size := by obtain ⟨_, z, _⟩ := ht; exact Heap.lt_size z
  refine call_sum_walkG (wpAny_pyIter_tuple ht ?_)
  refine ⟨_, [s.heap.objs.size, a], [s.heap.objs.size], _, _, _, numAt xs, rfl, Walks.tuple (A := X.A.in1) (I.ok.hd hc) _ a (Nat.ne_of_lt lt) (intItems xs), ⟨⟨_, Heap.get?_push_size _ rfl, rfl, rfl⟩, ht.push _⟩, fun b hb => ?_, fun _ _ => intItems_at, fun h' tk t' hk => ?_⟩
  · rw [Heap.size_push]
    have z : b = s.heap.objs.size ∨ b = a := by simpa using hb
    rcases z with z | z
    · rw [z]
      exact Nat.lt_succ_self _
    · rw [z]
      exact Nat.lt_succ_of_lt lt
  · have old : ∀ b o, s.heap.get? b = some o → h'.get? b = some o := fun b o z => hk b o (fun y => by
      have y' : b = s.heap.objs.size := by simpa using y
      rw [y'] at z
      exact absurd (Heap.lt_size z) (Nat.lt_irrefl _)) (Heap.get?_push_of_some _ z)
    have hsum : preSum (numAt xs) (intItems xs).size = ns.sum := by
      rw [show (intItems xs).size = xs.size by simp [intItems], preSum_eq, List.take_of_length_le (by simp), hn]
    rw [hsum]
    exact ⟨.int ns.sum, H, I.kept old, ⟨_, rfl⟩, q⟩
end
/-! ### zip of a tuple and a list -/
abbrev zA (h : Heap) (a : Addr) : Heap := h.push ⟨.type "tuple_iterator", none, .fields #[.ref a, .int 0 0], #[]⟩
abbrev zB (h : Heap) (a b : Addr) : Heap := (zA h a).push ⟨.type "list_iterator", none, .fields #[.ref b, .int 0 0], #[]⟩
abbrev zC (h : Heap) (a b : Addr) : Heap := (zB h a b).push ⟨.type "tuple", none, .seq #[.ref h.objs.size, .ref (zA h a).objs.size], #[]⟩
abbrev zD (h : Heap) (a b : Addr) : Heap := (zC h a b).push ⟨.type "tuple", none, .seq #[.none, .none], #[]⟩
abbrev zE (h : Heap) (a b : Addr) : Heap := (zD h a b).push ⟨.type "zip", none, .fields #[.none, .bool false, .bool false, .ref (zB h a b).objs.size, .ref (zC h a b).objs.size], #[]⟩
theorem meets_zipTL (a b : Addr) (xs ys : Array Value) :
    Meets (Builtin.«zip.__new__» ⟨[.type "zip", .ref a, .ref b], []⟩) (fun _ R s => s.heap.IsTuple a xs ∧ s.heap.IsList b ys ∧ R (.ok (.ret (.ref (zD s.heap a b).objs.size))) { s with heap := zE s.heap a b }) :=
  .of_wp fun prog w A R s h => by
    obtain ⟨hp, g, dr, tk, os⟩ := s
    obtain ⟨ha, hb, h⟩ := h
    have hsub := sub_zip
    have LA : Heap.IsTuple (Shared.heap ⟨hp, g, dr, tk, os⟩) a xs := ha
    have LB : Heap.IsList (Shared.heap ⟨zA hp a, g, dr, tk, os⟩) b ys := Heap.IsList.push hb _
    wp_walk using wpAny_pyIter_tuple LA, wpAny_pyIter_list LB
    exact ⟨_, rfl, h⟩
section
variable {prog : Program} {w : World} {A : Around} {E : Value → Shared → Prop} {s : Shared}
theorem call_zipTL {a b : Addr} {xs ys : Array Value} {Q : Value → Shared → Prop} (ha : s.heap.IsTuple a xs) (hb : s.heap.IsList b ys)
    (h : ∀ (h' : Heap) (n : Nat), n = s.heap.objs.size → IsZip h' (n + 4) (n + 2) (n + 3) .none → IsPair h' (n + 2) (.ref n) (.ref (n + 1)) → IsPair h' (n + 3) .none .none → h'.IsTupleIter n a 0 → h'.IsListIter (n + 1) b 0 →
      (∀ c o, s.heap.get? c = some o → h'.get? c = some o) → Q (.ref (n + 4)) { s with heap := h' }) : wpAny (model prog w) A (call (.type "zip") [.ref a, .ref b]) Q E s := by
  refine callType_new F.called_zip (by decide) (F.typeCall_zip_2 _ _) (F.newCall_zip_2 _ _) (fun obj => F.args_object_init_3 obj _ _) F.entry_zip_new (meets_zipTL a b xs ys) ⟨ha, hb, ?_⟩
  have n1 : (zA s.heap a).objs.size = s.heap.objs.size + 1 := Heap.size_push ..
  have n2 : (zB s.heap a b).objs.size = s.heap.objs.size + 2 := (Heap.size_push ..).trans (congrArg (· + 1) n1)
  have n3 : (zC s.heap a b).objs.size = s.heap.objs.size + 3 := (Heap.size_push ..).trans (congrArg (· + 1) n2)
  have n4 : (zD s.heap a b).objs.size = s.heap.objs.size + 4 := (Heap.size_push ..).trans (congrArg (· + 1) n3)
  have up1 : ∀ c o, (zD s.heap a b).get? c = some o → (zE s.heap a b).get? c = some o := fun c o z => Heap.get?_push_of_some _ z
  have up2 : ∀ c o, (zC s.heap a b).get? c = some o → (zE s.heap a b).get? c = some o := fun c o z => up1 c o (Heap.get?_push_of_some _ z)
  have up3 : ∀ c o, (zB s.heap a b).get? c = some o → (zE s.heap a b).get? c = some o := fun c o z => up2 c o (Heap.get?_push_of_some _ z)
  have up4 : ∀ c o, (zA s.heap a).get? c = some o → (zE s.heap a b).get? c = some o := fun c o z => up3 c o (Heap.get?_push_of_some _ z)
  have o5 : (zE s.heap a b).get? (zD s.heap a b).objs.size = some _ := Heap.get?_push_size _ rfl
  have o4 := up1 _ _ (Heap.get?_push_size (zC s.heap a b) (o := ⟨.type "tuple", none, .seq #[.none, .none], #[]⟩) rfl)
  have o3 := up2 _ _ (Heap.get?_push_size (zB s.heap a b) (o := ⟨.type "tuple", none, .seq #[.ref s.heap.objs.size, .ref (zA s.heap a).objs.size], #[]⟩) rfl)
  have o2 := up3 _ _ (Heap.get?_push_size (zA s.heap a) (o := ⟨.type "list_iterator", none, .fields #[.ref b, .int 0 0], #[]⟩) rfl)
  have o1 := up4 _ _ (Heap.get?_push_size s.heap (o := ⟨.type "tuple_iterator", none, .fields #[.ref a, .int 0 0], #[]⟩) rfl)
  show _ ∧ _
  rw [n2, n3, n4] at o5
  rw [n1, n2] at o3
  rw [n3] at o4
  rw [n1] at o2
  rw [n4]
  exact ⟨⟨_, o5, rfl⟩, h _ _ rfl o5 o3 o4 ⟨_, o1, rfl, rfl⟩ ⟨_, o2, rfl, rfl⟩ fun c o z => up4 c o (Heap.get?_push_of_some _ z)⟩
end
/-- a tuple at a and a list at b as they stand at each turn -/
def ItzTL (K : PySem.W.Frag) (a b : Addr) : It :=
  ⟨fun i H => ∃ (xs ys : List V) (x y : V), SqT K H a xs ∧ SqL K H b ys ∧ xs[i]? = some x ∧ ys[i]? = some y,
   fun i H v H' => ∃ (T : Addr) (x y : V), v = .ref T ∧ H T = none ∧ H' = upd H T (.tup [x, y]) ∧ (∀ xs, SqT K H a xs → xs[i]? = some x) ∧ (∀ ys, SqL K H b ys → ys[i]? = some y),
   fun i H => ∃ xs ys : List V, SqT K H a xs ∧ SqL K H b ys ∧ i ≤ xs.length ∧ i ≤ ys.length ∧ (i = xs.length ∨ i = ys.length)⟩
theorem mem5 {c a1 a2 a3 a4 a5 : Addr} (h : c ∈ [a1, a2, a3, a4, a5]) : c = a1 ∨ c = a2 ∨ c = a3 ∨ c = a4 ∨ c = a5 := by simpa using h
theorem turn_zipTL {P : Program} {w : World} {K : PySem.W.Frag} {elts : List Expr} {kk : Nat} {tpos : Pos} {a b z TI TO i1 i2 : Addr} (D : ZipApart z TI TO i1 i2 a b) :
    Turn P w K (.Tuple elts kk tpos) (ItzTL K a b) [z, TI, TO, i1, i2] z (fun i h => (IsZip h z TI TO .none ∧ IsPair h TI (.ref i1) (.ref i2)) ∧ (∃ x y, IsPair h TO x y) ∧ h.IsTupleIter i1 a i ∧ h.IsListIter i2 b i) := by
  have S : ZipSep2 z TI TO i1 i2 [i1, a] [i2, b] := ⟨D.TIz, D.TOz, D.TITO, D.TIi1, by simp, by simp [D.i1z.symm, D.l1z.symm], by simp [D.TOi1, D.l1TO.symm], D.TIi2, by simp, by simp [D.i2z.symm, D.l2z.symm], by simp [D.TOi2, D.l2TO.symm], by simp [D.i12, D.l2i1.symm], by simp [D.i12.symm, D.l1i2.symm]⟩
  refine ⟨by simp, ?_, ?_, ?_, ?_, fun A i s Q E st h => wpAny_pyIter_zip st.1.1 h⟩
  · rintro i h ⟨⟨g1, g2⟩, ⟨x, y, g3⟩, ⟨p1, q1, _, r1⟩, ⟨p2, q2, _, r2⟩⟩ c hc
    rcases mem5 hc with rfl | rfl | rfl | rfl | rfl
    · exact ⟨_, g1, fun v z => nomatch z⟩
    · exact ⟨_, g2, fun v z => nomatch z⟩
    · exact ⟨_, g3, fun v z => nomatch z⟩
    · exact ⟨p1, q1, fun v z => by rw [r1] at z; cases z⟩
    · exact ⟨p2, q2, fun v z => by rw [r2] at z; cases z⟩
  · rintro i h h' ⟨⟨g1, g2⟩, ⟨x, y, g3⟩, g4, g5⟩ k
    exact ⟨⟨k z (by simp) _ g1, k TI (by simp) _ g2⟩, ⟨x, y, k TO (by simp) _ g3⟩, g4.at fun o q => k i1 (by simp) o q, g5.at fun o q => k i2 (by simp) o q⟩
  · rintro X rfl rfl rfl hc i pins s σ H E I hf ⟨⟨g1, g2⟩, ⟨x0, y0, g3⟩, g4, g5⟩ ⟨xs, ys, x, y, hx, hy, ex, ey⟩
    obtain ⟨its, rv, p, _⟩ := I.tuple hx
    obtain ⟨its2, rv2, p2, _⟩ := I.list hy
    obtain ⟨u, hu, ru⟩ := rv.get ex
    obtain ⟨u2, hu2, ru2⟩ := rv2.get ey
    have z1 : i < its.toArray.size := by simpa using (List.getElem?_eq_some_iff.mp hu).1
    have z2 : i < its2.toArray.size := by simpa using (List.getElem?_eq_some_iff.mp hu2).1
    refine wpAny_pyNext_zipD2_item S (Draws.tuple (A := X.A.in1) (I.ok.hd hc) i1 a D.l1i1 its.toArray) (Draws.list (A := X.A.in1) (I.ok.hd hc) i2 b D.l2i2 its2.toArray) g1 g2 g3 ⟨g4, p⟩ ⟨g5, p2.isList⟩ z1 z2 ?_
    intro v1 v2 h' tk w1 w2 k1 k2 k3 k4 k5 k6 k7
    have q1 : v1 = u := by simpa [hu] using w1.symm
    have q2 : v2 = u2 := by simpa [hu2] using w2.symm
    subst q1 q2
    have zlt : z < s.heap.objs.size := Heap.lt_size g1
    refine ⟨_, rfl, wpAny_letOwnedTupleGo_zip (s := { s with heap := h', toks := tk }) k1 fun h2 m1 sb => ?_⟩
    have hT : h2.get? s.heap.objs.size = some _ := (sb.2 _ (Nat.ne_of_gt zlt)).trans k5
    have J : Inv X pins σ (upd H s.heap.objs.size (.tup [x, y])) { s with heap := h2, toks := tk } := I.turnedNew (ch := [z, TI, TO, i1, i2])
      (fun c o hb q => (sb.2 c (fun e => hb (by simp [e]))).trans (k7 c o (fun e => hb (by simp [e])) (fun e => hb (by simp [e])) (fun e => hb (by simp [e])) (fun e => hb (by simp [e])) q)) hf (Nat.le_refl _)
      ⟨by show 2 ≤ sizeLine; decide, [v1, v2], .cons ru (.cons ru2 .nil), ⟨_, hT, rfl, _, rfl⟩⟩
    refine ⟨.ref s.heap.objs.size, _, J, rfl, ⟨s.heap.objs.size, x, y, rfl, I.hok.fresh (Nat.le_refl _), rfl, fun l hl => by rw [I.tuple_inj hl hx]; exact ex, fun l hl => by rw [I.list_inj hl hy]; exact ey⟩, ⟨⟨m1, ?_⟩, ⟨v1, v2, (sb.2 _ D.TOz).trans k2⟩, k3.1.at fun o q => (sb.2 _ D.i1z).trans q, k4.1.at fun o q => (sb.2 _ D.i2z).trans q⟩, fun c hcm => ?_⟩
    · exact (sb.2 _ D.TIz).trans (k7 _ _ D.TIz D.TITO D.TIi1 D.TIi2 g2)
    · have lt : c < s.heap.objs.size := by
        rcases mem5 hcm with e | e | e | e | e
        · rw [e]; exact zlt
        · rw [e]; exact Heap.lt_size g2
        · rw [e]; exact Heap.lt_size g3
        · rw [e]; obtain ⟨_, q, _⟩ := g4; exact Heap.lt_size q
        · rw [e]; obtain ⟨_, q, _⟩ := g5; exact Heap.lt_size q
      rw [upd_ne (Nat.ne_of_lt lt)]
      exact (hf c hcm).1
  · rintro X rfl rfl rfl hc i pins s σ H E I hf ⟨⟨g1, g2⟩, ⟨x0, y0, g3⟩, g4, g5⟩ ⟨xs, ys, hx, hy, l1, l2, l3⟩
    obtain ⟨its, rv, p, _⟩ := I.tuple hx
    obtain ⟨its2, rv2, p2, _⟩ := I.list hy
    have e1 : its.toArray.size = xs.length := by simp [rv.length]
    have e2 : its2.toArray.size = ys.length := by simp [rv2.length]
    refine wpAny_pyNext_zipD2_end S (Draws.tuple (A := X.A.in1) (I.ok.hd hc) i1 a D.l1i1 its.toArray) (Draws.list (A := X.A.in1) (I.ok.hd hc) i2 b D.l2i2 its2.toArray) g1 g2 g3 ⟨g4, p⟩ ⟨g5, p2.isList⟩ (by omega) (by omega) (by omega) fun h' tk k => ⟨rfl, ?_⟩
    exact I.turnedL (ch := [z, TI, TO, i1, i2]) (fun c o hb q => k c o (fun e => hb (by simp [e])) (fun e => hb (by simp [e])) (fun e => hb (by simp [e])) (fun e => hb (by simp [e])) q) hf
/-- zip(t, xs), t a tuple, xs a list or a tuple -/
def iZipT (K : PySem.W.Frag) (ta : TA) : TI := fun σ H R => ta σ H fun vs H1 => ∃ (a b : Addr) (xs ys : List V), vs = [.ref a, .ref b] ∧ SqT K H1 a xs ∧ ((SqL K H1 b ys ∧ R (ItzTL K a b) H1) ∨ (SqT K H1 b ys ∧ R (RZ.ItzT K a b) H1))
theorem five_fresh {X : Cx} {pins : List (Addr × Obj)} {σ : L2.St} {H : Hp} {s : Shared} (I : Inv X pins σ H s) : ∀ c ∈ [s.heap.objs.size + 4, s.heap.objs.size + 2, s.heap.objs.size + 3, s.heap.objs.size, s.heap.objs.size + 1], FpOk X pins H c := fun c hc => by
  have le : s.heap.objs.size ≤ c := by
    rcases mem5 hc with e | e | e | e | e <;> rw [e] <;> first | exact Nat.le_refl _ | exact Nat.le_add_right _ _
  exact I.fpOk le (I.hok.fresh le)
theorem pi_zipTX {X : Cx} {e e2 : Expr} {ta : TA} {p pos tpos : Pos} {elts : List Expr} {kk : Nat} (hg : Gl X "zip") (hm : X.mg "zip" = none) (ha : PA X [e, e2] ta)
    (hs : starEach [e, e2] X.env = (false, eval e X.env) :: starEach [e2] X.env := by rfl) (hpl : (backTo pos (starEach [e2] X.env)).any (·.1) = false := by rfl) : PI X (.Tuple elts kk tpos) (.Call (.Name "zip" p) [e, e2] [] pos) (iZipT X.K ta) := by
  constructor
  intro pins s σ H R I h
  refine Call_ (ld_blt I hg hm PyProof.Rows.boot_zip (PyProof.Rows.callWith_type1 (thn (ha.run pos pins s σ H _ I h) fun us s1 hh => ?_) hs hpl))
  obtain ⟨vs, H1, J, r1, a, b, xs, ys, ev, hx, q1⟩ := hh
  subst ev
  obtain ⟨v1, v2, rfl, z1, z2⟩ := vals2 r1
  obtain rfl : v1 = Value.ref a := z1
  obtain rfl : v2 = Value.ref b := z2
  obtain ⟨its, rv, pa, _⟩ := J.tuple hx
  have lta : a < s1.heap.objs.size := by obtain ⟨_, z, _⟩ := id pa; exact Heap.lt_size z
  rcases q1 with ⟨hy, q⟩ | ⟨hy, q⟩
  · obtain ⟨its2, rv2, pb, _⟩ := J.list hy
    refine call_zipTL pa pb.isList fun h' n en k1 k2 k3 k4 k5 kk' => wpAny_pyIter_zip k1 ?_
    subst en
    exact ⟨_, _, _, _, H1, rfl, J.kept (t' := s1.toks) kk', turn_zipTL (PySem.W.ktu_apart s1.heap.objs.size a b lta pb.lt), ⟨⟨k1, k2⟩, ⟨_, _, k3⟩, k4, k5⟩, five_fresh J, q⟩
  · obtain ⟨its2, rv2, pb, _⟩ := J.tuple hy
    have ltb : b < s1.heap.objs.size := by obtain ⟨_, z, _⟩ := id pb; exact Heap.lt_size z
    refine RZ.call_zipT pa pb fun h' k1 k2 k3 k4 k5 _ kk' => wpAny_pyIter_zip k1 ?_
    exact ⟨_, _, _, _, H1, rfl, J.kept (t' := s1.toks) kk', RZ.turn_zipT (PySem.W.ktu_apart s1.heap.objs.size a b lta ltb), ⟨k1, k2, ⟨_, _, k3⟩, k4, k5⟩, five_fresh J, q⟩
/-! ### enumerate of a tuple -/
abbrev eA (h : Heap) (a : Addr) : Heap := h.push ⟨.type "tuple_iterator", none, .fields #[.ref a, .int 0 0], #[]⟩
theorem meets_enumT (a : Addr) (xs : Array Value) : Meets (Builtin.«enumerate.__new__» ⟨[.type "enumerate", .ref a], []⟩) (fun _ R s => s.heap.IsTuple a xs ∧
      R (.ok (.ret (.ref (eA s.heap a).objs.size))) { s with heap := (eA s.heap a).push ⟨.type "enumerate", none, .fields #[.none, .bool false, .ref s.heap.objs.size, rawInt 0, .none, .none], #[]⟩ }) :=
  .of_wp fun prog w A R s h => by
    obtain ⟨hp, g, dr, tk, os⟩ := s
    obtain ⟨ha, h⟩ := h
    have hsub := sub_enumerate
    have LA : Heap.IsTuple (Shared.heap ⟨hp, g, dr, tk, os⟩) a xs := ha
    obtain ⟨oa, ga, ca, na, da⟩ := id LA
    wp_walk using AutoSeq1.wpAny_loadPart' ga
    refine wpAny_stack_any fun st => wpAny_pure ?_
    split
    · rename_i c _ _ _ _ _
      cases (c == Value.type "enumerate")
      all_goals
        wp_walk using AutoSeq1.wpAny_loadPart' ga, wpAny_pyIter_tuple LA
        exact ⟨_, rfl, h⟩
    · wp_walk using AutoSeq1.wpAny_loadPart' ga, wpAny_pyIter_tuple LA
      exact ⟨_, rfl, h⟩
section
variable {prog : Program} {w : World} {A : Around} {E : Value → Shared → Prop} {s : Shared}
theorem call_enumT {a : Addr} {xs : Array Value} {Q : Value → Shared → Prop} (ha : s.heap.IsTuple a xs)
    (h : ∀ (h' : Heap) (n : Nat), n = s.heap.objs.size → IsEnum h' (n + 1) n 0 .none → h'.IsTupleIter n a 0 → (∀ c o, s.heap.get? c = some o → h'.get? c = some o) → Q (.ref (n + 1)) { s with heap := h' }) : wpAny (model prog w) A (call (.type "enumerate") [.ref a]) Q E s := by
  refine callType_new F.called_enumerate (by decide) (F.typeCall_enumerate_1 _) (F.newCall_enumerate_1 _) (fun obj => F.args_object_init_2 obj _) F.entry_enumerate_new (meets_enumT a xs) ⟨ha, ?_⟩
  have n1 : (eA s.heap a).objs.size = s.heap.objs.size + 1 := Heap.size_push ..
  have o2 := Heap.get?_push_size (eA s.heap a) (o := ⟨.type "enumerate", none, .fields #[.none, .bool false, .ref s.heap.objs.size, rawInt 0, .none, .none], #[]⟩) rfl
  have o1 := Heap.get?_push_of_some (h := eA s.heap a) ⟨.type "enumerate", none, .fields #[.none, .bool false, .ref s.heap.objs.size, rawInt 0, .none, .none], #[]⟩ (Heap.get?_push_size s.heap (o := ⟨.type "tuple_iterator", none, .fields #[.ref a, .int 0 0], #[]⟩) rfl)
  show _ ∧ _
  rw [n1] at o2 ⊢
  exact ⟨⟨_, o2, rfl⟩, h _ _ rfl o2 ⟨_, o1, rfl, rfl⟩ fun c o z => Heap.get?_push_of_some _ (Heap.get?_push_of_some _ z)⟩
end
/-- the tuple at a, each item in a new pair -/
def IteT (K : PySem.W.Frag) (a : Addr) : It :=
  ⟨fun i H => ∃ (xs : List V) (x : V), SqT K H a xs ∧ xs[i]? = some x, fun i H v H' => ∃ (T : Addr) (x : V), v = .ref T ∧ H T = none ∧ H' = upd H T (.tup [.int (i : Nat), x]) ∧ (∀ xs, SqT K H a xs → xs[i]? = some x), fun i H => ∃ xs : List V, SqT K H a xs ∧ xs.length = i⟩
theorem mem2 {c a1 a2 : Addr} (h : c ∈ [a1, a2]) : c = a1 ∨ c = a2 := by simpa using h
theorem turn_enumT {P : Program} {w : World} {K : PySem.W.Frag} {elts : List Expr} {kk : Nat} {tpos : Pos} {a e it : Addr} (hai : a ≠ it) (hei : e ≠ it) (hea : e ≠ a) :
    Turn P w K (.Tuple elts kk tpos) (IteT K a) [e, it] e (fun i h => (∃ old, IsEnum h e it ((i : Nat) : Int) old) ∧ h.IsTupleIter it a i) := by
  refine ⟨by simp, ?_, ?_, ?_, ?_, fun A i s Q E st h => by obtain ⟨⟨_, g⟩, _⟩ := st; exact wpAny_pyIter_enum g h⟩
  · rintro i h ⟨⟨old, g1⟩, ⟨p1, q1, _, r1⟩⟩ c hc
    rcases mem2 hc with rfl | rfl
    · exact ⟨_, g1, fun v z => nomatch z⟩
    · exact ⟨p1, q1, fun v z => by rw [r1] at z; cases z⟩
  · rintro i h h' ⟨⟨old, g1⟩, g2⟩ k
    exact ⟨⟨old, k e (by simp) _ g1⟩, g2.at fun o q => k it (by simp) o q⟩
  · rintro X rfl rfl rfl hc i pins s σ H E I hf ⟨⟨old, g1⟩, g2⟩ ⟨xs, x, hx, ex⟩
    obtain ⟨its, rv, p, _⟩ := I.tuple hx
    obtain ⟨u, hu, ru⟩ := rv.get ex
    have z1 : i < its.toArray.size := by simpa using (List.getElem?_eq_some_iff.mp hu).1
    refine wpAny_pyNext_enum_itemD (Draws.tuple (A := X.A.in1) (I.ok.hd hc) it a hai its.toArray) g1 ⟨g2, p⟩ z1 hei (by simp [hei, hea]) ?_
    intro v h' tk w1 k1 k2 k3 k4 k5
    have q1 : v = u := by simpa [hu] using w1.symm
    subst q1
    have elt : e < s.heap.objs.size := Heap.lt_size g1
    refine ⟨_, rfl, wpAny_letOwnedTupleGo_enum (s := { s with heap := h', toks := tk + 1 }) k1 fun h2 m1 sb => ?_⟩
    have hT : h2.get? s.heap.objs.size = some _ := (sb.2 _ (Nat.ne_of_gt elt)).trans k3
    have J : Inv X pins σ (upd H s.heap.objs.size (.tup [.int (i : Nat), x])) { s with heap := h2, toks := tk + 1 } := I.turnedNew (ch := [e, it])
      (fun c o hb q => (sb.2 c (fun z => hb (by simp [z]))).trans (k5 c o (fun z => hb (by simp [z])) (fun z => hb (by simp [z])) q)) hf (Nat.le_refl _)
      ⟨by show 2 ≤ sizeLine; decide, [.int i tk, v], .cons ⟨_, rfl⟩ (.cons ru .nil), ⟨_, hT, rfl, _, rfl⟩⟩
    refine ⟨.ref s.heap.objs.size, _, J, rfl, ⟨s.heap.objs.size, x, rfl, I.hok.fresh (Nat.le_refl _), rfl, fun l hl => by rw [I.tuple_inj hl hx]; exact ex⟩, ⟨⟨v, ?_⟩, k2.1.at fun o q => (sb.2 _ hei.symm).trans q⟩, fun c hcm => ?_⟩
    · rw [show ((i + 1 : Nat) : Int) = (i : Int) + 1 by omega]
      exact m1
    · have lt : c < s.heap.objs.size := by
        rcases mem2 hcm with z | z
        · rw [z]; exact elt
        · rw [z]; obtain ⟨_, q, _⟩ := g2; exact Heap.lt_size q
      rw [upd_ne (Nat.ne_of_lt lt)]
      exact (hf c hcm).1
  · rintro X rfl rfl rfl hc i pins s σ H E I hf ⟨⟨old, g1⟩, g2⟩ ⟨xs, hx, el⟩
    obtain ⟨its, rv, p, _⟩ := I.tuple hx
    have e1 : its.toArray.size = i := by simp [← rv.length, el]
    subst e1
    refine wpAny_pyNext_enum_endD (Draws.tuple (A := X.A.in1) (I.ok.hd hc) it a hai its.toArray) g1 ⟨g2, p⟩ fun h' k => ⟨rfl, ?_⟩
    exact I.turnedL (t' := s.toks) (ch := [e, it]) (fun c o hb q => k c o (fun z => hb (by simp [z])) q) hf
/-- enumerate(xs), xs a list or a tuple -/
def iEnumX (K : PySem.W.Frag) (ta : TA) : TI := fun σ H R => ta σ H fun vs H1 => ∃ (a : Addr) (xs : List V), vs = [.ref a] ∧ ((SqL K H1 a xs ∧ R (Ite K a) H1) ∨ (SqT K H1 a xs ∧ R (IteT K a) H1))
theorem pi_enumX {X : Cx} {e : Expr} {ta : TA} {p pos tpos : Pos} {elts : List Expr} {kk : Nat} (hg : Gl X "enumerate") (hm : X.mg "enumerate" = none) (ha : PA X [e] ta) (hs : starEach [e] X.env = [(false, eval e X.env)] := by rfl) :
    PI X (.Tuple elts kk tpos) (.Call (.Name "enumerate" p) [e] [] pos) (iEnumX X.K ta) := by
  constructor
  intro pins s σ H R I h
  refine Call_ (ld_blt I hg hm boot_enumerate (PyProof.Rows.callWith_type1 (thn (ha.run pos pins s σ H _ I h) fun us s1 hh => ?_) hs rfl))
  obtain ⟨vs, H1, J, r1, a, xs, ev, q1⟩ := hh
  subst ev
  obtain ⟨v1, rfl, z1⟩ := vals1 r1
  obtain rfl : v1 = Value.ref a := z1
  have fresh : ∀ c ∈ [s1.heap.objs.size + 1, s1.heap.objs.size], FpOk X pins H1 c := fun c hc => by
    have le : s1.heap.objs.size ≤ c := by
      rcases mem2 hc with z | z <;> rw [z] <;> first | exact Nat.le_refl _ | exact Nat.le_add_right _ _
    exact J.fpOk le (J.hok.fresh le)
  rcases q1 with ⟨hx, q⟩ | ⟨hx, q⟩
  · obtain ⟨its, rv, pb, _⟩ := J.list hx
    refine call_enumerate_list pb.isList fun h' k1 k2 _ kk' => wpAny_pyIter_enum k1 ?_
    exact ⟨_, _, _, _, H1, rfl, J.kept (t' := s1.toks) kk', turn_enum a (s1.heap.objs.size + 1) s1.heap.objs.size, ⟨⟨.none, k1⟩, k2, Nat.succ_ne_self _⟩, fresh, q⟩
  · obtain ⟨its, rv, pb, _⟩ := J.tuple hx
    have lt : a < s1.heap.objs.size := by obtain ⟨_, z, _⟩ := id pb; exact Heap.lt_size z
    refine call_enumT pb fun h' n en k1 k2 kk' => wpAny_pyIter_enum k1 ?_
    subst en
    exact ⟨_, _, _, _, H1, rfl, J.kept (t' := s1.toks) kk', turn_enumT (Nat.ne_of_lt lt) (Nat.succ_ne_self _) (Nat.ne_of_gt (Nat.lt_succ_of_lt lt)), ⟨⟨.none, k1⟩, k2⟩, fresh, q⟩
/-- a loop over enumerate of a tuple -/
theorem for_enumT {K : PySem.W.Frag} {a : Addr} {xs : List V} {g : TG} {tb : TS} {D : Ends} {σ : L2.St} {H : Hp} (Pv : Nat → L2.St → Hp → Prop) (h0 : Pv 0 σ H) (hq : ∀ i σ H, Pv i σ H → SqT K H a xs)
    (hs : ∀ (i : Nat) (x : V) (T : Addr) (σ : L2.St) (H : Hp), xs[i]? = some x → Pv i σ H → H T = none → g (.ref T) σ (upd H T (.tup [.int (i : Nat), x])) fun σ2 H2 => tb { D with nx := Pv (i + 1), ct := Pv (i + 1), bk := D.nx } σ2 H2) (hd : ∀ σ H, Pv xs.length σ H → D.nx σ H) :
    ∃ W : Nat → Nat → L2.St → Hp → Prop, (∃ m, W 0 m σ H) ∧ ∀ i m σ H, W i m σ H →
      ((IteT K a).stop i H ∧ D.nx σ H) ∨ ((IteT K a).go i H ∧ ∃ N : L2.St → Hp → Prop, (∀ σ' H', N σ' H' → ∃ m', m' < m ∧ W (i + 1) m' σ' H') ∧ ∀ v H', (IteT K a).yld i H v H' → g v σ H' fun σ2 H2 => tb { D with nx := N, ct := N, bk := D.nx } σ2 H2) := by
  refine ⟨fun i m σ H => m = xs.length - i ∧ i ≤ xs.length ∧ Pv i σ H, ⟨_, rfl, Nat.zero_le _, h0⟩, ?_⟩
  rintro i m σ H ⟨rfl, hi, p⟩
  have qx := hq i σ H p
  by_cases hlt : i < xs.length
  · refine .inr ⟨⟨xs, _, qx, List.getElem?_eq_getElem hlt⟩, Pv (i + 1), fun σ' H' p' => ⟨_, (by omega : xs.length - (i + 1) < xs.length - i), rfl, hlt, p'⟩, ?_⟩
    rintro v H' ⟨T, x', rfl, hT, rfl, f1⟩
    exact hs i x' T σ H (f1 xs qx) p hT
  · have e : i = xs.length := by omega
    subst e
    exact .inl ⟨⟨xs, qx, rfl⟩, hd σ H p⟩
/-- a comprehension over zip of a tuple and a list of three, or of two tuples: what each item is -/
theorem lc_zipG {J : It} {D : Addr} {n : Nat} {g : TG} {te : TE} {sl : List Nat} {σ : L2.St} {H1 : Hp} {Qd : Hp → Prop} (xs ys : List V) (G : Hp → Prop) (Pv : Nat → Hp → Prop) (hG : ∀ i H, Pv i H → G H)
    (goes : ∀ i H, G H → i < n → J.go i H) (stops : ∀ H, G H → J.stop n H) (yields : ∀ i H v H', G H → i < n → J.yld i H v H' → ∃ (T : Addr) (x y : V), v = .ref T ∧ H T = none ∧ H' = upd H T (.tup [x, y]) ∧ xs[i]? = some x ∧ ys[i]? = some y)
    (h0 : Pv 0 (upd H1 D (.lst [])))
    (hs : ∀ (i : Nat) (x y : V) (T : Addr) (H : Hp), i < n → xs[i]? = some x → ys[i]? = some y → Pv i H → H T = none → g (.ref T) (wipe σ sl) (upd H T (.tup [x, y])) fun σ2 H2 => wipe σ2 sl = wipe σ sl ∧ te σ2 H2 fun z H4 => ∃ acc, H4 D = some (.lst acc) ∧ acc.length < sizeLine ∧ Pv (i + 1) (upd H4 D (.lst (acc ++ [z]))))
    (hd : ∀ H, Pv n H → Qd H) :
    ∃ W : Nat → Nat → Hp → Prop, (∃ m, W 0 m (upd H1 D (.lst []))) ∧ ∀ i m H, W i m H → (J.stop i H ∧ Qd H) ∨
      (J.go i H ∧ ∃ Nx : Hp → Prop, (∀ H', Nx H' → ∃ m', m' < m ∧ W (i + 1) m' H') ∧ ∀ x H', J.yld i H x H' → g x (wipe σ sl) H' fun σ2 H2 => wipe σ2 sl = wipe σ sl ∧ tYes σ2 H2 fun b H3 =>
      if b = true then te σ2 H3 fun y H4 => ∃ acc, H4 D = some (.lst acc) ∧ acc.length < sizeLine ∧ Nx (upd H4 D (.lst (acc ++ [y]))) else Nx H3) := by
  refine ⟨fun i m H => m = n - i ∧ i ≤ n ∧ Pv i H, ⟨_, rfl, Nat.zero_le _, h0⟩, ?_⟩
  rintro i m H ⟨rfl, hi, p⟩
  by_cases hlt : i < n
  · refine .inr ⟨goes i H (hG i H p) hlt, Pv (i + 1), fun H' p' => ⟨_, (by omega : n - (i + 1) < n - i), rfl, hlt, p'⟩, fun v H' yd => ?_⟩
    obtain ⟨T, x, y, rfl, hT, rfl, ex, ey⟩ := yields i H v H' (hG i H p) hlt yd
    exact hs i x y T H hlt ex ey p hT
  · have e : i = n := by omega
    subst e
    exact .inl ⟨stops H (hG _ H p), hd H p⟩
end L2
set_option Elab.async false
set_option linter.all false
set_option maxRecDepth 100000
set_option maxHeartbeats 2000000
/-! x in o by an own __contains__; == both ways of own objects, of pairs of them, such a pair in a list -/
namespace L2
open PySem PySem.Spec PyProof.Rows
structure OwnIn (K : PySem.W.Frag) (C f : Addr) : Prop where
  at_ : PySem.W.findIn K (.ref C) "__contains__" = some (some (.ref f))
  fn : PySem.W.isFn K (.ref f) = true
def rOwnIn (C : Addr) (sp : Sp) (E : XK) (neg : Bool) : R2 := fun x y H Q => ∃ a dx fs, y = .ref a ∧ H a = some (.ins C dx fs) ∧
  sp [y, x] H (fun v H' => ∃ k, v = .bl k ∧ Q (.bl (if neg then !k else k)) H') E
section
variable {X : Cx} {CX : CXT} {k : Nat} {f C : Addr} {fd : FuncData} {ps : List Str} {sp : Sp} {E : XK}
theorem op_ownIn (O : OwnIn X.K C f) (F : FnOk X.prog X.w X.K X.mg X.base CX k f fd ps sp) (hr : Room k X.A) (hb : Binds X.K fd ps []) (hx : Passes CX X E) : OpR X (compareOp .In) (rOwnIn C sp E false) := by
  intro pins s σ H x y v u Q I rx ry h
  obtain ⟨a, dx, fs, rfl, ha, q⟩ := h
  obtain rfl : u = Value.ref a := ry
  obtain ⟨mA, J, _⟩ := ins_get I.hok ha
  obtain ⟨od, J, _⟩ := J.look
  obtain ⟨m, hF⟩ := I.fr
  refine PySem.W.in_K hF I.ok.mod.kin J O.at_ O.fn ?_
  refine wpAny_mono (run_fn (us := [.ref a, v]) (vs := [.ref a, x]) F hr hb .nil hx I (.cons rfl (.cons rx .nil)) q) (fun r s' z => ?_) fun _ _ z => z
  obtain ⟨z1, H1, I1, rz, kk, rfl, qz⟩ := z
  cases rz
  exact wpAny_truthy_bool ⟨.bl kk, H1, I1, rfl, qz⟩
theorem op_ownNotIn (O : OwnIn X.K C f) (F : FnOk X.prog X.w X.K X.mg X.base CX k f fd ps sp) (hr : Room k X.A) (hb : Binds X.K fd ps []) (hx : Passes CX X E) : OpR X (compareOp .NotIn) (rOwnIn C sp E true) := by
  intro pins s σ H x y v u Q I rx ry h
  obtain ⟨a, dx, fs, rfl, ha, q⟩ := h
  obtain rfl : u = Value.ref a := ry
  obtain ⟨mA, J, _⟩ := ins_get I.hok ha
  obtain ⟨od, J, _⟩ := J.look
  obtain ⟨m, hF⟩ := I.fr
  refine PySem.W.notIn_K hF I.ok.mod.kin J O.at_ O.fn ?_
  refine wpAny_mono (run_fn (us := [.ref a, v]) (vs := [.ref a, x]) F hr hb .nil hx I (.cons rfl (.cons rx .nil)) q) (fun r s' z => ?_) fun _ _ z => z
  obtain ⟨z1, H1, I1, rz, kk, rfl, qz⟩ := z
  cases rz
  exact wpAny_truthy_bool ⟨.bl (!kk), H1, I1, rfl, qz⟩
end
abbrev EqvB := V → V → Bool → Hp → Prop
def MonB (D : EqvB) : Prop := ∀ x y b H H', Ext H H' → D x y b H → D x y b H'
/-- == of two values inside a builtin -/
def EqB (X : Cx) (n : Nat) (D : EqvB) : Prop :=
  ∀ (A : Around) (pins : List (Addr × Obj)) (s : Shared) (σ : St) (H : Hp) (x y : V) (u v : Value) (b : Bool), Sub X n A → Inv X pins σ H s → RelV x u → RelV y v → D x y b H →
    wpAny (model X.prog X.w) A (eqBool u v) (fun r s' => r = b ∧ ∃ H', Inv X pins σ H' s' ∧ Ext H H') X.xe s
/-- two instances of the class at C, by the own == -/
def DOwn (C : Addr) (sp : Sp) (E : XK) : EqvB := fun x y b H => ∃ a c dx dy fs gs, x = .ref a ∧ y = .ref c ∧ H a = some (.ins C dx fs) ∧ H c = some (.ins C dy gs) ∧ (a = c → b = true) ∧
  sp [x, y] H (fun v H' => v = .bl b ∧ Ext H H') E
/-- two pairs -/
def DPair (K : PySem.W.Frag) (D : EqvB) : EqvB := fun x y b H => ∃ p q x1 x2 y1 y2 b1 b2, x = .ref p ∧ y = .ref q ∧ SqT K H p [x1, x2] ∧ SqT K H q [y1, y2] ∧ (p = q → b = true) ∧ D x1 y1 b1 H ∧ D x2 y2 b2 H ∧ b = (b1 && b2)
section
variable {X : Cx} {n : Nat} {D : EqvB}
theorem eqB_own {CX : CXT} {f C : Addr} {fd : FuncData} {ps : List Str} {sp : Sp} {E : XK} (F : FnOk X.prog X.w X.K X.mg X.base CX n f fd ps sp) (hs : PySem.W.findIn X.K (.ref C) "__eq__" = some (some (.ref f))) (hf : PySem.W.isFn X.K (.ref f) = true)
    (hb : Binds X.K fd ps []) (hx : Passes CX X E) : EqB X n (DOwn C sp E) := by
  intro A pins s σ H x y u v b sb I rx ry d
  obtain ⟨a, c, dx, dy, fs, gs, rfl, rfl, ha, hc, hac, hsp⟩ := d
  cases rx
  cases ry
  by_cases hq : a = c
  · rw [hac hq]
    subst hq
    exact SeqAt.EqAt.same (A := A) (s := s) (.ref a) X.prog X.w X.xe _ ⟨rfl, H, I, Ext.rfl'⟩
  refine GQ.eqBool_refG hq ?_
  obtain ⟨mA, J, _⟩ := ins_get I.hok ha
  obtain ⟨mB, J', _⟩ := ins_get I.hok hc
  obtain ⟨od, J, _⟩ := J.look
  obtain ⟨od', J', _⟩ := J'.look
  obtain ⟨m, hF⟩ := I.fr
  refine PySem.W.cmp_K (op := .Eq) (tb := .ref C) sb.room.units0 hF I.ok.mod.kin J J'.type (by simp [PySem.W.notFirst]) hs hf ?_
  have e0 : Env0 X.prog X.w X.K X.mg X.base A X.stack s H := by
    obtain ⟨g1, g2, g3, g4, g5, g6, g7, g8⟩ := I.env0
    exact ⟨by rw [sb.fr]; exact g1, g2, g3, g4, g5, g6, g7, g8⟩
  have hl := F.len _ _ _ _ hsp
  have bnd := hb s [.ref a, .ref c] I.kIn (by simpa using hl)
  refine wpAny_call (codeAny_mono (F.run A X.stack s H ⟨[.ref a, .ref c], []⟩ [.ref a, .ref c] [.ref a, .ref c] _ E sb.room e0 (by simpa using bnd) (.cons rfl (.cons rfl .nil)) hsp) fun r s' hr => ?_)
  cases r with
  | error e => exact hx pins σ H s e s' I hr
  | ok fl =>
    cases fl with
    | ret w =>
      obtain ⟨z, H', I', rz, ez, ex⟩ := I.after hr
      subst ez
      cases rz
      exact ⟨b, rfl, rfl, H', I', ex⟩
    | next => exact hr.elim
    | brk => exact hr.elim
    | cont => exact hr.elim
end
end L2
namespace L2
open PySem PySem.Spec PyProof.Rows
/-- a == l, a an instance of the class at C with its own ==, l a list -/
def rOwnEqL (C : Addr) (sp : Sp) (E : XK) : R2 := fun x y H Q => ∃ a dx fs b xs, x = .ref a ∧ H a = some (.ins C dx fs) ∧ y = .ref b ∧ H b = some (.lst xs) ∧ sp [x, y] H Q E
theorem op_ownEqL {X : Cx} {CX : CXT} {k : Nat} {f C : Addr} {fd : FuncData} {ps : List Str} {sp : Sp} {E : XK} (hs : PySem.W.findIn X.K (.ref C) "__eq__" = some (some (.ref f))) (hf : PySem.W.isFn X.K (.ref f) = true) (nl : PySem.W.notFirst X.K C (.type "list") = true)
    (F : FnOk X.prog X.w X.K X.mg X.base CX k f fd ps sp) (hr : Room k X.A) (hb : Binds X.K fd ps []) (hx : Passes CX X E) : OpR X (compareOp .Eq) (rOwnEqL C sp E) := by
  intro pins s σ H x y v u Q I rx ry h
  obtain ⟨a, dx, fs, b, xs, rfl, ha, rfl, hl, q⟩ := h
  obtain rfl : v = Value.ref a := rx
  obtain rfl : u = Value.ref b := ry
  obtain ⟨mA, J, _⟩ := ins_get I.hok ha
  obtain ⟨od, J, _⟩ := J.look
  obtain ⟨m, hF⟩ := I.fr
  obtain ⟨_, _, _, _, e⟩ := (show ObjOk X.prog X.w H s.heap b (.lst xs) from I.hok b _ hl)
  have lk : PySem.W.Looks (model X.prog X.w) s.heap (typeOf (.ref b)) (.type "list") := fun A Q E s' k q => wpAny_typeOf ⟨_, k _ _ e, rfl⟩ q
  refine PySem.W.cmp_K (op := .Eq) (tb := .type "list") hr.units0 hF I.ok.mod.kin J lk nl hs hf ?_
  refine wpAny_mono (run_fn (us := [.ref a, .ref b]) (vs := [.ref a, .ref b]) F hr hb .nil hx I (.cons rfl (.cons rfl .nil)) q) (fun r s' z => ?_) fun _ _ z => z
  obtain ⟨z1, H1, I1, rz, qz⟩ := z
  exact cmpBack_of (not_ni rz) ⟨z1, H1, I1, rz, qz⟩
end L2
set_option Elab.async false
set_option linter.all false
set_option maxRecDepth 100000
set_option maxHeartbeats 2000000
namespace FoT
open PySem PySem.Spec PyProof.Rows MeetsSeq MeetsSeq2 MeetsSeq3 SeqRoads2 GQ
open AutoSeq1 (wpAny_loadPart')
section
variable {prog : Program} {w : World} {A : Around} {R : Result → Shared → Prop}
theorem tuple_eq2 (l b : Addr) (a1 a2 b1 b2 : Value) (n n2 : Nat) (dd dd2 : Option Addr) (sl sl2 : Array (Option Value)) {s : Shared}
    (hl1 : s.heap.get? l = some { cls := .type "tuple", dict := dd, data := .seq #[a1, a2] n, slots := sl }) (hb1 : s.heap.get? b = some { cls := .type "tuple", dict := dd2, data := .seq #[b1, b2] n2, slots := sl2 })
    (h : wpAny (model prog w) A.in1 (eqBool a1 b1) (fun r s' => if r = true then wpAny (model prog w) A.in1 (eqBool a2 b2) (fun r2 s2 => R (.ok (.ret (.bool r2))) s2) (fun e s' => R (.error e) s') s' else R (.ok (.ret (.bool false))) s') (fun e s' => R (.error e) s') s) :
    wpAny (model prog w) A.in1 (Builtin.«tuple.__eq__» ⟨[.ref l, .ref b], []⟩) (FinOf prog w A R) (fun e s' => R (.error e) s') s := by
  have f2 := AutoSeq1.sub_tuple_tuple
  have h0 := h
  obtain ⟨hp, g, d, tk, os⟩ := s
  wp_walk using wpAny_loadPart' hl1, wpAny_loadPart' hb1, wpAny_forIn_list _ (fun rest st s' => st.1 = none ∧ ((rest = [(a1, b1), (a2, b2)] ∧ wpAny (model prog w) A.in1 (eqBool a1 b1) (fun r s' => if r = true then wpAny (model prog w) A.in1 (eqBool a2 b2) (fun r2 s2 => R (.ok (.ret (.bool r2))) s2) (fun e s' => R (.error e) s') s' else R (.ok (.ret (.bool false))) s') (fun e s' => R (.error e) s') s') ∨
    (rest = [(a2, b2)] ∧ wpAny (model prog w) A.in1 (eqBool a2 b2) (fun r2 s2 => R (.ok (.ret (.bool r2))) s2) (fun e s' => R (.error e) s') s') ∨ (rest = [] ∧ R (.ok (.ret (.bool true))) s'))) _
  case turn =>
    rintro ⟨y, x⟩ rest st s' ⟨hb', hz⟩
    rcases hz with ⟨hz, hq⟩ | ⟨hz, hq⟩ | ⟨hz, hq⟩
    · injection hz with h1 h2
      cases h1
      refine wpAny_bind (wpAny_mono hq (fun r s2 q2 => ?_) fun _ _ x => x)
      cases r with
      | true =>
        rw [if_pos rfl] at q2
        wp_walk
        exact ⟨rfl, .inr (.inl ⟨h2, q2⟩)⟩
      | false =>
        rw [if_neg (by decide)] at q2
        wp_walk
        exact q2
    · injection hz with h1 h2
      cases h1
      refine wpAny_bind (wpAny_mono hq (fun r s2 q2 => ?_) fun _ _ x => x)
      cases r with
      | true =>
        wp_walk
        exact ⟨rfl, .inr (.inr ⟨h2, q2⟩)⟩
      | false =>
        wp_walk
        exact q2
    · cases hz
  case fin =>
    rintro ⟨st1, st2⟩ s' ⟨hb', hz⟩
    simp only at hb'
    subst hb'
    rcases hz with ⟨hz, hq⟩ | ⟨hz, hq⟩ | ⟨hz, hq⟩
    · cases hz
    · cases hz
    · wp_walk
      simpa [Builtin.Tuple.tupleCompareSizes] using hq
  case h =>
    exact ⟨rfl, .inl ⟨rfl, h0⟩⟩
/-- the loop of x in l -/
theorem contains_loopG (l : Addr) (x : Value) (N : Nat) (B : Nat → Bool) (I : Nat → Shared → Prop)
    (hl : ∀ i s, I i s → ∃ (items : Array Value) (n : Nat), s.heap.get? l = some { cls := .type "list", data := .seq items n } ∧ items.size = N ∧
      ∀ h : i < items.size, wpAny (model prog w) A.in1 (eqBool items[i] x) (fun r s' => r = B i ∧ I (i + 1) s') (fun e s' => R (.error e) s') s)
    (finT : ∀ i s, i < N → B i = true → (∀ j, j < i → B j = false) → I (i + 1) s → R (.ok (.ret (.bool true))) s) (finF : ∀ s, (∀ j, j < N → B j = false) → I N s → R (.ok (.ret (.bool false))) s) (k : Nat) :
    ∀ i : Nat, N - i = k → i ≤ N → (∀ j, j < i → B j = false) → ∀ s, I i s →
      wpAny (model prog w) A.in1 (Builtin.«list.__contains__.loop» ⟨[.ref l, x, rawInt i], []⟩) (FinOf prog w A R) (fun e s' => R (.error e) s') s := by
  induction k with
  | zero =>
    intro i hk hi hB s h
    obtain ⟨items, n, hl1, hs1, _⟩ := hl _ _ h
    have hi' : i = N := by omega
    subst hi'
    have hR := finF s hB h
    obtain ⟨hp, g, d, tk, os⟩ := s
    wp_walk using wpAny_loadPart' hl1
    have hi1 : items[((i : Nat) : Int).toNat]? = none := by simp; omega
    rw [hi1]
    wp_walk
    exact hR
  | succ k ih =>
    intro i hk hi hB s h
    obtain ⟨items, n, hl1, hs1, turn⟩ := hl _ _ h
    have hlt : i < items.size := by omega
    have ht := turn hlt
    obtain ⟨hp, g, d, tk, os⟩ := s
    wp_walk using wpAny_loadPart' hl1
    have hi1 : items[((i : Nat) : Int).toNat]? = some items[i] := by simp [hlt]
    have hc : ((i : Int) + 1) = ((i + 1 : Nat) : Int) := by omega
    rw [hi1]
    refine wpAny_bind (wpAny_mono ht (fun r s2 h2 => ?_) fun _ _ x => x)
    obtain ⟨hr, h2⟩ := h2
    cases r with
    | true =>
      have q := finT i s2 (by omega) hr.symm hB h2
      obtain ⟨hp2, g2, d2, tk2, os2⟩ := s2
      wp_walk
      exact q
    | false =>
      have hB2 : ∀ j, j < i + 1 → B j = false := fun j hj => by
        by_cases hq : j = i
        · rw [hq]; exact hr.symm
        · exact hB j (by omega)
      have hrec := ih (i + 1) (by omega) (by omega) hB2 s2 h2
      obtain ⟨hp2, g2, d2, tk2, os2⟩ := s2
      wp_walk
      rw [hc]
      exact ⟨plainId_quiet plain_contains_loop _, codeAny_builtin entry_contains_loop (by
        rw [Around.under_plainId plain_contains_loop _]
        exact hrec)⟩
end
section
variable {prog : Program} {w : World} {A : Around} {E : Value → Shared → Prop} {s : Shared}
theorem in_listG {l : Addr} {x : Value} {N : Nat} {B : Nat → Bool} {Q : Value → Shared → Prop} (I : Nat → Shared → Prop)
    (hl : ∀ i s, I i s → ∃ (items : Array Value) (n : Nat), s.heap.get? l = some { cls := .type "list", data := .seq items n } ∧ items.size = N ∧
      ∀ h : i < items.size, wpAny (model prog w) A.in1 (eqBool items[i] x) (fun r s' => r = B i ∧ I (i + 1) s') E s)
    (finT : ∀ i s, i < N → B i = true → (∀ j, j < i → B j = false) → I (i + 1) s → Q (.bool true) s) (finF : ∀ s, (∀ j, j < N → B j = false) → I N s → Q (.bool false) s) (h : I 0 s) :
    wpAny (model prog w) A (compareOp .In x (.ref l)) Q E s := by
  obtain ⟨items, n, hl1, hs1, _⟩ := hl _ _ h
  show wpAny _ A (do return .bool (← contains (.ref l) x)) Q E s
  have loop := contains_loopG (A := A) (R := wants (fun v s' => wpAny (model prog w) A (truthy v) (fun b s2 => Q (.bool b) s2) E s') E) l x N B I hl (fun i s' h1 h2 h3 h4 => wpAny_truthy_bool (finT i s' h1 h2 h3 h4)) (fun s' h1 h2 => wpAny_truthy_bool (finF s' h1 h2)) _ 0 rfl (Nat.zero_le _) (fun j hj => absurd hj (Nat.not_lt_zero _)) s h
  refine wpAny_bind (wpAny_contains_slot ⟨_, hl1, rfl⟩ F.slot_list_contains (wpAny_mono (call_here F.slot_list_contains ⟨_, hl1, rfl⟩ F.entry_list_contains (F.args_list_contains_2 _ _) ?_) (fun v s' hv => wpAny_mono hv (fun b s2 z => wpAny_pure z) fun _ _ e => e) fun _ _ e => e))
  obtain ⟨hp, g, d, tk, os⟩ := s
  wp_walk using wpAny_loadPart' hl1
  exact ⟨plainId_quiet plain_contains_loop _, codeAny_builtin entry_contains_loop (by
    rw [Around.under_plainId plain_contains_loop _]
    exact loop)⟩
theorem rc_tup2 {l b : Addr} {a1 a2 b1 b2 : Value} {Q : Value → Shared → Prop} (hu : A.units < cLine) (hl : s.heap.IsTuple l #[a1, a2]) (hb : s.heap.IsTuple b #[b1, b2])
    (h : wpAny (model prog w) A.in1 (eqBool a1 b1) (fun r s' => if r = true then wpAny (model prog w) A.in1 (eqBool a2 b2) (fun r2 s2 => Q (.bool r2) s2) E s' else Q (.bool false) s') E s) : wpAny (model prog w) A (richCompare .Eq (.ref l) (.ref b)) Q E s := by
  obtain ⟨⟨cls, dd, data, sl⟩, ho, hc, n, hd⟩ := id hl
  obtain ⟨⟨cls2, dd2, data2, sl2⟩, ho2, hc2, n2, hd2⟩ := id hb
  simp only at hc hd hc2 hd2
  subst hc hd hc2 hd2
  refine wpAny_richCompare_same_room (op := .Eq) ⟨_, ho, rfl⟩ ⟨_, ho2, rfl⟩ F.slot_tuple_eq (call_here F.slot_tuple_eq ⟨_, ho, rfl⟩ F.entry_tuple_eq (F.args_tuple_eq_2 _ _) ?_) hu
  refine tuple_eq2 (R := wants (fun v s' => v ≠ .notImplemented ∧ Q v s') E) l b a1 a2 b1 b2 n n2 dd dd2 sl sl2 ho ho2 (wpAny_mono h (fun r s' z => ?_) fun _ _ e => e)
  cases r with
  | true =>
    rw [if_pos rfl] at z ⊢
    exact wpAny_mono z (fun _ _ z => ⟨(fun x => nomatch x), z⟩) fun _ _ e => e
  | false =>
    rw [if_neg (by decide)] at z ⊢
    exact ⟨(fun x => nomatch x), z⟩
end
end FoT
namespace L2
open PySem PySem.Spec PyProof.Rows
/-- x in l, l a list, each item against x by D -/
def rInG (D : EqvB) : R2 := fun x y H Q => ∃ (l : Addr) (xs : List V) (bs : List Bool), y = .ref l ∧ H l = some (.lst xs) ∧ xs.length = bs.length ∧ (∀ (i : Nat) z b, xs[i]? = some z → bs[i]? = some b → D z x b H) ∧ ∀ H', Ext H H' → Q (.bl (bs.any id)) H'
section
variable {X : Cx} {n : Nat} {D : EqvB}
theorem eqB_pair (hD : MonB D) (h : EqB X n D) : EqB X (n + 1) (DPair X.K D) := by
  intro A pins s σ H x y u v b sb I rx ry d
  obtain ⟨p, q, x1, x2, y1, y2, b1, b2, rfl, rfl, hp, hq, hpq, d1, d2, hb⟩ := d
  cases rx
  cases ry
  by_cases e : p = q
  · rw [hpq e]
    subst e
    exact SeqAt.EqAt.same (A := A) (s := s) (.ref p) X.prog X.w X.xe _ ⟨rfl, H, I, Ext.rfl'⟩
  obtain ⟨its, r, e1, _⟩ := I.tuple hp
  obtain ⟨its2, r2, e2, _⟩ := I.tuple hq
  cases r with
  | cons ru1 r => cases r with
    | cons ru2 r =>
      cases r
      cases r2 with
      | cons rv1 r2 => cases r2 with
        | cons rv2 r2 =>
          cases r2
          refine GQ.eqBool_refG e (FoT.rc_tup2 sb.room.units0 e1 e2 ?_)
          refine wpAny_mono (h A.in1 pins s σ H x1 y1 _ _ b1 sb.in1 I ru1 rv1 d1) (fun t s1 z => ?_) fun _ _ x => x
          obtain ⟨rfl, H1, I1, g1⟩ := z
          cases t with
          | false =>
            rw [if_neg (by decide)]
            exact ⟨false, rfl, by rw [hb]; rfl, H1, I1, g1⟩
          | true =>
            rw [if_pos rfl]
            refine wpAny_mono (h A.in1 pins s1 σ H1 x2 y2 _ _ b2 sb.in1 I1 ru2 rv2 (hD _ _ _ _ _ g1 d2)) (fun t s2 z => ?_) fun _ _ x => x
            obtain ⟨rfl, H2, I2, g2⟩ := z
            exact ⟨t, rfl, by rw [hb]; rfl, H2, I2, g1.trans g2⟩
theorem monB_pair {K : PySem.W.Frag} (hD : MonB D) : MonB (DPair K D) := fun x y b H H' e d => by
  obtain ⟨p, q, x1, x2, y1, y2, b1, b2, h1, h2, hp, hq, hpq, d1, d2, hb⟩ := d
  exact ⟨p, q, x1, x2, y1, y2, b1, b2, h1, h2, hp.ext e, hq.ext e, hpq, hD _ _ _ _ _ e d1, hD _ _ _ _ _ e d2, hb⟩
theorem op_inG (hD : MonB D) (h : EqB X n D) (hr : Room (n + 1) X.A) : OpR X (compareOp .In) (rInG D) := by
  intro pins s σ H x y v u Q I rx ry hq
  obtain ⟨l, xs, bs, rfl, hl, hlen, hd, q⟩ := hq
  obtain rfl : u = Value.ref l := ry
  have sb : Sub X (n + 1) X.A := ⟨hr, rfl⟩
  refine FoT.in_listG (N := xs.length) (B := fun i => (bs[i]?).getD false) (fun _ s' => LoopI X pins σ H s') (fun i s' z => ?_) (fun i s' hi hB hn z => ?_) (fun s' hn z => ?_) ⟨H, I, Ext.rfl'⟩
  · obtain ⟨H1, I1, e1⟩ := id z
    obtain ⟨zz, its, k, r, e⟩ := I1.hok l _ (e1 _ _ hl)
    refine ⟨its.toArray, k, e, by rw [List.size_toArray, ← r.length], fun hlt => ?_⟩
    have h1' : i < its.length := by simpa using hlt
    have k1 : i < xs.length := by rw [r.length]; exact h1'
    have k2 : i < bs.length := by omega
    obtain ⟨w, hw, rw'⟩ := r.get (List.getElem?_eq_getElem k1)
    have g1 : its[i]? = some its.toArray[i] := by
      rw [List.getElem?_eq_getElem h1']
      simp
    rw [g1] at hw
    rw [Option.some.inj hw]
    have eb : (bs[i]?).getD false = bs[i] := by rw [List.getElem?_eq_getElem k2]; rfl
    refine wpAny_mono (h X.A.in1 pins s' σ H1 _ _ w v bs[i] sb.in1 I1 rw' rx (hD _ _ _ _ _ e1 (hd i _ _ (List.getElem?_eq_getElem k1) (List.getElem?_eq_getElem k2)))) (fun t s2 q2 => ?_) fun _ _ x => x
    obtain ⟨rfl, H2, I2, e2⟩ := q2
    exact ⟨eb.symm, H2, I2, e1.trans e2⟩
  · obtain ⟨H1, I1, e1⟩ := z
    have : bs.any id = true := by
      rw [List.any_eq_true]
      have k2 : i < bs.length := by omega
      have eb : (bs[i]?).getD false = bs[i] := by rw [List.getElem?_eq_getElem k2]; rfl
      exact ⟨bs[i], List.getElem_mem k2, by rw [← eb]; exact hB⟩
    refine ⟨.bl true, H1, I1, rfl, ?_⟩
    have q1 := q H1 e1
    rw [this] at q1
    exact q1
  · obtain ⟨H1, I1, e1⟩ := z
    have : bs.any id = false := by
      rw [List.any_eq_false]
      intro b hb
      obtain ⟨i, hi, rfl⟩ := List.getElem_of_mem hb
      have eb : (bs[i]?).getD false = bs[i] := by rw [List.getElem?_eq_getElem hi]; rfl
      have hz : (bs[i]?).getD false = false := hn i (by omega)
      rw [eb] at hz
      simp [hz]
    refine ⟨.bl false, H1, I1, rfl, ?_⟩
    have q1 := q H1 e1
    rw [this] at q1
    exact q1
end
end L2
set_option Elab.async false
set_option linter.all false
set_option maxRecDepth 100000
set_option maxHeartbeats 2000000
namespace Fo
open PySem L2
/-! ### the text by places -/
def top (i : Nat) : Stmt := PySem.Challenge.pw_filledonce_k74_whole_values_even.main.body.getD i (.Pass ⟨0, 0, 0, 0⟩)
abbrev sWhole : Stmt := top 10
abbrev sInit : Stmt := inClass (top 14) 0
abbrev sAdd : Stmt := inClass (top 14) 3
abbrev sSub : Stmt := inClass (top 14) 5
abbrev sCross : Stmt := inClass (top 14) 9
abbrev sMul : Stmt := inClass (top 14) 7
abbrev sEq : Stmt := inClass (top 14) 2
abbrev sPairM : Stmt := inClass (top 14) 10
abbrev sIsPoint : Stmt := top 15
abbrev sAsPoint : Stmt := top 16
abbrev sOperand : Stmt := top 17
abbrev sSide : Stmt := top 18
/-! ### data -/
theorem xy_ : ¬ (("x" : Str) = "y") := by decide +kernel
theorem yx_ : ¬ (("y" : Str) = "x") := by decide +kernel
def ptF (x y : Int) : List (Str × V) := putF "y" (.int y) (putF "x" (.int x) [])
theorem ptF_x (x y : Int) : (ptF x y).lookup ("x" : Str) = some (.int x) := by
  unfold ptF
  rw [lookup_putF, if_neg xy_, lookup_putF, if_pos rfl]
theorem ptF_y (x y : Int) : (ptF x y).lookup ("y" : Str) = some (.int y) := by
  unfold ptF
  rw [lookup_putF, if_pos rfl]
theorem ptF_no (x y : Int) {m : Str} (h1 : ¬ m = "y") (h2 : ¬ m = "x") : (ptF x y).lookup m = none := by
  unfold ptF
  rw [lookup_putF, if_neg h1, lookup_putF, if_neg h2]
  all_goals rfl
/-- an instance of Point with these numbers -/
def IsP (C : Addr) (v : V) (x y : Int) (H : Hp) : Prop := ∃ a dx, v = .ref a ∧ H a = some (.ins C dx (ptF x y))
/-- it, or a pair that stands for it -/
def IsPt (C : Addr) (v : V) (x y : Int) (H : Hp) : Prop := ∃ a, v = .ref a ∧ ((∃ dx, H a = some (.ins C dx (ptF x y))) ∨ H a = some (.tup [.int x, .int y]))
theorem IsP.ex {C : Addr} {v : V} {x y : Int} {H H' : Hp} (e : Same H H') (h : IsP C v x y H) : IsP C v x y H' := by
  obtain ⟨a, dx, rfl, h⟩ := h
  exact ⟨a, dx, rfl, e _ _ h⟩
theorem IsPt.ex {C : Addr} {v : V} {x y : Int} {H H' : Hp} (e : Same H H') (h : IsPt C v x y H) : IsPt C v x y H' := by
  obtain ⟨a, rfl, h⟩ := h
  rcases h with ⟨dx, h⟩ | h
  · exact ⟨a, rfl, .inl ⟨dx, e _ _ h⟩⟩
  · exact ⟨a, rfl, .inr (e _ _ h)⟩
theorem IsP.pt {C : Addr} {v : V} {x y : Int} {H : Hp} (h : IsP C v x y H) : IsPt C v x y H := by
  obtain ⟨a, dx, rfl, h⟩ := h
  exact ⟨a, rfl, .inl ⟨dx, h⟩⟩
theorem same_new {H : Hp} {p : Addr} {o : HO} (h : H p = none) : Same H (upd H p o) := fun a u e => by
  rw [upd_ne (ne_of_none e h)]
  exact e
def Sm (n : Nat) (x : Int) : Prop := x.natAbs < 2 ^ n
theorem Sm.mul {n : Nat} {x y : Int} (hx : Sm n x) (hy : Sm n y) (h0 : 0 < n) (h1 : n ≤ 1000) : CMulW x y := wide_mul hx hy h0 h0 (by omega)
theorem Sm.sub {n : Nat} {x y : Int} (hx : Sm n x) (hy : Sm n y) : Sm (n + 1) (x - y) := by
  unfold Sm at *
  rw [Nat.pow_succ]
  omega
theorem Sm.up {n m : Nat} {x : Int} (hx : Sm n x) (h : n ≤ m) : Sm m x := Nat.lt_of_lt_of_le hx (Nat.pow_le_pow_right (by decide) h)
/-! ### promises -/
def spWhole : Sp := fun vs H Q _ => ∃ i : Int, vs = [.int i] ∧ Q (.bl true) H
def spInit (C : Addr) : Sp := fun vs H Q _ => ∃ (p dx : Addr) (x y : Int), vs = [.ref p, .int x, .int y] ∧ H p = some (.ins C dx []) ∧ Q .non (upd (upd H p (.ins C dx (putF "x" (.int x) []))) p (.ins C dx (ptF x y)))
def spIsPoint (C : Addr) : Sp := fun vs H Q _ => ∃ (v : V) (x y : Int), vs = [v] ∧ IsPt C v x y H ∧ Q (.bl true) H
def spAsPoint (C : Addr) : Sp := fun vs H Q _ => ∃ (v : V) (x y : Int), vs = [v] ∧ IsPt C v x y H ∧ ∀ w H', Same H H' → IsP C w x y H' → (IsP C v x y H → w = v) → Q w H'
def spBin (C : Addr) (g : Int → Int → Int) : Sp := fun vs H Q _ => ∃ (v u : V) (x y z t : Int), vs = [v, u] ∧ IsP C v x y H ∧ IsPt C u z t H ∧ ∀ w H', Same H H' → IsP C w (g x z) (g y t) H' → Q w H'
def spCross (C : Addr) : Sp := fun vs H Q _ => ∃ (n : Nat) (v u : V) (x y z t : Int), vs = [v, u] ∧ IsP C v x y H ∧ IsPt C u z t H ∧ 0 < n ∧ n ≤ 1000 ∧ Sm n x ∧ Sm n y ∧ Sm n z ∧ Sm n t ∧ ∀ H', Same H H' → Q (.int (x * t - y * z)) H'
def sideI (ax ay bx by' px py : Int) : Int := (bx - ax) * (py - ay) - (by' - ay) * (px - ax)
def spSide (C : Addr) : Sp := fun vs H Q _ => ∃ (n : Nat) (a b p : V) (ax ay bx by' px py : Int), vs = [a, b, p] ∧ IsPt C a ax ay H ∧ IsPt C b bx by' H ∧ IsPt C p px py H ∧ n < 1000 ∧
  Sm n ax ∧ Sm n ay ∧ Sm n bx ∧ Sm n by' ∧ Sm n px ∧ Sm n py ∧ ∀ H', Same H H' → Q (.int (sideI ax ay bx by' px py)) H'
def spQuarter (C : Addr) : Sp := fun vs H Q _ => ∃ (v : V) (x y : Int), vs = [v] ∧ IsPt C v x y H ∧ ∀ w H', Same H H' → IsP C w (-y) x H' → Q w H'
/-- what the top has written of Point -/
structure Txt (K : PySem.W.Frag) (mg : Str → Option Value) (C : Addr) : Prop where
  cl : Cls K C
  nX : NoAttr K C "x"
  nY : NoAttr K C "y"
  mgC : mg "Point" = some (.ref C)
  isi : mg "isinstance" = none
  len : mg "len" = none
  int : mg "int" = none
  bool : mg "bool" = none
  tuple : mg "tuple" = none
  ha : PySem.W.findIn K (.ref C) "__class__" = some (some (.builtin "object.__class__"))
  hn : PySem.W.specialIn K (.builtin "object.__class__") "__get__" = some (some (.builtin "getset_descriptor.__get__"))
  htk : PySem.W.takesIn K (.builtin "object.__class__") = some true
  hm : PySem.W.mroIn K C (.type "object") = some true
  kTC : PySem.W.kitOne K (.type "tuple") (.ref C) = some false
  kCC : PySem.W.kitOne K (.ref C) (.ref C) = some true
section
variable {P : Program} {w : World} {K : PySem.W.Frag} {mg : Str → Option Value} {base : Heap}
theorem scWhole : FnScope ["value"] ["value"] (defScope sWhole) := ⟨rfl, rfl, rfl, by decide +kernel, rfl, by decide +kernel, by decide +kernel⟩
theorem ok_whole {f C : Addr} {fd : FuncData} (F : Fun K "is_whole" "is_whole" sWhole f fd) (T : Txt K mg C) : FnOk P w K mg base CX0 1 f fd ["value"] spWhole := by
  refine F.ok scWhole (fun vs H Q E h => ?_) (fun cdv A outer s H vs Q E hr h => ?_)
  · obtain ⟨i, rfl, _⟩ := h
    rfl
  · obtain ⟨i, rfl, k⟩ := h
    refine ⟨_, pss_one (ps_ret (pe_and (pe_callB call_isi (by rfl) T.isi (by decide +kernel) (pa_cons (pv 0) (pa_cons (pe_bltn (v := .ty "int") (by rfl) T.int (by decide +kernel) rfl) pa_nil)))
      (pe_one (pe_not (pe_callB call_isi (by rfl) T.isi (by decide +kernel) (pa_cons (pv 0) (pa_cons (pe_bltn (v := .ty "bool") (by rfl) T.bool (by decide +kernel) rfl) pa_nil))))))), ?_⟩
    refine ⟨_, rfl, _, _, _, _, true, rfl, .ty _, .base (.int i), kit_ty (by decide +kernel), true, rfl, ?_⟩
    refine iteT ?_
    exact ⟨_, rfl, _, _, _, _, false, rfl, .ty _, .base (.int i), kit_ty (by decide +kernel), false, rfl, k⟩

theorem scInit : FnScope ["self", "x", "y"] ["self", "x", "y"] (defScope sInit) := ⟨rfl, rfl, rfl, by decide +kernel, rfl, by decide +kernel, by decide +kernel⟩
theorem ok_init {f C fW : Addr} {fd fdW : FuncData} (F : Fun K "__init__" "Point.__init__" sInit f fd) (T : Txt K mg C) (FW : Fun K "is_whole" "is_whole" sWhole fW fdW) (bW : Binds K fdW ["value"] []) (mW : mg "is_whole" = some (.ref fW)) :
    FnOk P w K mg base CX0 2 f fd ["self", "x", "y"] (spInit C) := by
  have GW : FnOk P w K mg base CX0 1 fW fdW ["value"] spWhole := ok_whole FW T
  refine F.ok scInit (fun vs H Q E h => ?_) (fun cdv A outer s H vs Q E hr h => ?_)
  · obtain ⟨p, dx, x, y, rfl, _⟩ := h
    rfl
  · obtain ⟨p, dx, x, y, rfl, hp, k⟩ := h
    refine ⟨_, pss_cons (ps_if (PW.pt (pw_or (pt_not (pt_val (pe_call GW hr rfl mW FW.kp bW .nil pass0 (pa_cons (pv 1) pa_nil)))) (pw_or1 (pt_not (pt_val (pe_call GW hr rfl mW FW.kp bW .nil pass0 (pa_cons (pv 2) pa_nil))))))) (pss_one ps_never) pss_nil)
      (pss_cons (ps_fld (pv 0) (pv 1) rfl) (pss_one (ps_fld (pv 0) (pv 2) rfl))), ?_⟩
    refine ⟨_, rfl, x, rfl, true, rfl, ?_⟩
    refine iteF ?_
    refine ⟨_, rfl, y, rfl, true, rfl, ?_⟩
    refine iteF ?_
    refine ⟨_, rfl, _, rfl, p, C, dx, [], rfl, hp, T.cl, T.nX, (by show 0 < 1000; decide), ?_⟩
    refine ⟨_, rfl, _, rfl, p, C, dx, _, rfl, upd_same, T.cl, T.nY, (by show 1 < 1000; decide), ?_⟩
    exact k
theorem ty_ins {C a dx : Addr} {fs : List (Str × V)} {H : Hp} (T : Txt K mg C) (h : H a = some (.ins C dx fs)) : TyX K H (.ref a) (.ref C) := .base (.ins h T.cl T.ha T.hn T.htk T.hm)
theorem scIsPoint : FnScope ["thing"] ["thing"] (defScope sIsPoint) := ⟨rfl, rfl, rfl, by decide +kernel, rfl, by decide +kernel, by decide +kernel⟩
theorem ok_is_point {f C fW : Addr} {fd fdW : FuncData} (F : Fun K "is_point" "is_point" sIsPoint f fd) (T : Txt K mg C) (FW : Fun K "is_whole" "is_whole" sWhole fW fdW) (bW : Binds K fdW ["value"] []) (mW : mg "is_whole" = some (.ref fW)) :
    FnOk P w K mg base CX0 2 f fd ["thing"] (spIsPoint C) := by
  have GW : FnOk P w K mg base CX0 1 fW fdW ["value"] spWhole := ok_whole FW T
  refine F.ok scIsPoint (fun vs H Q E h => ?_) (fun cdv A outer s H vs Q E hr h => ?_)
  · obtain ⟨v, x, y, rfl, _⟩ := h
    rfl
  · obtain ⟨v, x, y, rfl, ⟨a, rfl, hv⟩, k⟩ := h
    refine ⟨_, pss_cons (ps_if (pt_val (pe_callB call_isi (by rfl) T.isi (by decide +kernel) (pa_cons (pv 0) (pa_cons (pe_glob (v := .ref C) rfl T.mgC rfl) pa_nil)))) (pss_one (ps_ret pe_bl)) pss_nil)
      (pss_one (ps_ret (pe_and (pe_callB call_isi (by rfl) T.isi (by decide +kernel) (pa_cons (pv 0) (pa_cons (pe_bltn (v := .ty "tuple") (by rfl) T.tuple (by decide +kernel) rfl) pa_nil)))
        (pe_and (pe_cmpR op_eq (pe_callB call_len_seq (by rfl) T.len PySem.boot_len (pa_cons (pv 0) pa_nil)) pe_int (nomark _))
        (pe_and (pe_call GW hr rfl mW FW.kp bW .nil pass0 (pa_cons (pe_ix ix_tup (pv 0) pe_int (fun _ _ => rfl)) pa_nil))
        (pe_one (pe_call GW hr rfl mW FW.kp bW .nil pass0 (pa_cons (pe_ix ix_tup (pv 0) pe_int (fun _ _ => rfl)) pa_nil)))))))), ?_⟩
    rcases hv with ⟨dx, hv⟩ | hv
    · refine ⟨_, rfl, _, _, _, _, true, rfl, .own C, ty_ins T hv, T.kCC, true, rfl, ?_⟩
      refine iteT ?_
      exact k
    · refine ⟨_, rfl, _, _, _, _, false, rfl, .own C, .base (.tup hv), T.kTC, false, rfl, ?_⟩
      refine iteF ?_
      refine ⟨_, rfl, _, _, _, _, true, rfl, .ty _, .base (.tup hv), kit_ty (by decide +kernel), true, rfl, ?_⟩
      refine iteT ?_
      refine ⟨_, rfl, a, _, rfl, .inr (SqT.of hv), rfl, true, rfl, ?_⟩
      refine iteT ?_
      refine ⟨_, rfl, a, _, _, _, rfl, rfl, SqT.of hv, atI_nat (j := 0) rfl, x, rfl, true, rfl, ?_⟩
      refine iteT ?_
      exact ⟨_, rfl, a, _, _, _, rfl, rfl, SqT.of hv, atI_nat (j := 1) rfl, y, rfl, k⟩

/-- a new Point -/
theorem made_same {C x dx : Addr} {H : Hp} {X Y : Int} (nx : H x = none) (nd : H dx = none) : Same H (upd (upd (upd (upd H dx (.own x)) x (.ins C dx [])) x (.ins C dx (putF "x" (.int X) []))) x (.ins C dx (ptF X Y))) := fun b o e => by
  have n1 : b ≠ x := ne_of_none e nx
  have n2 : b ≠ dx := ne_of_none e nd
  rw [upd_ne n1, upd_ne n1, upd_ne n1, upd_ne n2]
  exact e
theorem made_is {C x dx : Addr} {H : Hp} {X Y : Int} : IsP C (.ref x) X Y (upd (upd (upd (upd H dx (.own x)) x (.ins C dx [])) x (.ins C dx (putF "x" (.int X) []))) x (.ins C dx (ptF X Y))) := ⟨x, dx, rfl, upd_same⟩
/-- Point(a, b) of two numbers: spInit's reading at a new instance -/
theorem make_pt {C : Addr} {H : Hp} {X Y : Int} {Q : VK} {E : XK} (k : ∀ v H', Same H H' → IsP C v X Y H' → Q v H') :
    ∀ x dx, H x = none → H dx = none → dx ≠ x → spInit C (.ref x :: ([.int X, .int Y] ++ [])) (upd (upd H dx (.own x)) x (.ins C dx [])) (fun v H2 => v = .non ∧ Q (.ref x) H2) E := fun x dx nx nd _ =>
  ⟨x, dx, X, Y, rfl, upd_same, rfl, k _ _ (made_same nx nd) made_is⟩
/-- the program's defs that others call, as they stand -/
structure Defs (K : PySem.W.Frag) (mg : Str → Option Value) (C fW fI fP fA fO : Addr) (fdW fdI fdP fdA fdO : FuncData) : Prop where
  T : Txt K mg C
  FW : Fun K "is_whole" "is_whole" sWhole fW fdW
  bW : Binds K fdW ["value"] []
  mW : mg "is_whole" = some (.ref fW)
  M : Mk K C fI
  FI : Fun K "__init__" "Point.__init__" sInit fI fdI
  bI : Binds K fdI ["self", "x", "y"] []
  FP : Fun K "is_point" "is_point" sIsPoint fP fdP
  bP : Binds K fdP ["thing"] []
  mP : mg "is_point" = some (.ref fP)
  FA : Fun K "as_point" "as_point" sAsPoint fA fdA
  bA : Binds K fdA ["thing"] []
  mA : mg "as_point" = some (.ref fA)
  FO : Fun K "operand" "operand" sOperand fO fdO
  bO : Binds K fdO ["thing"] []
  mO : mg "operand" = some (.ref fO)
variable {C fW fI fP fA fO : Addr} {fdW fdI fdP fdA fdO : FuncData}
theorem Defs.GW (D : Defs K mg C fW fI fP fA fO fdW fdI fdP fdA fdO) : FnOk P w K mg base CX0 1 fW fdW ["value"] spWhole := ok_whole D.FW D.T
theorem Defs.GI (D : Defs K mg C fW fI fP fA fO fdW fdI fdP fdA fdO) : FnOk P w K mg base CX0 2 fI fdI ["self", "x", "y"] (spInit C) := ok_init D.FI D.T D.FW D.bW D.mW
theorem Defs.GP (D : Defs K mg C fW fI fP fA fO fdW fdI fdP fdA fdO) : FnOk P w K mg base CX0 2 fP fdP ["thing"] (spIsPoint C) := ok_is_point D.FP D.T D.FW D.bW D.mW
theorem scAsPoint : FnScope ["thing"] ["thing"] (defScope sAsPoint) := ⟨rfl, rfl, rfl, by decide +kernel, rfl, by decide +kernel, by decide +kernel⟩
theorem Defs.GA (D : Defs K mg C fW fI fP fA fO fdW fdI fdP fdA fdO) : FnOk P w K mg base CX0 4 fA fdA ["thing"] (spAsPoint C) := by
  have GP : FnOk P w K mg base CX0 2 fP fdP ["thing"] (spIsPoint C) := D.GP
  have GI : FnOk P w K mg base CX0 2 fI fdI ["self", "x", "y"] (spInit C) := D.GI
  have T := D.T
  refine D.FA.ok scAsPoint (fun vs H Q E h => ?_) (fun cdv A outer s H vs Q E hr h => ?_)
  · obtain ⟨v, x, y, rfl, _⟩ := h
    rfl
  · obtain ⟨v, x, y, rfl, hp, k⟩ := h
    refine ⟨_, pss_cons (ps_if (pt_not (pt_val (pe_call GP (hr.mono (by decide)) rfl D.mP D.FP.kp D.bP .nil pass0 (pa_cons (pv 0) pa_nil)))) (pss_one ps_never) pss_nil)
      (pss_cons (ps_if (pt_val (pe_callB call_isi (by rfl) T.isi (by decide +kernel) (pa_cons (pv 0) (pa_cons (pe_glob (v := .ref C) rfl T.mgC rfl) pa_nil)))) (pss_one (ps_ret (pv 0))) pss_nil)
      (pss_one (ps_ret (pe_make D.M GI hr rfl T.mgC D.bI .nil pass0 (pa_cons (pe_ix ix_tup (pv 0) pe_int (fun _ _ => rfl)) (pa_cons (pe_ix ix_tup (pv 0) pe_int (fun _ _ => rfl)) pa_nil)))))), ?_⟩
    refine ⟨_, rfl, v, x, y, rfl, hp, true, rfl, ?_⟩
    refine iteF ?_
    obtain ⟨a, rfl, hv⟩ := hp
    rcases hv with ⟨dx, hv⟩ | hv
    · refine ⟨_, rfl, _, _, _, _, true, rfl, .own C, ty_ins T hv, T.kCC, true, rfl, ?_⟩
      refine iteT ?_
      exact ⟨_, rfl, k _ _ (Same.refl _) ⟨a, dx, rfl, hv⟩ fun _ => rfl⟩
    · refine ⟨_, rfl, _, _, _, _, false, rfl, .own C, .base (.tup hv), T.kTC, false, rfl, ?_⟩
      refine iteF ?_
      refine ⟨_, rfl, a, _, _, _, rfl, rfl, SqT.of hv, atI_nat (j := 0) rfl, _, rfl, a, _, _, _, rfl, rfl, SqT.of hv, atI_nat (j := 1) rfl, ?_⟩
      refine make_pt fun v H2 e2 h2 => k v H2 e2 h2 fun hp => ?_
      obtain ⟨b, dy, q1, q2⟩ := hp
      cases q1
      rw [hv] at q2
      cases q2
theorem scOperand : FnScope ["thing"] ["thing"] (defScope sOperand) := ⟨rfl, rfl, rfl, by decide +kernel, rfl, by decide +kernel, by decide +kernel⟩
theorem Defs.GO (D : Defs K mg C fW fI fP fA fO fdW fdI fdP fdA fdO) : FnOk P w K mg base CX0 5 fO fdO ["thing"] (spAsPoint C) := by
  have GP : FnOk P w K mg base CX0 2 fP fdP ["thing"] (spIsPoint C) := D.GP
  have GA : FnOk P w K mg base CX0 4 fA fdA ["thing"] (spAsPoint C) := D.GA
  refine D.FO.ok scOperand (fun vs H Q E h => ?_) (fun cdv A outer s H vs Q E hr h => ?_)
  · obtain ⟨v, x, y, rfl, _⟩ := h
    rfl
  · obtain ⟨v, x, y, rfl, hp, k⟩ := h
    refine ⟨_, pss_cons (ps_if (pt_not (pt_val (pe_call GP (hr.mono (by decide)) rfl D.mP D.FP.kp D.bP .nil pass0 (pa_cons (pv 0) pa_nil)))) (pss_one ps_never) pss_nil)
      (pss_one (ps_ret (pe_call GA hr rfl D.mA D.FA.kp D.bA .nil pass0 (pa_cons (pv 0) pa_nil)))), ?_⟩
    refine ⟨_, rfl, v, x, y, rfl, hp, true, rfl, ?_⟩
    refine iteF ?_
    exact ⟨_, rfl, v, x, y, rfl, hp, k⟩
theorem scAdd : FnScope ["self", "other", "by"] ["self", "other"] (defScope sAdd) := ⟨rfl, rfl, rfl, by decide +kernel, rfl, by decide +kernel, by decide +kernel⟩
theorem ok_add {f : Addr} {fd : FuncData} (F : Fun K "__add__" "Point.__add__" sAdd f fd) (D : Defs K mg C fW fI fP fA fO fdW fdI fdP fdA fdO) : FnOk P w K mg base CX0 6 f fd ["self", "other"] (spBin C (· + ·)) := by
  have GO : FnOk P w K mg base CX0 5 fO fdO ["thing"] (spAsPoint C) := D.GO
  have GI : FnOk P w K mg base CX0 2 fI fdI ["self", "x", "y"] (spInit C) := D.GI
  have T := D.T
  refine F.ok scAdd (fun vs H Q E h => ?_) (fun cdv A outer s H vs Q E hr h => ?_)
  · obtain ⟨v, u, x, y, z, t, rfl, _⟩ := h
    rfl
  · obtain ⟨v, u, x, y, z, t, rfl, hv, hu, k⟩ := h
    refine ⟨_, pss_cons (ps_set (i := 2) scAdd.nd rfl (Or.inl rfl) (pe_call GO hr rfl D.mO D.FO.kp D.bO .nil pass0 (pa_cons (pv 1) pa_nil)))
      (pss_one (ps_ret (pe_make D.M GI (hr.mono (by decide)) rfl T.mgC D.bI .nil pass0 (pa_cons (pe_op op_add (pe_fld (pv 0) rfl) (pe_fld (pv 2) rfl)) (pa_cons (pe_op op_add (pe_fld (pv 0) rfl) (pe_fld (pv 2) rfl)) pa_nil))))), ?_⟩
    refine ⟨_, rfl, u, z, t, rfl, hu, fun w H' e hw _ => ?_⟩
    obtain ⟨a, dx, rfl, ha⟩ := hv.ex e
    obtain ⟨b, dy, rfl, hb⟩ := hw
    refine ⟨_, rfl, a, C, dx, _, _, rfl, ha, T.cl, T.nX, ptF_x _ _, _, rfl, b, C, dy, _, _, rfl, hb, T.cl, T.nX, ptF_x _ _, _, _, rfl, rfl, ?_⟩
    refine ⟨_, rfl, a, C, dx, _, _, rfl, ha, T.cl, T.nY, ptF_y _ _, _, rfl, b, C, dy, _, _, rfl, hb, T.cl, T.nY, ptF_y _ _, _, _, rfl, rfl, ?_⟩
    exact make_pt fun v H2 e2 h2 => k v H2 (e.trans e2) h2
theorem scSub : FnScope ["self", "other", "by"] ["self", "other"] (defScope sSub) := ⟨rfl, rfl, rfl, by decide +kernel, rfl, by decide +kernel, by decide +kernel⟩
theorem ok_sub {f : Addr} {fd : FuncData} (F : Fun K "__sub__" "Point.__sub__" sSub f fd) (D : Defs K mg C fW fI fP fA fO fdW fdI fdP fdA fdO) : FnOk P w K mg base CX0 6 f fd ["self", "other"] (spBin C (· - ·)) := by
  have GO : FnOk P w K mg base CX0 5 fO fdO ["thing"] (spAsPoint C) := D.GO
  have GI : FnOk P w K mg base CX0 2 fI fdI ["self", "x", "y"] (spInit C) := D.GI
  have T := D.T
  refine F.ok scSub (fun vs H Q E h => ?_) (fun cdv A outer s H vs Q E hr h => ?_)
  · obtain ⟨v, u, x, y, z, t, rfl, _⟩ := h
    rfl
  · obtain ⟨v, u, x, y, z, t, rfl, hv, hu, k⟩ := h
    refine ⟨_, pss_cons (ps_set (i := 2) scSub.nd rfl (Or.inl rfl) (pe_call GO hr rfl D.mO D.FO.kp D.bO .nil pass0 (pa_cons (pv 1) pa_nil)))
      (pss_one (ps_ret (pe_make D.M GI (hr.mono (by decide)) rfl T.mgC D.bI .nil pass0 (pa_cons (pe_op op_sub (pe_fld (pv 0) rfl) (pe_fld (pv 2) rfl)) (pa_cons (pe_op op_sub (pe_fld (pv 0) rfl) (pe_fld (pv 2) rfl)) pa_nil))))), ?_⟩
    refine ⟨_, rfl, u, z, t, rfl, hu, fun w H' e hw _ => ?_⟩
    obtain ⟨a, dx, rfl, ha⟩ := hv.ex e
    obtain ⟨b, dy, rfl, hb⟩ := hw
    refine ⟨_, rfl, a, C, dx, _, _, rfl, ha, T.cl, T.nX, ptF_x _ _, _, rfl, b, C, dy, _, _, rfl, hb, T.cl, T.nX, ptF_x _ _, _, _, rfl, rfl, ?_⟩
    refine ⟨_, rfl, a, C, dx, _, _, rfl, ha, T.cl, T.nY, ptF_y _ _, _, rfl, b, C, dy, _, _, rfl, hb, T.cl, T.nY, ptF_y _ _, _, _, rfl, rfl, ?_⟩
    exact make_pt fun v H2 e2 h2 => k v H2 (e.trans e2) h2
theorem IsPt.opnd {v : V} {x y : Int} {H : Hp} (h : IsPt C v x y H) : (∃ b dy gs, v = .ref b ∧ H b = some (.ins C dy gs)) ∨ ∃ b xs, v = .ref b ∧ H b = some (.tup xs) := by
  obtain ⟨a, rfl, h⟩ := h
  rcases h with ⟨dx, h⟩ | h
  · exact .inl ⟨a, dx, _, rfl, h⟩
  · exact .inr ⟨a, _, rfl, h⟩
theorem cross_no (x y : Int) : (ptF x y).lookup ("cross" : Str) = none := ptF_no _ _ (by decide +kernel) (by decide +kernel)
theorem scSide : FnScope ["a", "b", "point", "start", "end", "place"] ["a", "b", "point"] (defScope sSide) := ⟨rfl, rfl, rfl, by decide +kernel, rfl, by decide +kernel, by decide +kernel⟩
theorem ok_side {f : Addr} {fd : FuncData} (F : Fun K "side" "side" sSide f fd) (D : Defs K mg C fW fI fP fA fO fdW fdI fdP fdA fdO) : FnOk P w K mg base CX0 7 f fd ["a", "b", "point"] (spSide C) := by
  have GA : FnOk P w K mg base CX0 4 fA fdA ["thing"] (spAsPoint C) := D.GA
  have T := D.T
  refine F.ok scSide (fun vs H Q E h => ?_) (fun cdv A outer s H vs Q E hr h => ?_)
  · obtain ⟨n, a, b, p, ax, ay, bx, by', px, py, rfl, _⟩ := h
    rfl
  · obtain ⟨n, a, b, p, ax, ay, bx, by', px, py, rfl, ha, hb, hp, n1, s1, s2, s3, s4, s5, s6, k⟩ := h
    have hr4 : Room 4 _ := hr.mono (by decide)
    refine ⟨_, pss_cons (ps_set (i := 3) scSide.nd rfl (Or.inl rfl) (pe_call GA hr4 rfl D.mA D.FA.kp D.bA .nil pass0 (pa_cons (pv 0) pa_nil)))
      (pss_cons (ps_set (i := 4) scSide.nd rfl (Or.inl rfl) (pe_call GA hr4 rfl D.mA D.FA.kp D.bA .nil pass0 (pa_cons (pv 1) pa_nil)))
      (pss_cons (ps_set (i := 5) scSide.nd rfl (Or.inl rfl) (pe_call GA hr4 rfl D.mA D.FA.kp D.bA .nil pass0 (pa_cons (pv 2) pa_nil)))
      (pss_one (ps_ret (pe_op op_sub
        (pe_op op_mulW (pe_op op_sub (pe_fld (pv 4) rfl) (pe_fld (pv 3) rfl)) (pe_op op_sub (pe_fld (pv 5) rfl) (pe_fld (pv 3) rfl)))
        (pe_op op_mulW (pe_op op_sub (pe_fld (pv 4) rfl) (pe_fld (pv 3) rfl)) (pe_op op_sub (pe_fld (pv 5) rfl) (pe_fld (pv 3) rfl)))))))), ?_⟩
    refine ⟨_, rfl, a, ax, ay, rfl, ha, fun w1 H1 e1 h1 _ => ?_⟩
    refine ⟨_, rfl, b, bx, by', rfl, hb.ex e1, fun w2 H2 e2 h2 _ => ?_⟩
    refine ⟨_, rfl, p, px, py, rfl, hp.ex (e1.trans e2), fun w3 H3 e3 h3 _ => ?_⟩
    obtain ⟨a1, d1, rfl, z1⟩ := (h1.ex e2).ex e3
    obtain ⟨a2, d2, rfl, z2⟩ := h2.ex e3
    obtain ⟨a3, d3, rfl, z3⟩ := h3
    refine ⟨_, rfl, a2, C, d2, _, _, rfl, z2, T.cl, T.nX, ptF_x _ _, _, rfl, a1, C, d1, _, _, rfl, z1, T.cl, T.nX, ptF_x _ _, _, _, rfl, rfl, ?_⟩
    refine ⟨_, rfl, a3, C, d3, _, _, rfl, z3, T.cl, T.nY, ptF_y _ _, _, rfl, a1, C, d1, _, _, rfl, z1, T.cl, T.nY, ptF_y _ _, _, _, rfl, rfl, ?_⟩
    refine ⟨_, _, rfl, rfl, (s3.sub s1).mul (s6.sub s2) (Nat.succ_pos _) n1, ?_⟩
    refine ⟨_, rfl, a2, C, d2, _, _, rfl, z2, T.cl, T.nY, ptF_y _ _, _, rfl, a1, C, d1, _, _, rfl, z1, T.cl, T.nY, ptF_y _ _, _, _, rfl, rfl, ?_⟩
    refine ⟨_, rfl, a3, C, d3, _, _, rfl, z3, T.cl, T.nX, ptF_x _ _, _, rfl, a1, C, d1, _, _, rfl, z1, T.cl, T.nX, ptF_x _ _, _, _, rfl, rfl, ?_⟩
    refine ⟨_, _, rfl, rfl, (s4.sub s2).mul (s5.sub s1) (Nat.succ_pos _) n1, ?_⟩
    exact ⟨_, _, rfl, rfl, k _ ((e1.trans e2).trans e3)⟩
def spMul (C : Addr) : Sp := fun vs H Q _ => ∃ (v : V) (x y m : Int), vs = [v, .int m] ∧ IsP C v x y H ∧ CMulW x m ∧ CMulW y m ∧ ∀ w H', Same H H' → IsP C w (x * m) (y * m) H' → Q w H'
theorem scMul : FnScope ["self", "other"] ["self", "other"] (defScope sMul) := ⟨rfl, rfl, rfl, by decide +kernel, rfl, by decide +kernel, by decide +kernel⟩
theorem ok_mul {f : Addr} {fd : FuncData} (F : Fun K "__mul__" "Point.__mul__" sMul f fd) (D : Defs K mg C fW fI fP fA fO fdW fdI fdP fdA fdO) : FnOk P w K mg base CX0 4 f fd ["self", "other"] (spMul C) := by
  have GW : FnOk P w K mg base CX0 1 fW fdW ["value"] spWhole := D.GW
  have GI : FnOk P w K mg base CX0 2 fI fdI ["self", "x", "y"] (spInit C) := D.GI
  have T := D.T
  refine F.ok scMul (fun vs H Q E h => ?_) (fun cdv A outer s H vs Q E hr h => ?_)
  · obtain ⟨v, x, y, m, rfl, _⟩ := h
    rfl
  · obtain ⟨v, x, y, m, rfl, hv, c1, c2, k⟩ := h
    refine ⟨_, pss_cons (ps_if (pt_not (pt_val (pe_call GW (hr.mono (by decide)) rfl D.mW D.FW.kp D.bW .nil pass0 (pa_cons (pv 1) pa_nil)))) (pss_one ps_never) pss_nil)
      (pss_one (ps_ret (pe_make D.M GI hr rfl T.mgC D.bI .nil pass0 (pa_cons (pe_op op_mulW (pe_fld (pv 0) rfl) (pv 1)) (pa_cons (pe_op op_mulW (pe_fld (pv 0) rfl) (pv 1)) pa_nil))))), ?_⟩
    refine ⟨_, rfl, m, rfl, true, rfl, ?_⟩
    refine iteF ?_
    obtain ⟨a, dx, rfl, ha⟩ := hv
    refine ⟨_, rfl, a, C, dx, _, _, rfl, ha, T.cl, T.nX, ptF_x _ _, _, rfl, _, _, rfl, rfl, c1, ?_⟩
    refine ⟨_, rfl, a, C, dx, _, _, rfl, ha, T.cl, T.nY, ptF_y _ _, _, rfl, _, _, rfl, rfl, c2, ?_⟩
    exact make_pt k
def spEqP (C : Addr) : Sp := fun vs H Q _ => ∃ (v u : V) (x y z t : Int), vs = [v, u] ∧ IsP C v x y H ∧ ((IsP C u z t H ∧ Q (.bl (decide (x = z) && decide (y = t))) H) ∨ ((∃ b xs, u = .ref b ∧ H b = some (.tup xs)) ∧ Q (.bl false) H))
theorem scEq : FnScope ["self", "other"] ["self", "other"] (defScope sEq) := ⟨rfl, rfl, rfl, by decide +kernel, rfl, by decide +kernel, by decide +kernel⟩
theorem ok_eq {f : Addr} {fd : FuncData} (F : Fun K "__eq__" "Point.__eq__" sEq f fd) (T : Txt K mg C) : FnOk P w K mg base CX0 1 f fd ["self", "other"] (spEqP C) := by
  refine F.ok scEq (fun vs H Q E h => ?_) (fun cdv A outer s H vs Q E hr h => ?_)
  · obtain ⟨v, u, x, y, z, t, rfl, _⟩ := h
    rfl
  · obtain ⟨v, u, x, y, z, t, rfl, ⟨a, dx, rfl, ha⟩, hu⟩ := h
    refine ⟨_, pss_one (ps_ret (pe_and (pe_callB call_isi (by rfl) T.isi (by decide +kernel) (pa_cons (pv 1) (pa_cons (pe_glob (v := .ref C) rfl T.mgC rfl) pa_nil)))
      (pe_and (pe_cmpR op_eq (pe_fld (pv 0) rfl) (pe_fld (pv 1) rfl) (nomark _)) (pe_one (pe_cmpR op_eq (pe_fld (pv 0) rfl) (pe_fld (pv 1) rfl) (nomark _)))))), ?_⟩
    rcases hu with ⟨⟨b, dy, rfl, hb⟩, k⟩ | ⟨⟨b, xs, rfl, hb⟩, k⟩
    · refine ⟨_, rfl, _, _, _, _, true, rfl, .own C, ty_ins T hb, T.kCC, true, rfl, ?_⟩
      refine iteT ?_
      refine ⟨_, rfl, a, C, dx, _, _, rfl, ha, T.cl, T.nX, ptF_x _ _, _, rfl, b, C, dy, _, _, rfl, hb, T.cl, T.nX, ptF_x _ _, rfl, _, rfl, ?_⟩
      have ei : ∀ i j : Int, decide (V.int i = V.int j) = decide (i = j) := fun i j => by
        by_cases h : i = j
        · rw [h, decide_eq_true rfl, decide_eq_true rfl]
        · rw [decide_eq_false h, decide_eq_false (fun q => h (by cases q; rfl))]
      rw [ei x z]
      by_cases hxz : x = z
      · rw [decide_eq_true hxz] at *
        refine iteT ?_
        refine ⟨_, rfl, a, C, dx, _, _, rfl, ha, T.cl, T.nY, ptF_y _ _, _, rfl, b, C, dy, _, _, rfl, hb, T.cl, T.nY, ptF_y _ _, rfl, ?_⟩
        rw [ei y t]
        simpa using k
      · rw [decide_eq_false hxz] at *
        refine iteF ?_
        simpa using k
    · refine ⟨_, rfl, _, _, _, _, false, rfl, .own C, .base (.tup hb), T.kTC, false, rfl, ?_⟩
      refine iteF ?_
      exact k
def spPairM (C : Addr) : Sp := fun vs H Q _ => ∃ (v : V) (x y : Int), vs = [v] ∧ IsP C v x y H ∧ ∀ q H', H q = none → Same H H' → H' q = some (.tup [.int x, .int y]) → Q (.ref q) H'
end
end Fo
set_option Elab.async false
set_option linter.all false
set_option maxRecDepth 100000
set_option maxHeartbeats 2000000
namespace Fo
open PySem L2
/-! ### filledonce.points where it raises -/
def Scal : V → Prop
  | .non => True
  | .bl _ => True
  | .int _ => True
  | .str _ => True
  | _ => False
def wholeV : V → Bool
  | .int _ => true
  | _ => false
/-- what is no point: one of some kinds -/
inductive Bad (H : Hp) : V → Prop
  | non : Bad H .non
  | bl (b : Bool) : Bad H (.bl b)
  | int (i : Int) : Bad H (.int i)
  | str (z : Str) : Bad H (.str z)
  | lst {a : Addr} {xs : List V} (h : H a = some (.lst xs)) : Bad H (.ref a)
  | tup {a : Addr} {xs : List V} (h : H a = some (.tup xs)) (n : xs.length ≠ 2) : Bad H (.ref a)
  | two {a : Addr} {u v : V} (h : H a = some (.tup [u, v])) (su : Scal u) (sv : Scal v) (n : (wholeV u && wholeV v) = false) : Bad H (.ref a)
theorem Bad.ex {H H' : Hp} {v : V} (e : Same H H') (h : Bad H v) : Bad H' v := by
  cases h with
  | non => exact .non
  | bl b => exact .bl b
  | int i => exact .int i
  | str z => exact .str z
  | lst h => exact .lst (e _ _ h)
  | tup h n => exact .tup (e _ _ h) n
  | two h su sv n => exact .two (e _ _ h) su sv n
/-- what the top says besides of Point and of the error InvalidPoint at CI -/
structure TxtX (P : Program) (K : PySem.W.Frag) (mg : Str → Option Value) (C CI fII : Addr) : Prop where
  kNC : PySem.W.kitOne K (.type "NoneType") (.ref C) = some false
  kBC : PySem.W.kitOne K (.type "bool") (.ref C) = some false
  kIC : PySem.W.kitOne K (.type "int") (.ref C) = some false
  kSC : PySem.W.kitOne K (.type "str") (.ref C) = some false
  kLC : PySem.W.kitOne K (.type "list") (.ref C) = some false
  xI : FoX_thing.XTxt P K mg CI fII
  gI : mg "InvalidPoint" = some (.ref CI)
def XD (v : V) : HO := .xd [((Str.ofString "thing"), v)]
def spWholeX : Sp := fun vs H Q _ => ∃ v : V, vs = [v] ∧ Scal v ∧ Q (.bl (wholeV v)) H
def spIsPointX (C : Addr) : Sp := fun vs H Q _ => ∃ v : V, vs = [v] ∧ Bad H v ∧ Q (.bl false) H
def spInitX (C CI : Addr) : Sp := fun vs H _ E => ∃ (p : Addr) (u v : V), vs = [.ref p, u, v] ∧ Scal u ∧ Scal v ∧ (wholeV u && wholeV v) = false ∧ ∀ t d H', Same H H' → H' t = some (.tup [u, v]) → H' d = some (XD (.ref t)) → E (.ref CI) (some d) H'
def spBadX (CI : Addr) : Sp := fun vs H _ E => ∃ v : V, vs = [v] ∧ Bad H v ∧ ∀ d H', Same H H' → H' d = some (XD v) → E (.ref CI) (some d) H'
section
variable {P : Program} {w : World} {K : PySem.W.Frag} {mg : Str → Option Value} {base : Heap} {C fW fI fP fA fO CI fII : Addr} {fdW fdI fdP fdA fdO : FuncData}
theorem ok_wholeX {f : Addr} {fd : FuncData} (F : Fun K "is_whole" "is_whole" sWhole f fd) (T : Txt K mg C) : FnOk P w K mg base CX0 1 f fd ["value"] spWholeX := by
  refine F.ok scWhole (fun vs H Q E h => ?_) (fun cdv A outer s H vs Q E hr h => ?_)
  · obtain ⟨v, rfl, _⟩ := h
    rfl
  · obtain ⟨v, rfl, sv, k⟩ := h
    refine ⟨_, pss_one (ps_ret (pe_and (pe_callB call_isi (by rfl) T.isi (by decide +kernel) (pa_cons (pv 0) (pa_cons (pe_bltn (v := .ty "int") (by rfl) T.int (by decide +kernel) rfl) pa_nil)))
      (pe_one (pe_not (pe_callB call_isi (by rfl) T.isi (by decide +kernel) (pa_cons (pv 0) (pa_cons (pe_bltn (v := .ty "bool") (by rfl) T.bool (by decide +kernel) rfl) pa_nil))))))), ?_⟩
    cases v with
    | non =>
      refine ⟨_, rfl, _, _, _, _, false, rfl, .ty _, .base .non, kit_ty (by decide +kernel), false, rfl, ?_⟩
      exact iteF k
    | bl b =>
      refine ⟨_, rfl, _, _, _, _, true, rfl, .ty _, .base (.bl b), kit_ty (by decide +kernel), true, rfl, ?_⟩
      refine iteT ?_
      exact ⟨_, rfl, _, _, _, _, true, rfl, .ty _, .base (.bl b), kit_ty (by decide +kernel), true, rfl, k⟩
    | int i =>
      refine ⟨_, rfl, _, _, _, _, true, rfl, .ty _, .base (.int i), kit_ty (by decide +kernel), true, rfl, ?_⟩
      refine iteT ?_
      exact ⟨_, rfl, _, _, _, _, false, rfl, .ty _, .base (.int i), kit_ty (by decide +kernel), false, rfl, k⟩
    | str z =>
      refine ⟨_, rfl, _, _, _, _, false, rfl, .ty _, .base (.str z), kit_ty (by decide +kernel), false, rfl, ?_⟩
      exact iteF k
    | _ => exact sv.elim
theorem ok_is_pointX (D : Defs K mg C fW fI fP fA fO fdW fdI fdP fdA fdO) (TX : TxtX P K mg C CI fII) : FnOk P w K mg base CX0 2 fP fdP ["thing"] (spIsPointX C) := by
  have GW : FnOk P w K mg base CX0 1 fW fdW ["value"] spWholeX := ok_wholeX D.FW D.T
  have T := D.T
  refine D.FP.ok scIsPoint (fun vs H Q E h => ?_) (fun cdv A outer s H vs Q E hr h => ?_)
  · obtain ⟨v, rfl, _⟩ := h
    rfl
  · obtain ⟨v, rfl, bad, k⟩ := h
    refine ⟨_, pss_cons (ps_if (pt_val (pe_callB call_isi (by rfl) T.isi (by decide +kernel) (pa_cons (pv 0) (pa_cons (pe_glob (v := .ref C) rfl T.mgC rfl) pa_nil)))) (pss_one (ps_ret pe_bl)) pss_nil)
      (pss_one (ps_ret (pe_and (pe_callB call_isi (by rfl) T.isi (by decide +kernel) (pa_cons (pv 0) (pa_cons (pe_bltn (v := .ty "tuple") (by rfl) T.tuple (by decide +kernel) rfl) pa_nil)))
        (pe_and (pe_cmpR op_eq (pe_callB call_len_seq (by rfl) T.len PySem.boot_len (pa_cons (pv 0) pa_nil)) pe_int (nomark _))
        (pe_and (pe_call GW hr rfl D.mW D.FW.kp D.bW .nil pass0 (pa_cons (pe_ix ix_tup (pv 0) pe_int (fun _ _ => rfl)) pa_nil))
        (pe_one (pe_call GW hr rfl D.mW D.FW.kp D.bW .nil pass0 (pa_cons (pe_ix ix_tup (pv 0) pe_int (fun _ _ => rfl)) pa_nil)))))))), ?_⟩
    cases bad with
    | non =>
      refine ⟨_, rfl, _, _, _, _, false, rfl, .own C, .base .non, TX.kNC, false, rfl, ?_⟩
      refine iteF ?_
      refine ⟨_, rfl, _, _, _, _, false, rfl, .ty _, .base .non, kit_ty (by decide +kernel), false, rfl, ?_⟩
      exact iteF k
    | bl b =>
      refine ⟨_, rfl, _, _, _, _, false, rfl, .own C, .base (.bl b), TX.kBC, false, rfl, ?_⟩
      refine iteF ?_
      refine ⟨_, rfl, _, _, _, _, false, rfl, .ty _, .base (.bl b), kit_ty (by decide +kernel), false, rfl, ?_⟩
      exact iteF k
    | int i =>
      refine ⟨_, rfl, _, _, _, _, false, rfl, .own C, .base (.int i), TX.kIC, false, rfl, ?_⟩
      refine iteF ?_
      refine ⟨_, rfl, _, _, _, _, false, rfl, .ty _, .base (.int i), kit_ty (by decide +kernel), false, rfl, ?_⟩
      exact iteF k
    | str z =>
      refine ⟨_, rfl, _, _, _, _, false, rfl, .own C, .base (.str z), TX.kSC, false, rfl, ?_⟩
      refine iteF ?_
      refine ⟨_, rfl, _, _, _, _, false, rfl, .ty _, .base (.str z), kit_ty (by decide +kernel), false, rfl, ?_⟩
      exact iteF k
    | lst h =>
      refine ⟨_, rfl, _, _, _, _, false, rfl, .own C, .base (.lst h), TX.kLC, false, rfl, ?_⟩
      refine iteF ?_
      refine ⟨_, rfl, _, _, _, _, false, rfl, .ty _, .base (.lst h), kit_ty (by decide +kernel), false, rfl, ?_⟩
      exact iteF k
    | @tup a xs h n =>
      refine ⟨_, rfl, _, _, _, _, false, rfl, .own C, .base (.tup h), T.kTC, false, rfl, ?_⟩
      refine iteF ?_
      refine ⟨_, rfl, _, _, _, _, true, rfl, .ty _, .base (.tup h), kit_ty (by decide +kernel), true, rfl, ?_⟩
      refine iteT ?_
      refine ⟨_, rfl, a, _, rfl, .inr (SqT.of h), rfl, _, rfl, ?_⟩
      have e : decide (V.int (xs.length : Int) = V.int 2) = false := decide_eq_false (fun q => n (by injection q with q; omega))
      rw [e]
      exact iteF k
    | @two a u v h su sv n =>
      refine ⟨_, rfl, _, _, _, _, false, rfl, .own C, .base (.tup h), T.kTC, false, rfl, ?_⟩
      refine iteF ?_
      refine ⟨_, rfl, _, _, _, _, true, rfl, .ty _, .base (.tup h), kit_ty (by decide +kernel), true, rfl, ?_⟩
      refine iteT ?_
      refine ⟨_, rfl, a, _, rfl, .inr (SqT.of h), rfl, true, rfl, ?_⟩
      refine iteT ?_
      refine ⟨_, rfl, a, _, _, _, rfl, rfl, SqT.of h, atI_nat (j := 0) rfl, u, rfl, su, _, rfl, ?_⟩
      cases hw : wholeV u with
      | false => exact iteF k
      | true =>
        rw [hw, Bool.true_and] at n
        refine iteT ?_
        refine ⟨_, rfl, a, _, _, _, rfl, rfl, SqT.of h, atI_nat (j := 1) rfl, v, rfl, sv, ?_⟩
        rw [n]
        exact k
/-- Point(u, v) of two that are not both integers -/
theorem ok_initX (D : Defs K mg C fW fI fP fA fO fdW fdI fdP fdA fdO) (TX : TxtX P K mg C CI fII) : FnOk P w K mg base (L2.CX P w) 3 fI fdI ["self", "x", "y"] (spInitX C CI) := by
  have GW : FnOk P w K mg base CX0 1 fW fdW ["value"] spWholeX := ok_wholeX D.FW D.T
  refine D.FI.okX scInit (fun vs H Q E h => ?_) (fun cdv A outer s H vs Q E hr h => ?_)
  · obtain ⟨p, u, v, rfl, _⟩ := h
    rfl
  · obtain ⟨p, u, v, rfl, su, sv, n, k⟩ := h
    have hr1 : Room 1 _ := hr.mono (by decide)
    refine ⟨_, pss_cons (ps_if (PW.pt (pw_or (pt_not (pt_val (pe_call GW hr1 rfl D.mW D.FW.kp D.bW .nil pass0 (pa_cons (pv 1) pa_nil)))) (pw_or1 (pt_not (pt_val (pe_call GW hr1 rfl D.mW D.FW.kp D.bW .nil pass0 (pa_cons (pv 2) pa_nil)))))))
        (pss_one (ps_raise_thing (W := fun cls d _ H => E cls d H) rfl TX.xI TX.gI hr (takes_of rfl rfl rfl rfl) (pa_cons (pe_tup (pa_cons (pv 1) (pa_cons (pv 2) pa_nil))) pa_nil))) pss_nil)
      (pss_cons ps_never (pss_one ps_never)), ?_⟩
    have fin : ∀ (t : Addr), H t = none → ∀ d, (upd H t (.tup [u, v])) d = none → E (.ref CI) (some d) (upd (upd H t (.tup [u, v])) d (XD (.ref t))) := fun t nt d nd => by
      refine k t d _ ((same_new nt).trans (same_new nd)) ?_ upd_same
      exact same_new nd _ _ upd_same
    refine ⟨_, rfl, u, rfl, su, _, rfl, ?_⟩
    cases hw : wholeV u with
    | false =>
      refine iteT ?_
      refine iteT ?_
      exact ⟨_, rfl, _, rfl, (by show 2 ≤ sizeLine; decide), fun t nt => ⟨_, rfl, fun d nd => fin t nt d nd⟩⟩
    | true =>
      rw [hw, Bool.true_and] at n
      refine iteF ?_
      refine ⟨_, rfl, v, rfl, sv, _, rfl, ?_⟩
      rw [n]
      refine iteT ?_
      exact ⟨_, rfl, _, rfl, (by show 2 ≤ sizeLine; decide), fun t nt => ⟨_, rfl, fun d nd => fin t nt d nd⟩⟩
theorem ok_as_pointX (D : Defs K mg C fW fI fP fA fO fdW fdI fdP fdA fdO) (TX : TxtX P K mg C CI fII) : FnOk P w K mg base (L2.CX P w) 3 fA fdA ["thing"] (spBadX CI) := by
  have GP : FnOk P w K mg base CX0 2 fP fdP ["thing"] (spIsPointX C) := ok_is_pointX D TX
  refine D.FA.okX scAsPoint (fun vs H Q E h => ?_) (fun cdv A outer s H vs Q E hr h => ?_)
  · obtain ⟨v, rfl, _⟩ := h
    rfl
  · obtain ⟨v, rfl, bad, k⟩ := h
    refine ⟨_, pss_cons (ps_if (pt_not (pt_val (pe_call GP hr rfl D.mP D.FP.kp D.bP .nil pass0 (pa_cons (pv 0) pa_nil))))
        (pss_one (ps_raise_thing (W := fun cls d _ H => E cls d H) rfl TX.xI TX.gI hr (takes_of rfl rfl rfl rfl) (pa_cons (pv 0) pa_nil))) pss_nil)
      (pss_cons ps_never (pss_one ps_never)), ?_⟩
    refine ⟨_, rfl, v, rfl, bad, false, rfl, ?_⟩
    refine iteT ?_
    exact ⟨_, rfl, _, rfl, fun d nd => k d _ (same_new nd) upd_same⟩
end
end Fo
set_option Elab.async false
set_option linter.all false
set_option maxRecDepth 100000
set_option maxHeartbeats 2000000
namespace Fo
open PySem L2
/-! ### the law's own helpers: the pool and its draws -/
abbrev sHand : Stmt := top 31
abbrev sDraw : Stmt := top 32
/-- what stands but at p stands -/
def But (p : Addr) (H H' : Hp) : Prop := ∀ b o, b ≠ p → H b = some o → H' b = some o
theorem But.refl (p : Addr) (H : Hp) : But p H H := fun _ _ _ h => h
theorem But.trans {p : Addr} {H H1 H2 : Hp} (a : But p H H1) (b : But p H1 H2) : But p H H2 := fun c o n h => b c o n (a c o n h)
theorem But.upd {p : Addr} {H : Hp} {o : HO} : But p H (upd H p o) := fun b u n h => by
  rw [upd_ne n]
  exact h
theorem But.of {p : Addr} {H H' : Hp} (e : Same H H') : But p H H' := fun b o _ h => e b o h
/-- from a heap that does not know p -/
theorem But.same {p : Addr} {H0 H H' : Hp} (h0 : H0 p = none) (e : Same H0 H) (b : But p H H') : Same H0 H' := fun c o h => b c o (ne_of_none h h0) (e c o h)
def PoolAt (p : Addr) (H : Hp) : Prop := ∃ i j : Int, H p = some (.lst [.int i, .int j]) ∧ 0 ≤ i ∧ 0 ≤ j ∧ j < 2147483647
theorem PoolAt.ex {p : Addr} {H H' : Hp} (e : Same H H') (h : PoolAt p H) : PoolAt p H' := by
  obtain ⟨i, j, h, r⟩ := h
  exact ⟨i, j, e _ _ h, r⟩
def spHand (K : PySem.W.Frag) : Sp := fun vs H Q _ => ∃ (a : Addr) (ns : List Int) (k : Int), vs = [.ref a, .int k] ∧ SqL K H a (ns.map V.int) ∧ ns.length ≤ 63 ∧ 0 ≤ k ∧ k ≤ 100 ∧
  ∀ p H', H p = none → Same H H' → PoolAt p H' → Q (.ref p) H'
def spDraw : Sp := fun vs H Q _ => ∃ (p : Addr) (m : Int), vs = [.ref p, .int m] ∧ PoolAt p H ∧ 0 < m ∧ m < 1073741824 ∧
  ∀ r H', 0 ≤ r → r < m → But p H H' → PoolAt p H' → Q (.int r) H'
structure TxtL (mg : Str → Option Value) : Prop where
  int : mg "int" = none
  range : mg "range" = none
  max : mg "max" = none
  min : mg "min" = none
  len : mg "len" = none
theorem head_int {ns : List Int} {lo hi : Option Int} : ∃ c : Int, atI (cutV (ns.map V.int) lo hi ++ [V.int 0]) 0 = some (V.int c) := by
  have e : cutV (ns.map V.int) lo hi = ((ns.drop (HT.sIx (ns.map V.int).length 0 lo)).take (HT.sIx (ns.map V.int).length (ns.map V.int).length hi - HT.sIx (ns.map V.int).length 0 lo)).map V.int := by
    unfold cutV
    rw [← List.map_drop, ← List.map_take]
  rw [e]
  cases (ns.drop (HT.sIx (ns.map V.int).length 0 lo)).take (HT.sIx (ns.map V.int).length (ns.map V.int).length hi - HT.sIx (ns.map V.int).length 0 lo) with
  | nil => exact ⟨0, atI_nat (j := 0) rfl⟩
  | cons c r => exact ⟨c, atI_nat (j := 0) rfl⟩
section
variable {P : Program} {w : World} {K : PySem.W.Frag} {mg : Str → Option Value} {base : Heap}
theorem scHand : FnScope ["script", "k", "cell", "seed"] ["script", "k"] (defScope sHand) := ⟨rfl, rfl, rfl, by decide +kernel, rfl, by decide +kernel, by decide +kernel⟩
theorem ok_hand {f : Addr} {fd : FuncData} (F : Fun K "_law_hand" "_law_hand" sHand f fd) (T : TxtL mg) : FnOk P w K mg base CX0 1 f fd ["script", "k"] (spHand K) := by
  refine F.ok scHand (fun vs H Q E h => ?_) (fun cdv A outer s H vs Q E hr h => ?_)
  · obtain ⟨a, ns, k, rfl, _⟩ := h
    rfl
  · obtain ⟨a, ns, k, rfl, hS, hl, k0, k1, q⟩ := h
    refine ⟨_, pss_cons (ps_set (i := 2) scHand.nd rfl (Or.inl rfl) (pe_ix ix_list (pe_op op_cat (pe_slice sl_list (pv 0) (po_some (pv 1)) (po_some (pe_op op_add (pv 1) pe_int))) (pe_lst (pa_cons pe_int pa_nil))) pe_int (fun _ _ => rfl)))
      (pss_cons (ps_set (i := 3) scHand.nd rfl (Or.inl rfl) (pe_op op_mod (pe_op op_mul (pe_op op_add (pe_op op_add (pe_op op_mod (pe_callTy call_int1 (by rfl) T.int (by decide +kernel) (pa_cons (pv 2) pa_nil)) pe_int) (pe_op op_mul pe_int (pv 1))) pe_int) pe_int) pe_int))
      (pss_one (ps_ret (pe_lst (pa_cons (pe_op op_mul (pe_callTy call_int1 (by rfl) T.int (by decide +kernel) (pa_cons (pe_cmpR op_ge (pv 2) (pe_op op_pow pe_int pe_int) (nomark _)) pa_nil)) (pv 2)) (pa_cons (pv 3) pa_nil)))))), ?_⟩
    obtain ⟨c, hc⟩ := head_int (ns := ns) (lo := some k) (hi := some (k + 1))
    -- cell
    refine ⟨_, rfl, _, rfl, _, rfl, _, rfl, _, _, rfl, rfl, _, rfl, a, _, rfl, hS, fun p1 n1 => ?_⟩
    refine ⟨(by show 1 ≤ sizeLine; decide), fun p2 n2 => ?_⟩
    have ne12 : p1 ≠ p2 := fun q => by rw [← q, upd_same] at n2; cases n2
    refine ⟨p1, p2, _, _, rfl, rfl, (by rw [upd_ne ne12, upd_same]), upd_same, ?_, fun p3 n3 => ?_⟩
    · have := cutV_length (ns.map V.int) (some k) (some (k + 1))
      rw [List.length_map] at this
      show _ + 1 ≤ sizeLine
      exact Nat.le_trans (Nat.add_le_add_right this 1) (Nat.le_trans (Nat.add_le_add_right hl 1) (by decide))
    refine ⟨p3, _, _, _, rfl, rfl, SqL.of upd_same, hc, ?_⟩
    have e1 : Same H (upd H p1 (.lst (cutV (ns.map V.int) (some k) (some (k + 1))))) := same_new n1
    have e2 := e1.trans (same_new (o := .lst [V.int 0]) n2)
    have e3 := e2.trans (same_new (o := .lst (cutV (ns.map V.int) (some k) (some (k + 1)) ++ [V.int 0])) n3)
    -- seed
    refine ⟨_, rfl, .inl ⟨_, rfl, ?_⟩⟩
    refine ⟨_, _, rfl, rfl, (by show (0 : Int) < 2147483647; decide), _, rfl, _, _, rfl, rfl, .inl ⟨by decide, by decide⟩, _, _, rfl, rfl, _, _, rfl, rfl, _, _, rfl, rfl, .inr ⟨by decide, by decide⟩, _, _, rfl, rfl, (by show (0 : Int) < 2147483629; decide), ?_⟩
    -- the list
    refine ⟨_, rfl, _, _, rfl, rfl, ⟨by decide, by decide, by decide⟩, _, _, rfl, rfl, .inr ⟨_, rfl, ?_⟩⟩
    refine ⟨_, rfl, _, _, rfl, rfl, .inl ?_, _, rfl, (by show 2 ≤ sizeLine; decide), fun p4 n4 => ?_⟩
    · split <;> exact ⟨by decide, by decide⟩
    · refine q p4 _ (Same.free e3 n4) (e3.trans (same_new n4)) ⟨_, _, upd_same, ?_, ?_, ?_⟩
      · by_cases hb : (10 : Int) ^ (18 : Int).toNat ≤ c
        · have h0 : (0 : Int) ≤ (10 : Int) ^ (18 : Int).toNat := by decide
          rw [decide_eq_true hb]
          show 0 ≤ 1 * c
          omega
        · rw [decide_eq_false hb]
          show 0 ≤ 0 * c
          omega
      · exact Int.emod_nonneg _ (by decide)
      · exact Int.lt_trans (Int.emod_lt_of_pos _ (by decide)) (by decide)
theorem scDraw : FnScope ["pool", "many", "found"] ["pool", "many"] (defScope sDraw) := ⟨rfl, rfl, rfl, by decide +kernel, rfl, by decide +kernel, by decide +kernel⟩
theorem ok_draw {f : Addr} {fd : FuncData} (F : Fun K "_law_draw" "_law_draw" sDraw f fd) (T : TxtL mg) : FnOk P w K mg base CX0 1 f fd ["pool", "many"] spDraw := by
  refine F.ok scDraw (fun vs H Q E h => ?_) (fun cdv A outer s H vs Q E hr h => ?_)
  · obtain ⟨p, m, rfl, _⟩ := h
    rfl
  · obtain ⟨p, m, rfl, ⟨i, j, hp, i0, j0, j1⟩, m0, m1, q⟩ := h
    refine ⟨_, pss_cons (ps_if (pt_cmpR op_gt (pe_ix ix_list (pv 0) pe_int (fun _ _ => rfl)) pe_int (nomark _))
        (pss_cons (ps_set (i := 2) scDraw.nd rfl (Or.inl rfl) (pe_op op_mod (pe_callTy call_int1 (by rfl) T.int (by decide +kernel) (pa_cons (pe_ix ix_list (pv 0) pe_int (fun _ _ => rfl)) pa_nil)) (pv 1)))
        (pss_cons (ps_asg (pe_op op_fdiv (pe_ix ix_list (pv 0) pe_int (fun _ _ => rfl)) (pv 1)) (pg_sub (pv 0) pe_int set_list))
        (pss_one (ps_ret (pv 2))))) pss_nil)
      (pss_cons (ps_asg (pe_op op_mod (pe_callTy call_int1 (by rfl) T.int (by decide +kernel) (pa_cons (pe_op op_add (pe_op op_mul (pe_ix ix_list (pv 0) pe_int (fun _ _ => rfl)) pe_int) pe_int) pa_nil)) pe_int) (pg_sub (pv 0) pe_int set_list))
      (pss_one (ps_ret (pe_op op_mod (pe_op op_fdiv (pe_op op_mod (pe_callTy call_int1 (by rfl) T.int (by decide +kernel) (pa_cons (pe_op op_mul (pe_ix ix_list (pv 0) pe_int (fun _ _ => rfl)) (pe_ix ix_list (pv 0) pe_int (fun _ _ => rfl))) pa_nil)) pe_int) pe_int) (pv 1))))), ?_⟩
    refine ⟨_, rfl, p, _, _, _, rfl, rfl, SqL.of hp, atI_nat (j := 0) rfl, _, _, rfl, rfl, _, rfl, ?_⟩
    refine ite2 (fun hi => ?_) (fun hi => ?_)
    · refine ⟨_, rfl, p, _, _, _, rfl, rfl, SqL.of hp, atI_nat (j := 0) rfl, .inl ⟨_, rfl, ?_⟩⟩
      refine ⟨_, rfl, _, _, rfl, rfl, m0, ?_⟩
      refine ⟨_, rfl, p, _, _, _, rfl, rfl, SqL.of hp, atI_nat (j := 0) rfl, _, rfl, _, _, rfl, rfl, ⟨m0, m1⟩, ?_⟩
      refine ⟨_, rfl, p, _, _, 0, rfl, rfl, hp, rfl, ?_⟩
      refine ⟨_, rfl, ?_⟩
      refine q _ _ (Int.emod_nonneg _ (by omega)) (Int.emod_lt_of_pos _ m0) But.upd ⟨_, _, upd_same, Int.ediv_nonneg i0 (by omega), j0, j1⟩
    · refine ⟨_, rfl, p, _, _, _, rfl, rfl, SqL.of hp, atI_nat (j := 1) rfl, _, _, rfl, rfl, .inr ⟨by decide, by decide⟩, _, _, rfl, rfl, .inl ⟨_, rfl, ?_⟩⟩
      refine ⟨_, _, rfl, rfl, (by show (0 : Int) < 2147483647; decide), ?_⟩
      refine ⟨_, rfl, p, _, _, 1, rfl, rfl, hp, rfl, ?_⟩
      have a0 : (0 : Int) ≤ (j * 48271 + 11) % 2147483647 := Int.emod_nonneg _ (by decide)
      have a1 : (j * 48271 + 11) % 2147483647 < (2147483647 : Int) := Int.emod_lt_of_pos _ (by decide)
      refine ⟨_, rfl, p, _, _, _, rfl, rfl, SqL.of upd_same, atI_nat (j := 1) rfl, _, rfl, p, _, _, _, rfl, rfl, SqL.of upd_same, atI_nat (j := 1) rfl, _, _, rfl, rfl, .inl ⟨by omega, by omega⟩, .inl ⟨_, rfl, ?_⟩⟩
      refine ⟨_, _, rfl, rfl, (by show (0 : Int) < 2147483629; decide), _, _, rfl, rfl, ⟨by decide, by decide⟩, _, rfl, _, _, rfl, rfl, m0, ?_⟩
      exact q _ _ (Int.emod_nonneg _ (by omega)) (Int.emod_lt_of_pos _ m0) But.upd ⟨_, _, upd_same, i0, a0, a1⟩
end
end Fo
set_option Elab.async false
set_option linter.all false
set_option maxRecDepth 100000
set_option maxHeartbeats 2000000
namespace Fo
open PySem L2
abbrev sPair : Stmt := top 33
def spPair : Sp := fun vs H Q _ => ∃ (p : Addr) (n : Int), vs = [.ref p, .int n] ∧ PoolAt p H ∧ 0 < n ∧ n < 1000 ∧
  ∀ q x y H', But p H H' → PoolAt p H' → H' q = some (.tup [.int x, .int y]) → -n ≤ x → x ≤ n → -n ≤ y → y ≤ n → Q (.ref q) H'
section
variable {P : Program} {w : World} {K : PySem.W.Frag} {mg : Str → Option Value} {base : Heap}
theorem scPair : FnScope ["pool", "size_here"] ["pool", "size_here"] (defScope sPair) := ⟨rfl, rfl, rfl, by decide +kernel, rfl, by decide +kernel, by decide +kernel⟩
theorem ok_pair {f fD : Addr} {fd fdD : FuncData} (F : Fun K "_law_pair" "_law_pair" sPair f fd) (T : TxtL mg) (FD : Fun K "_law_draw" "_law_draw" sDraw fD fdD) (bD : Binds K fdD ["pool", "many"] []) (mD : mg "_law_draw" = some (.ref fD)) :
    FnOk P w K mg base CX0 2 f fd ["pool", "size_here"] spPair := by
  have GD : FnOk P w K mg base CX0 1 fD fdD ["pool", "many"] spDraw := ok_draw FD T
  refine F.ok scPair (fun vs H Q E h => ?_) (fun cdv A outer s H vs Q E hr h => ?_)
  · obtain ⟨p, n, rfl, _⟩ := h
    rfl
  · obtain ⟨p, n, rfl, hp, n0, n1, q⟩ := h
    refine ⟨_, pss_one (ps_ret (pe_tup (pa_cons (pe_op op_sub (pe_call GD hr rfl mD FD.kp bD .nil pass0 (pa_cons (pv 0) (pa_cons (pe_op op_add (pe_op op_mul pe_int (pv 1)) pe_int) pa_nil))) (pv 1))
      (pa_cons (pe_op op_sub (pe_call GD hr rfl mD FD.kp bD .nil pass0 (pa_cons (pv 0) (pa_cons (pe_op op_add (pe_op op_mul pe_int (pv 1)) pe_int) pa_nil))) (pv 1)) pa_nil)))), ?_⟩
    refine ⟨_, rfl, _, rfl, _, _, rfl, rfl, .inl ⟨by decide, by decide⟩, _, _, rfl, rfl, p, _, rfl, hp, by omega, by omega, fun r1 H1 r10 r11 b1 p1 => ?_⟩
    refine ⟨_, rfl, _, _, rfl, rfl, ?_⟩
    refine ⟨_, rfl, _, rfl, _, _, rfl, rfl, .inl ⟨by decide, by decide⟩, _, _, rfl, rfl, p, _, rfl, p1, by omega, by omega, fun r2 H2 r20 r21 b2 p2 => ?_⟩
    refine ⟨_, rfl, _, _, rfl, rfl, (by show 2 ≤ sizeLine; decide), fun t ht => ?_⟩
    exact q t _ _ _ ((b1.trans b2).trans (But.of (same_new ht))) (p2.ex (same_new ht)) upd_same (by omega) (by omega) (by omega) (by omega)
end
end Fo
set_option Elab.async false
set_option linter.all false
set_option maxRecDepth 100000
set_option maxHeartbeats 2000000
namespace Fo
open PySem L2
/-! ### what raises, and the law's own door to it -/
theorem SqT.ex {K : PySem.W.Frag} {H H' : Hp} {a : Addr} {xs : List V} (e : Same H H') (h : SqT K H a xs) : SqT K H' a xs := by
  rcases h with (h | ⟨o, h⟩) | h
  · exact .inl (.inl (e _ _ h))
  · exact .inl (.inr ⟨o, e _ _ h⟩)
  · exact .inr h
mutual
theorem Dp.ex {K : PySem.W.Frag} {H H' : Hp} (e : Same H H') : ∀ (d : PyData) (v : V), Dp K H v d → Dp K H' v d
  | .none, _, h => by
    cases h
    exact .non
  | .bool b, _, h => by
    cases h
    exact .bl b
  | .int i, _, h => by
    cases h
    exact .int i
  | .str x, _, h => by
    cases h
    exact .str x
  | .list ds, _, h => by
    cases h with
    | lst hs ha => exact .lst (e.seq hs) (DpAll.ex e ds _ ha)
  | .tuple ds, _, h => by
    cases h with
    | tup hs ha => exact .tup (SqT.ex e hs) (DpAll.ex e ds _ ha)
  | .dict _, _, h => by cases h
theorem DpAll.ex {K : PySem.W.Frag} {H H' : Hp} (e : Same H H') : ∀ (ds : List PyData) (vs : List V), DpAll K H vs ds → DpAll K H' vs ds
  | [], _, h => by
    cases h
    exact .nil
  | d :: ds, _, h => by
    cases h with
    | cons h1 h2 => exact .cons (Dp.ex e d _ h1) (DpAll.ex e ds _ h2)
end
structure ShowsOk (d : PyData) : Prop where
  s : d.showable = true
  nd : d.hasDict = false
  dp : d.depth ≤ 60
  z : d.shown.length ≤ sizeLine
/-- what a call lets out is taken, whatever the slots -/
def EW (W : WX) (n : Nat) : XK := fun cls d H => ∀ σ : L2.St, σ.length = n → W cls d σ H
theorem passesW {X : Cx} {W : WX} {n : Nat} (tk : Takes X W) (hn : X.N.length = n) : Passes (L2.CX X.prog X.w) X (EW W n) := fun _ σ _ _ e s' I c => tk e s' (XE.of_call I (fun _ _ _ h => h σ (I.len.trans hn)) c)
theorem ix_tupK {X : Cx} {K : PySem.W.Frag} (h : X.K = K) : IxR X (rIxT K) := by
  subst h
  exact ix_tup
theorem int_eqT {i j : Int} (h : i = j) : decide (V.int i = V.int j) = true := decide_eq_true (by rw [h])
theorem int_eqF {i j : Int} (h : i ≠ j) : decide (V.int i = V.int j) = false := decide_eq_false (fun q => h (by injection q))
end Fo
set_option Elab.async false
set_option linter.all false
set_option maxRecDepth 100000
set_option maxHeartbeats 2000000
namespace Fo
open PySem L2
/-! ### common_divisor -/
abbrev sGcd : Stmt := top 11
def spGcd : Sp := fun vs H Q _ => ∃ a b : Int, vs = [.int a, .int b] ∧ Q (.int (Int.gcd a b : Int)) H
section
variable {P : Program} {w : World} {K : PySem.W.Frag} {mg : Str → Option Value} {base : Heap}
theorem scGcd : FnScope ["one", "other", "kept", "rest"] ["one", "other"] (defScope sGcd) := ⟨rfl, rfl, rfl, by decide +kernel, rfl, by decide +kernel, by decide +kernel⟩
theorem ok_gcd {f : Addr} {fd : FuncData} (F : Fun K "common_divisor" "common_divisor" sGcd f fd) (zA : mg "abs" = none) : FnOk P w K mg base CX0 1 f fd ["one", "other"] spGcd := by
  refine F.ok scGcd (fun vs H Q E h => ?_) (fun cdv A outer s H vs Q E hr h => ?_)
  · obtain ⟨a, b, rfl, _⟩ := h
    rfl
  · obtain ⟨a, b, rfl, k⟩ := h
    refine ⟨_, pss_cons (ps_set (i := 2) scGcd.nd rfl (Or.inl rfl) (pe_callB call_abs (by rfl) zA (by decide +kernel) (pa_cons (pv 0) pa_nil)))
      (pss_cons (ps_set (i := 3) scGcd.nd rfl (Or.inl rfl) (pe_callB call_abs (by rfl) zA (by decide +kernel) (pa_cons (pv 1) pa_nil)))
      (pss_cons (ps_while PassesOwn.never (pt_cmpR op_gt (pv 3) pe_int (nomark _)) (pss_one (ps_par (i := 2) (j := 3) (by rfl) scGcd.nd rfl rfl (by decide) rfl rfl (pa_cons (pv 3) (pa_cons (pe_op op_mod (pv 2) (pv 3)) pa_nil)) (by rfl))))
      (pss_one (ps_ret (pv 2))))), ?_⟩
    refine ⟨_, rfl, _, rfl, _, rfl, _, rfl, ?_⟩
    have ab : ∀ z : Int, (if z < 0 then -z else z) = (z.natAbs : Int) := fun z => by
      split <;> omega
    rw [ab a, ab b]
    refine ⟨fun m σ H' => ∃ p r : Nat, σ = [some (.int a), some (.int b), some (.int (p : Int)), some (.int (r : Int))] ∧ H' = H ∧ Nat.gcd p r = Int.gcd a b ∧ m = r, ⟨b.natAbs, a.natAbs, b.natAbs, rfl, rfl, rfl, rfl⟩, ?_⟩
    rintro m σ H' ⟨p, r, rfl, rfl, hg, rfl⟩
    refine ⟨_, rfl, _, _, rfl, rfl, _, rfl, ?_⟩
    by_cases h0 : (0 : Int) < (m : Int)
    · rw [decide_eq_true h0]
      refine iteT ?_
      refine ⟨fun σ' H2 => ∃ p' r' : Nat, σ' = [some (.int a), some (.int b), some (.int (p' : Int)), some (.int (r' : Int))] ∧ H2 = H' ∧ Nat.gcd p' r' = Int.gcd a b ∧ r' < m, ?_, ?_⟩
      · rintro σ' H'' ⟨p', r', rfl, rfl, hg', hl⟩
        exact ⟨r', hl, p', r', rfl, rfl, hg', rfl⟩
      · refine ⟨_, rfl, _, rfl, _, rfl, _, _, rfl, rfl, h0, _, _, rfl, ?_⟩
        refine ⟨m, p % m, ?_, rfl, ?_, Nat.mod_lt _ (by omega)⟩
        · rw [Int.natCast_emod]
          rfl
        · rw [← hg, Nat.gcd_comm p m, Nat.gcd_rec m p, Nat.gcd_comm]
    · rw [decide_eq_false h0]
      refine iteF ?_
      have m0 : m = 0 := by omega
      subst m0
      rw [Nat.gcd_zero_right] at hg
      refine ⟨_, rfl, ?_⟩
      rw [hg]
      exact k
end
end Fo
set_option Elab.async false
set_option linter.all false
set_option maxRecDepth 100000
set_option maxHeartbeats 2000000
namespace Fo
open PySem L2
/-! ### lists of pairs -/
/-- a list of pairs -/
inductive TL (H : Hp) : List V → List (Int × Int) → Prop
  | nil : TL H [] []
  | cons {q : Addr} {p : Int × Int} {xs : List V} {ps : List (Int × Int)} : H q = some (.tup [.int p.1, .int p.2]) → TL H xs ps → TL H (.ref q :: xs) (p :: ps)
theorem TL.ex {H H' : Hp} {xs : List V} {ps : List (Int × Int)} (e : Same H H') (h : TL H xs ps) : TL H' xs ps := by
  induction h with
  | nil => exact .nil
  | cons h _ ih => exact .cons (e _ _ h) ih
theorem TL.but {H H' : Hp} {D : Addr} {ys : List V} {xs : List V} {ps : List (Int × Int)} (hD : H D = some (.lst ys)) (b : But D H H') (h : TL H xs ps) : TL H' xs ps := by
  induction h with
  | nil => exact .nil
  | cons h _ ih => exact .cons (b _ _ (ne_of h hD (by intro z; cases z)) h) ih
theorem TL.length {H : Hp} {xs : List V} {ps : List (Int × Int)} (h : TL H xs ps) : xs.length = ps.length := by
  induction h with
  | nil => rfl
  | cons h _ ih => rw [List.length_cons, List.length_cons, ih]
theorem TL.append {H : Hp} {xs ys : List V} {ps qs : List (Int × Int)} (h : TL H xs ps) (h2 : TL H ys qs) : TL H (xs ++ ys) (ps ++ qs) := by
  induction h with
  | nil => exact h2
  | cons h _ ih => exact .cons h ih
theorem TL.take {H : Hp} {xs : List V} {ps : List (Int × Int)} (h : TL H xs ps) : ∀ n, TL H (xs.take n) (ps.take n) := by
  induction h with
  | nil =>
    intro n
    rw [List.take_nil, List.take_nil]
    exact .nil
  | cons h _ ih =>
    intro n
    cases n with
    | zero => exact .nil
    | succ n => exact .cons h (ih n)
theorem TL.drop {H : Hp} {xs : List V} {ps : List (Int × Int)} (h : TL H xs ps) : ∀ n, TL H (xs.drop n) (ps.drop n) := by
  induction h with
  | nil =>
    intro n
    rw [List.drop_nil, List.drop_nil]
    exact .nil
  | cons h t ih =>
    intro n
    cases n with
    | zero => exact .cons h t
    | succ n => exact ih n
theorem TL.get {H : Hp} {xs : List V} {ps : List (Int × Int)} (h : TL H xs ps) : ∀ {i : Nat} {x : V}, xs[i]? = some x → ∃ q p, x = V.ref q ∧ ps[i]? = some p ∧ H q = some (.tup [.int p.1, .int p.2]) := by
  induction h with
  | nil =>
    intro i x hx
    simp at hx
  | @cons q p _ _ h _ ih =>
    intro i x hx
    cases i with
    | zero =>
      simp at hx
      exact ⟨q, p, hx.symm, rfl, h⟩
    | succ i =>
      simp at hx
      obtain ⟨q2, p2, e1, e2, e3⟩ := ih hx
      exact ⟨q2, p2, e1, by simpa using e2, e3⟩
def pD (p : Int × Int) : PyData := .tuple [.int p.1, .int p.2]
theorem TL.dp {K : PySem.W.Frag} {H : Hp} {xs : List V} {ps : List (Int × Int)} (h : TL H xs ps) : DpAll K H xs (ps.map pD) := by
  induction h with
  | nil => exact .nil
  | cons h _ ih => exact .cons (.tup (SqT.of h) (.cons (.int _) (.cons (.int _) .nil))) ih
theorem pDs_lay : ∀ ps : List (Int × Int), PyData.canLayAll0 (ps.map pD) = true
  | [] => by simp [PyData.canLayAll0]
  | p :: ps => by simp [PyData.canLayAll0, PyData.canLay0, pD, pDs_lay ps]
theorem pDs_depth : ∀ ps : List (Int × Int), PyData.depthAll (ps.map pD) ≤ 2
  | [] => by simp [PyData.depthAll]
  | p :: ps => by
    have h1 := pDs_depth ps
    have h2 : (pD p).depth ≤ 2 := by simp [pD, PyData.depth, PyData.depthAll]
    simp only [List.map_cons, PyData.depthAll]
    omega
theorem pDs_shaped (ps : List (Int × Int)) : SeqAt.shaped (.list (ps.map pD)) = true := by
  have h1 := pDs_depth ps
  have h2 : PyData.depth (.list (ps.map pD)) ≤ 64 := by
    simp only [PyData.depth]
    omega
  show (PyData.canLay0 (.list (ps.map pD)) && decide (PyData.depth (.list (ps.map pD)) ≤ 64)) = true
  rw [Bool.and_eq_true]
  exact ⟨by simp only [PyData.canLay0]; exact pDs_lay ps, decide_eq_true h2⟩
theorem pDs_refl (ps : List (Int × Int)) : PyData.eqv (.list (ps.map pD)) (.list (ps.map pD)) = true := SeqAt.eqv_refl _ (by simp only [PyData.canLay0]; exact pDs_lay ps)
theorem TL.of_get {H : Hp} : ∀ {xs : List V} {ps : List (Int × Int)}, xs.length = ps.length → (∀ (i : Nat) x, xs[i]? = some x → ∃ q p, x = V.ref q ∧ ps[i]? = some p ∧ H q = some (.tup [.int p.1, .int p.2])) → TL H xs ps
  | [], [], _, _ => .nil
  | [], p :: ps, h, _ => by simp at h
  | x :: xs, [], h, _ => by simp at h
  | x :: xs, p :: ps, h, hg => by
    obtain ⟨q, p', rfl, hp, hq⟩ := hg 0 x rfl
    cases hp
    exact .cons hq (TL.of_get (by simpa using h) fun i y hy => hg (i + 1) y (by simpa using hy))
theorem tup_ne {pl q : Addr} {H : Hp} {xs : List V} (hp : PoolAt pl H) (h : H q = some (.tup xs)) : q ≠ pl := by
  obtain ⟨i, j, hp, _⟩ := hp
  exact ne_of h hp (by intro z; cases z)
theorem pair_no (x y : Int) : (ptF x y).lookup ("pair" : Str) = none := ptF_no _ _ (by decide +kernel) (by decide +kernel)
end Fo
set_option Elab.async false
set_option linter.all false
set_option maxRecDepth 100000
set_option maxHeartbeats 2000000
namespace Fo
open PySem L2
/-! ### filledonce.triangles -/
abbrev sTInit : Stmt := inClass (top 24) 0
abbrev sCorners : Stmt := inClass (top 24) 1
abbrev sEdges : Stmt := inClass (top 24) 2
abbrev sArea : Stmt := inClass (top 24) 3
abbrev sMoved : Stmt := inClass (top 24) 4
abbrev sTIn : Stmt := inClass (top 24) 5
abbrev sTEq : Stmt := inClass (top 24) 6
abbrev I2 := Int × Int
def sd (a b p : I2) : Int := sideI a.1 a.2 b.1 b.2 p.1 p.2
def Sm2 (n : Nat) (p : I2) : Prop := Sm n p.1 ∧ Sm n p.2
theorem Sm2.up {n m : Nat} {p : I2} (h : Sm2 n p) (l : n ≤ m) : Sm2 m p := ⟨h.1.up l, h.2.up l⟩
def tipF (l : Addr) : List (Str × V) := putF "tips" (.ref l) []
theorem tipF_tips (l : Addr) : (tipF l).lookup ("tips" : Str) = some (.ref l) := by
  unfold tipF
  rw [lookup_putF, if_pos rfl]
theorem tipF_no (l : Addr) {m : Str} (h : ¬ m = "tips") : (tipF l).lookup m = none := by
  unfold tipF
  rw [lookup_putF, if_neg h]
  rfl
/-- three Points -/
def Three (C : Addr) (v1 v2 v3 : V) (a b c : I2) (H : Hp) : Prop := IsP C v1 a.1 a.2 H ∧ IsP C v2 b.1 b.2 H ∧ IsP C v3 c.1 c.2 H
theorem Three.ex {C : Addr} {v1 v2 v3 : V} {a b c : I2} {H H' : Hp} (e : Same H H') (h : Three C v1 v2 v3 a b c H) : Three C v1 v2 v3 a b c H' := ⟨h.1.ex e, h.2.1.ex e, h.2.2.ex e⟩
/-- a Triangle with these corners -/
def IsT (C CT : Addr) (v : V) (a b c : I2) (H : Hp) : Prop := ∃ t dx l v1 v2 v3, v = .ref t ∧ H t = some (.ins CT dx (tipF l)) ∧ H l = some (.lst [v1, v2, v3]) ∧ Three C v1 v2 v3 a b c H
theorem IsT.ex {C CT : Addr} {v : V} {a b c : I2} {H H' : Hp} (e : Same H H') (h : IsT C CT v a b c H) : IsT C CT v a b c H' := by
  obtain ⟨t, dx, l, v1, v2, v3, rfl, h1, h2, h3⟩ := h
  exact ⟨t, dx, l, v1, v2, v3, rfl, e _ _ h1, e _ _ h2, h3.ex e⟩
def IsPt2 (C : Addr) (v : V) (p : I2) (H : Hp) : Prop := IsPt C v p.1 p.2 H
theorem IsPt2.ex {C : Addr} {v : V} {p : I2} {H H' : Hp} (e : Same H H') (h : IsPt2 C v p H) : IsPt2 C v p H' := IsPt.ex e h
/-- b and c, turned against the clock -/
def onB (a b c : I2) : I2 := if 0 < sd a b c then b else c
def onC (a b c : I2) : I2 := if 0 < sd a b c then c else b
def spTInit (C CT : Addr) : Sp := fun vs H Q _ => ∃ (n : Nat) (p dx : Addr) (u v w : V) (a b c : I2), vs = [.ref p, u, v, w] ∧ H p = some (.ins CT dx []) ∧ IsPt2 C u a H ∧ IsPt2 C v b H ∧ IsPt2 C w c H ∧ n < 1000 ∧ Sm2 n a ∧ Sm2 n b ∧ Sm2 n c ∧ sd a b c ≠ 0 ∧
  ∀ l v1 v2 v3 H', But p H H' → H' p = some (.ins CT dx (tipF l)) → H' l = some (.lst [v1, v2, v3]) → Three C v1 v2 v3 a (onB a b c) (onC a b c) H' → Q .non H'
def spCorners (C CT : Addr) : Sp := fun vs H Q _ => ∃ (t : V) (a b c : I2), vs = [t] ∧ IsT C CT t a b c H ∧ ∀ l v1 v2 v3 H', H l = none → Same H H' → H' l = some (.lst [v1, v2, v3]) → Three C v1 v2 v3 a b c H' → Q (.ref l) H'
/-- the list of the edges -/
def IsE (C : Addr) (v : V) (a b c : I2) (H : Hp) : Prop := ∃ l e1 e2 e3 v1 v2 v3, v = .ref l ∧ H l = some (.lst [.ref e1, .ref e2, .ref e3]) ∧ H e1 = some (.tup [v1, v2]) ∧ H e2 = some (.tup [v2, v3]) ∧ H e3 = some (.tup [v3, v1]) ∧ Three C v1 v2 v3 a b c H
theorem IsE.ex {C : Addr} {v : V} {a b c : I2} {H H' : Hp} (e : Same H H') (h : IsE C v a b c H) : IsE C v a b c H' := by
  obtain ⟨l, e1, e2, e3, v1, v2, v3, rfl, h1, h2, h3, h4, h5⟩ := h
  exact ⟨l, e1, e2, e3, v1, v2, v3, rfl, e _ _ h1, e _ _ h2, e _ _ h3, e _ _ h4, h5.ex e⟩
def spEdges (C CT : Addr) : Sp := fun vs H Q _ => ∃ (t : V) (a b c : I2), vs = [t] ∧ IsT C CT t a b c H ∧ ∀ v H', Same H H' → IsE C v a b c H' → Q v H'
def spArea (C CT : Addr) : Sp := fun vs H Q _ => ∃ (n : Nat) (t : V) (a b c : I2), vs = [t] ∧ IsT C CT t a b c H ∧ n < 1000 ∧ Sm2 n a ∧ Sm2 n b ∧ Sm2 n c ∧ ∀ H', Same H H' → Q (.int (sd a b c)) H'
def mv (p q : I2) : I2 := (p.1 + q.1, p.2 + q.2)
def spMoved (C CT : Addr) : Sp := fun vs H Q _ => ∃ (n : Nat) (t u : V) (a b c by' : I2), vs = [t, u] ∧ IsT C CT t a b c H ∧ IsPt2 C u by' H ∧ n < 999 ∧ Sm2 n a ∧ Sm2 n b ∧ Sm2 n c ∧ Sm2 n by' ∧ 0 < sd a b c ∧ ∀ v H', Same H H' → IsT C CT v (mv a by') (mv b by') (mv c by') H' → Q v H'
def inT (a b c p : I2) : Bool := decide (0 ≤ sd a b p) && (decide (0 ≤ sd b c p) && decide (0 ≤ sd c a p))
def spTIn (C CT : Addr) : Sp := fun vs H Q _ => ∃ (t u : V), vs = [t, u] ∧ ((∃ (n : Nat) (a b c p : I2), IsT C CT t a b c H ∧ IsPt2 C u p H ∧ n < 1000 ∧ Sm2 n a ∧ Sm2 n b ∧ Sm2 n c ∧ Sm2 n p ∧ ∀ H', Same H H' → Q (.bl (inT a b c p)) H') ∨ (Bad H u ∧ Q (.bl false) H))
/-- the edge (a, b) is one of d e f -/
def hasE (a b d e f : I2) : Bool := (decide (d = a) && decide (e = b)) || ((decide (e = a) && decide (f = b)) || (decide (f = a) && decide (d = b)))
def eqT (a b c d e f : I2) : Bool := hasE a b d e f && hasE b c d e f
def spTEq (C CT : Addr) : Sp := fun vs H Q _ => ∃ (t u : V) (a b c : I2), vs = [t, u] ∧ IsT C CT t a b c H ∧ ((∃ d e f : I2, IsT C CT u d e f H ∧ ∀ H', Same H H' → Q (.bl (eqT a b c d e f)) H') ∨ ((∃ q xs, u = .ref q ∧ H q = some (.lst xs)) ∧ Q (.bl false) H))
/-- what the top has written of Triangle -/
structure TxtT (K : PySem.W.Frag) (mg : Str → Option Value) (CT : Addr) : Prop where
  cl : Cls K CT
  nT : NoAttr K CT "tips"
  mgT : mg "Triangle" = some (.ref CT)
  list : mg "list" = none
  all : mg "all" = none
  ha : PySem.W.findIn K (.ref CT) "__class__" = some (some (.builtin "object.__class__"))
  hm : PySem.W.mroIn K CT (.type "object") = some true
  kLT : PySem.W.kitOne K (.type "list") (.ref CT) = some false
  kTT : PySem.W.kitOne K (.ref CT) (.ref CT) = some true
/-- the defs of Triangle -/
structure TDefs (K : PySem.W.Frag) (mg : Str → Option Value) (C CT fS fTI fCo fEd fAr fEq fAd pAr : Addr) (fdS fdTI fdCo fdEd fdAr fdEq fdAd : FuncData) : Prop where
  TT : TxtT K mg CT
  FS : Fun K "side" "side" sSide fS fdS
  bS : Binds K fdS ["a", "b", "point"] []
  mS : mg "side" = some (.ref fS)
  MT : Mk K CT fTI
  FTI : Fun K "__init__" "Triangle.__init__" sTInit fTI fdTI
  bTI : Binds K fdTI ["self", "a", "b", "c"] []
  FCo : Fun K "corners" "Triangle.corners" sCorners fCo fdCo
  bCo : Binds K fdCo ["self"] []
  mCo : Meth K CT "corners" fCo
  FEd : Fun K "edges" "Triangle.edges" sEdges fEd fdEd
  bEd : Binds K fdEd ["self"] []
  mEd : Meth K CT "edges" fEd
  FAr : Fun K "area2" "Triangle.area2" sArea fAr fdAr
  bAr : Binds K fdAr ["self"] []
  pAr : PropOf K CT "area2" pAr fAr
  FEq : Fun K "__eq__" "Point.__eq__" sEq fEq fdEq
  bEq : Binds K fdEq ["self", "other"] []
  oEq : PySem.W.findIn K (.ref C) "__eq__" = some (some (.ref fEq))
  iEq : PySem.W.isFn K (.ref fEq) = true
  FAd : Fun K "__add__" "Point.__add__" sAdd fAd fdAd
  bAd : Binds K fdAd ["self", "other"] []
  oAd : OwnOp K C .Add fAd
section
variable {P : Program} {w : World} {K : PySem.W.Frag} {mg : Str → Option Value} {base : Heap}
variable {C fW fI fP fA fO CT fS fTI fCo fEd fAr fEq fAd pAr : Addr} {fdW fdI fdP fdA fdO fdS fdTI fdCo fdEd fdAr fdEq fdAd : FuncData}
theorem scTInit : FnScope ["self", "a", "b", "c", "first", "second", "third", "turn"] ["self", "a", "b", "c"] (defScope sTInit) := ⟨rfl, rfl, rfl, by decide +kernel, rfl, by decide +kernel, by decide +kernel⟩
theorem TDefs.GTI (d : TDefs K mg C CT fS fTI fCo fEd fAr fEq fAd pAr fdS fdTI fdCo fdEd fdAr fdEq fdAd) (D : Defs K mg C fW fI fP fA fO fdW fdI fdP fdA fdO) : FnOk P w K mg base CX0 8 fTI fdTI ["self", "a", "b", "c"] (spTInit C CT) := by
  have GA : FnOk P w K mg base CX0 4 fA fdA ["thing"] (spAsPoint C) := D.GA
  have GS : FnOk P w K mg base CX0 7 fS fdS ["a", "b", "point"] (spSide C) := ok_side d.FS D
  refine d.FTI.ok scTInit (fun vs H Q E h => ?_) (fun cdv A outer s H vs Q E hr h => ?_)
  · obtain ⟨n, p, dx, u, v, w, a, b, c, rfl, _⟩ := h
    rfl
  · obtain ⟨n, p, dx, u, v, w, a, b, c, rfl, hp, hu, hv, hw, n1, sa, sb, sc, ne, k⟩ := h
    have hr4 : Room 4 _ := hr.mono (by decide)
    refine ⟨_, pss_cons (ps_set (i := 4) scTInit.nd rfl (Or.inl rfl) (pe_call GA hr4 rfl D.mA D.FA.kp D.bA .nil pass0 (pa_cons (pv 1) pa_nil)))
      (pss_cons (ps_set (i := 5) scTInit.nd rfl (Or.inl rfl) (pe_call GA hr4 rfl D.mA D.FA.kp D.bA .nil pass0 (pa_cons (pv 2) pa_nil)))
      (pss_cons (ps_set (i := 6) scTInit.nd rfl (Or.inl rfl) (pe_call GA hr4 rfl D.mA D.FA.kp D.bA .nil pass0 (pa_cons (pv 3) pa_nil)))
      (pss_cons (ps_set (i := 7) scTInit.nd rfl (Or.inl rfl) (pe_call GS (hr.mono (by decide)) rfl d.mS d.FS.kp d.bS .nil pass0 (pa_cons (pv 4) (pa_cons (pv 5) (pa_cons (pv 6) pa_nil)))))
      (pss_cons (ps_if (pt_cmpR op_eq (pv 7) pe_int (nomark _)) (pss_one ps_never) pss_nil)
      (pss_one (ps_if (pt_cmpR op_gt (pv 7) pe_int (nomark _)) (pss_one (ps_fld (pv 0) (pe_lst (pa_cons (pv 4) (pa_cons (pv 5) (pa_cons (pv 6) pa_nil)))) rfl)) (pss_one (ps_fld (pv 0) (pe_lst (pa_cons (pv 4) (pa_cons (pv 6) (pa_cons (pv 5) pa_nil)))) rfl)))))))), ?_⟩
    refine ⟨_, rfl, u, a.1, a.2, rfl, hu, fun w1 H1 e1 h1 _ => ?_⟩
    refine ⟨_, rfl, v, b.1, b.2, rfl, hv.ex e1, fun w2 H2 e2 h2 _ => ?_⟩
    refine ⟨_, rfl, w, c.1, c.2, rfl, (hw.ex e1).ex e2, fun w3 H3 e3 h3 _ => ?_⟩
    have t1 := (h1.ex e2).ex e3
    have t2 := h2.ex e3
    refine ⟨_, rfl, _, rfl, _, rfl, n, w1, w2, w3, a.1, a.2, b.1, b.2, c.1, c.2, rfl, t1.pt, t2.pt, h3.pt, n1, sa.1, sa.2, sb.1, sb.2, sc.1, sc.2, fun H4 e4 => ?_⟩
    have e := ((e1.trans e2).trans e3).trans e4
    refine ⟨_, rfl, rfl, _, rfl, ?_⟩
    have nz : decide (V.int (sideI a.1 a.2 b.1 b.2 c.1 c.2) = V.int 0) = false := decide_eq_false (fun q => ne (by injection q))
    rw [nz]
    refine iteF ?_
    refine ⟨_, rfl, _, _, rfl, rfl, _, rfl, ?_⟩
    have fin : ∀ (l : Addr) (y z : V) (qb qc : I2), H4 l = none → IsP C y qb.1 qb.2 H4 → IsP C z qc.1 qc.2 H4 → qb = onB a b c → qc = onC a b c → Q .non (upd (upd H4 l (.lst [w1, y, z])) p (.ins CT dx (tipF l))) := fun l y z qb qc nl hy hz e5 e6 => by
      subst e5 e6
      have g := same_new (o := .lst [w1, y, z]) nl
      have pl : (upd H4 l (.lst [w1, y, z])) p = some (.ins CT dx []) := g _ _ (e _ _ hp)
      have np : l ≠ p := fun q => by
        rw [q, e _ _ hp] at nl
        cases nl
      have one : ∀ (v : V) (x y' : Int), IsP C v x y' H4 → IsP C v x y' (upd (upd H4 l (.lst [w1, y, z])) p (.ins CT dx (tipF l))) := fun v x y' hv => by
        obtain ⟨q, dq, rfl, hq⟩ := hv
        refine ⟨q, dq, rfl, ?_⟩
        have nq : q ≠ p := fun z => by
          rw [z, e _ _ hp] at hq
          injection hq with hq
          injection hq with _ _ h3
          have h4 := congrArg (List.lookup ("x" : Str)) h3
          rw [ptF_x] at h4
          cases h4
        rw [upd_ne nq]
        exact g _ _ hq
      refine k l w1 y z _ ((But.of (e.trans g)).trans But.upd) upd_same ?_ ⟨one _ _ _ ((t1.ex e4)), one _ _ _ hy, one _ _ _ hz⟩
      rw [upd_ne np]
      exact upd_same
    have hb4 := t2.ex e4
    have hc4 := h3.ex e4
    by_cases hs : 0 < sd a b c
    · have hd : decide ((0 : Int) < sideI a.1 a.2 b.1 b.2 c.1 c.2) = true := decide_eq_true hs
      rw [hd]
      refine iteT ?_
      refine ⟨_, rfl, _, rfl, _, rfl, (by show 3 ≤ sizeLine; decide), fun l nl => ?_⟩
      refine ⟨_, rfl, p, CT, dx, [], rfl, same_new nl _ _ (e _ _ hp), d.TT.cl, d.TT.nT, (by show 0 < 1000; decide), ?_⟩
      exact fin l w2 w3 b c nl hb4 hc4 (by unfold onB; rw [if_pos hs]) (by unfold onC; rw [if_pos hs])
    · have hd : decide ((0 : Int) < sideI a.1 a.2 b.1 b.2 c.1 c.2) = false := decide_eq_false hs
      rw [hd]
      refine iteF ?_
      refine ⟨_, rfl, _, rfl, _, rfl, (by show 3 ≤ sizeLine; decide), fun l nl => ?_⟩
      refine ⟨_, rfl, p, CT, dx, [], rfl, same_new nl _ _ (e _ _ hp), d.TT.cl, d.TT.nT, (by show 0 < 1000; decide), ?_⟩
      exact fin l w3 w2 c b nl hc4 hb4 (by unfold onB; rw [if_neg hs]) (by unfold onC; rw [if_neg hs])
end
end Fo
set_option Elab.async false
set_option linter.all false
set_option maxRecDepth 100000
set_option maxHeartbeats 2000000
namespace Fo
open PySem L2
/-! ### the methods of Triangle -/
section
variable {P : Program} {w : World} {K : PySem.W.Frag} {mg : Str → Option Value} {base : Heap}
variable {C fW fI fP fA fO CT fS fTI fCo fEd fAr fEq fAd pAr : Addr} {fdW fdI fdP fdA fdO fdS fdTI fdCo fdEd fdAr fdEq fdAd : FuncData}
/-- Triangle(u, v, w): spTInit's reading at a new instance -/
theorem make_tri {H : Hp} {u v w : V} {a b c : I2} {n : Nat} {Q : VK} {E : XK} (hu : IsPt2 C u a H) (hv : IsPt2 C v b H) (hw : IsPt2 C w c H) (n1 : n < 1000) (sa : Sm2 n a) (sb : Sm2 n b) (sc : Sm2 n c) (ne : sd a b c ≠ 0)
    (k : ∀ t H', Same H H' → IsT C CT t a (onB a b c) (onC a b c) H' → Q t H') :
    ∀ x dx, H x = none → H dx = none → dx ≠ x → spTInit C CT (.ref x :: ([u, v, w] ++ [])) (upd (upd H dx (.own x)) x (.ins CT dx [])) (fun v H2 => v = .non ∧ Q (.ref x) H2) E := fun x dx nx nd ndx => by
  have g1 : Same H (upd (upd H dx (.own x)) x (.ins CT dx [])) := (same_new nd).trans (same_new (by rw [upd_ne ndx.symm]; exact nx))
  refine ⟨n, x, dx, u, v, w, a, b, c, rfl, upd_same, hu.ex g1, hv.ex g1, hw.ex g1, n1, sa, sb, sc, ne, fun l v1 v2 v3 H' bt hx hl ht => ⟨rfl, ?_⟩⟩
  exact k _ H' (bt.same nx g1) ⟨x, dx, l, v1, v2, v3, rfl, hx, hl, ht⟩
theorem scCorners : FnScope ["self"] ["self"] (defScope sCorners) := ⟨rfl, rfl, rfl, by decide +kernel, rfl, by decide +kernel, by decide +kernel⟩
theorem TDefs.GCo (d : TDefs K mg C CT fS fTI fCo fEd fAr fEq fAd pAr fdS fdTI fdCo fdEd fdAr fdEq fdAd) : FnOk P w K mg base CX0 1 fCo fdCo ["self"] (spCorners C CT) := by
  refine d.FCo.ok scCorners (fun vs H Q E h => ?_) (fun cdv A outer s H vs Q E hr h => ?_)
  · obtain ⟨t, a, b, c, rfl, _⟩ := h
    rfl
  · obtain ⟨t, a, b, c, rfl, ⟨q, dx, l, v1, v2, v3, rfl, h1, h2, h3⟩, k⟩ := h
    refine ⟨_, pss_one (ps_ret (pe_callTy call_list_of (by rfl) d.TT.list (by decide +kernel) (pa_cons (pe_fld (pv 0) rfl) pa_nil))), ?_⟩
    refine ⟨_, rfl, q, CT, dx, _, _, rfl, h1, d.TT.cl, d.TT.nT, tipF_tips _, l, _, rfl, .inl (SqL.of h2), fun m nm => ?_⟩
    exact k m v1 v2 v3 _ nm (same_new nm) upd_same (h3.ex (same_new nm))
theorem scEdges : FnScope ["self"] ["self"] (defScope sEdges) := ⟨rfl, rfl, rfl, by decide +kernel, rfl, by decide +kernel, by decide +kernel⟩
theorem TDefs.GEd (d : TDefs K mg C CT fS fTI fCo fEd fAr fEq fAd pAr fdS fdTI fdCo fdEd fdAr fdEq fdAd) : FnOk P w K mg base CX0 1 fEd fdEd ["self"] (spEdges C CT) := by
  refine d.FEd.ok scEdges (fun vs H Q E h => ?_) (fun cdv A outer s H vs Q E hr h => ?_)
  · obtain ⟨t, a, b, c, rfl, _⟩ := h
    rfl
  · obtain ⟨t, a, b, c, rfl, ⟨q, dx, l, v1, v2, v3, rfl, h1, h2, h3⟩, k⟩ := h
    refine ⟨_, pss_one (ps_ret (pe_lst (pa_cons (pe_tup (pa_cons (pe_ix ix_list (pe_fld (pv 0) rfl) pe_int (fun _ _ => rfl)) (pa_cons (pe_ix ix_list (pe_fld (pv 0) rfl) pe_int (fun _ _ => rfl)) pa_nil)))
      (pa_cons (pe_tup (pa_cons (pe_ix ix_list (pe_fld (pv 0) rfl) pe_int (fun _ _ => rfl)) (pa_cons (pe_ix ix_list (pe_fld (pv 0) rfl) pe_int (fun _ _ => rfl)) pa_nil)))
      (pa_cons (pe_tup (pa_cons (pe_ix ix_list (pe_fld (pv 0) rfl) pe_int (fun _ _ => rfl)) (pa_cons (pe_ix ix_list (pe_fld (pv 0) rfl) pe_int (fun _ _ => rfl)) pa_nil))) pa_nil))))), ?_⟩
    have Z : 2 ≤ sizeLine := by decide
    have T := d.TT
    refine ⟨_, rfl, q, CT, dx, _, _, rfl, h1, T.cl, T.nT, tipF_tips _, l, _, _, _, rfl, rfl, SqL.of h2, atI_nat (j := 0) rfl, ?_⟩
    refine ⟨_, rfl, q, CT, dx, _, _, rfl, h1, T.cl, T.nT, tipF_tips _, l, _, _, _, rfl, rfl, SqL.of h2, atI_nat (j := 1) rfl, Z, fun t1 n1 => ?_⟩
    have g1 := same_new (o := .tup [v1, v2]) n1
    have a1 := g1 _ _ h1
    have a2 := g1 _ _ h2
    refine ⟨_, rfl, q, CT, dx, _, _, rfl, a1, T.cl, T.nT, tipF_tips _, l, _, _, _, rfl, rfl, SqL.of a2, atI_nat (j := 1) rfl, ?_⟩
    refine ⟨_, rfl, q, CT, dx, _, _, rfl, a1, T.cl, T.nT, tipF_tips _, l, _, _, _, rfl, rfl, SqL.of a2, atI_nat (j := 2) rfl, Z, fun t2 n2 => ?_⟩
    have g2 := same_new (o := .tup [v2, v3]) n2
    have b1 := g2 _ _ a1
    have b2 := g2 _ _ a2
    refine ⟨_, rfl, q, CT, dx, _, _, rfl, b1, T.cl, T.nT, tipF_tips _, l, _, _, _, rfl, rfl, SqL.of b2, atI_nat (j := 2) rfl, ?_⟩
    refine ⟨_, rfl, q, CT, dx, _, _, rfl, b1, T.cl, T.nT, tipF_tips _, l, _, _, _, rfl, rfl, SqL.of b2, atI_nat (j := 0) rfl, Z, fun t3 n3 => ?_⟩
    have g3 := same_new (o := .tup [v3, v1]) n3
    refine ⟨(by show 3 ≤ sizeLine; decide), fun m nm => ?_⟩
    have g4 := same_new (o := .lst [.ref t1, .ref t2, .ref t3]) nm
    have g := ((g1.trans g2).trans g3).trans g4
    exact k _ _ g ⟨m, t1, t2, t3, v1, v2, v3, rfl, upd_same, (g2.trans (g3.trans g4)) _ _ upd_same, (g3.trans g4) _ _ upd_same, g4 _ _ upd_same, h3.ex g⟩
theorem scArea : FnScope ["self"] ["self"] (defScope sArea) := ⟨rfl, rfl, rfl, by decide +kernel, rfl, by decide +kernel, by decide +kernel⟩
theorem TDefs.GAr (d : TDefs K mg C CT fS fTI fCo fEd fAr fEq fAd pAr fdS fdTI fdCo fdEd fdAr fdEq fdAd) (D : Defs K mg C fW fI fP fA fO fdW fdI fdP fdA fdO) : FnOk P w K mg base CX0 8 fAr fdAr ["self"] (spArea C CT) := by
  have GS : FnOk P w K mg base CX0 7 fS fdS ["a", "b", "point"] (spSide C) := ok_side d.FS D
  refine d.FAr.ok scArea (fun vs H Q E h => ?_) (fun cdv A outer s H vs Q E hr h => ?_)
  · obtain ⟨n, t, a, b, c, rfl, _⟩ := h
    rfl
  · obtain ⟨n, t, a, b, c, rfl, ⟨q, dx, l, v1, v2, v3, rfl, h1, h2, h3⟩, n1, sa, sb, sc, k⟩ := h
    refine ⟨_, pss_one (ps_ret (pe_call GS hr rfl d.mS d.FS.kp d.bS .nil pass0 (pa_cons (pe_ix ix_list (pe_fld (pv 0) rfl) pe_int (fun _ _ => rfl)) (pa_cons (pe_ix ix_list (pe_fld (pv 0) rfl) pe_int (fun _ _ => rfl)) (pa_cons (pe_ix ix_list (pe_fld (pv 0) rfl) pe_int (fun _ _ => rfl)) pa_nil))))), ?_⟩
    have T := d.TT
    refine ⟨_, rfl, q, CT, dx, _, _, rfl, h1, T.cl, T.nT, tipF_tips _, l, _, _, _, rfl, rfl, SqL.of h2, atI_nat (j := 0) rfl, ?_⟩
    refine ⟨_, rfl, q, CT, dx, _, _, rfl, h1, T.cl, T.nT, tipF_tips _, l, _, _, _, rfl, rfl, SqL.of h2, atI_nat (j := 1) rfl, ?_⟩
    refine ⟨_, rfl, q, CT, dx, _, _, rfl, h1, T.cl, T.nT, tipF_tips _, l, _, _, _, rfl, rfl, SqL.of h2, atI_nat (j := 2) rfl, ?_⟩
    exact ⟨n, v1, v2, v3, a.1, a.2, b.1, b.2, c.1, c.2, rfl, h3.1.pt, h3.2.1.pt, h3.2.2.pt, n1, sa.1, sa.2, sb.1, sb.2, sc.1, sc.2, k⟩
theorem sd_mv (a b c q : I2) : sd (mv a q) (mv b q) (mv c q) = sd a b c := by
  unfold sd sideI mv
  grind
theorem Sm.add {n : Nat} {x y : Int} (hx : Sm n x) (hy : Sm n y) : Sm (n + 1) (x + y) := by
  unfold Sm at *
  rw [Nat.pow_succ]
  omega
theorem Sm2.mv {n : Nat} {p q : I2} (hp : Sm2 n p) (hq : Sm2 n q) : Sm2 (n + 1) (mv p q) := ⟨hp.1.add hq.1, hp.2.add hq.2⟩
end
end Fo
set_option Elab.async false
set_option linter.all false
set_option maxRecDepth 100000
set_option maxHeartbeats 2000000
namespace Fo
open PySem L2
/-! ### list comprehensions with any target -/
/-- [te for g in l] -/
theorem lc_all {K : PySem.W.Frag} {l D : Addr} {g : TG} {te : TE} {sl : List Nat} {σ : L2.St} {H1 : Hp} {xs : List V} {Qd : Hp → Prop} (R : Nat → V → Hp → Prop) (rex : ∀ i v H H', Same H H' → R i v H → R i v H') (rbut : ∀ i v H H' D ys, H D = some (HO.lst ys) → But D H H' → R i v H → R i v H')
    (hl : SqL K H1 l xs) (hn : xs.length ≤ 1000)
    (step : ∀ i x H', xs[i]? = some x → Same H1 H' → ∀ Q' : VK, (∀ v H'', Same H' H'' → R i v H'' → Q' v H'') → g x (wipe σ sl) H' fun σ2 H2 => wipe σ2 sl = wipe σ sl ∧ te σ2 H2 Q')
    (hd : ∀ H' vs, Same H1 H' → H' D = some (.lst vs) → vs.length = xs.length → (∀ i v, vs[i]? = some v → R i v H') → Qd H') (hD : H1 D = none) :
    ∃ W : Nat → Nat → Hp → Prop, (∃ m, W 0 m (upd H1 D (.lst []))) ∧ ∀ i m H, W i m H → ((Itl K l).stop i H ∧ Qd H) ∨
      ((Itl K l).go i H ∧ ∃ Nx : Hp → Prop, (∀ H', Nx H' → ∃ m', m' < m ∧ W (i + 1) m' H') ∧ ∀ x H', (Itl K l).yld i H x H' → g x (wipe σ sl) H' fun σ2 H2 => wipe σ2 sl = wipe σ sl ∧ tYes σ2 H2 fun b H3 =>
      if b = true then te σ2 H3 fun y H4 => ∃ acc, H4 D = some (.lst acc) ∧ acc.length < sizeLine ∧ Nx (upd H4 D (.lst (acc ++ [y]))) else Nx H3) := by
  refine lc_list (K := K) (a := l) (xs := xs) (fun i H' => Same H1 H' ∧ ∃ vs : List V, H' D = some (.lst vs) ∧ vs.length = i ∧ ∀ j v, vs[j]? = some v → R j v H') ?_ ?_ ?_ ?_
  · exact ⟨same_new hD, [], upd_same, rfl, fun j v h => by simp at h⟩
  · rintro i H' _ ⟨e, _⟩
    exact e.seq hl
  · rintro i x H' hx ⟨e, vs, hv, hlen, hp⟩
    have hi : i < xs.length := (List.getElem?_eq_some_iff.mp hx).1
    refine step i x H' hx e (fun y H4 => ∃ acc, H4 D = some (.lst acc) ∧ acc.length < sizeLine ∧ Same H1 (upd H4 D (.lst (acc ++ [y]))) ∧ ∃ vs : List V, (upd H4 D (.lst (acc ++ [y]))) D = some (.lst vs) ∧ vs.length = i + 1 ∧ ∀ j v, vs[j]? = some v → R j v (upd H4 D (.lst (acc ++ [y])))) fun v H'' e2 h2 => ?_
    have hv2 := e2 _ _ hv
    refine ⟨vs, hv2, Nat.lt_of_lt_of_le (by omega : vs.length < 1001) (by decide), (But.upd.same hD (e.trans e2)), vs ++ [v], upd_same, by rw [List.length_append, hlen]; rfl, fun j u hu => ?_⟩
    by_cases hj : j < vs.length
    · rw [List.getElem?_append_left hj] at hu
      exact rbut _ _ _ _ _ _ hv2 But.upd (rex _ _ _ _ e2 (hp j u hu))
    · have hj2 : j = vs.length := by
        have := (List.getElem?_eq_some_iff.mp hu).1
        rw [List.length_append] at this
        simp at this
        omega
      subst hj2
      rw [List.getElem?_append_right (Nat.le_refl _)] at hu
      simp at hu
      subst hu
      rw [hlen]
      exact rbut _ _ _ _ _ _ hv2 But.upd h2
  · rintro H' ⟨e, vs, hv, hlen, hp⟩
    exact hd H' vs e hv hlen hp
/-- how many of the first i are kept -/
def kept (keep : Nat → Bool) : Nat → Nat
  | 0 => 0
  | i + 1 => kept keep i + (if keep i = true then 1 else 0)
theorem kept_zero {keep : Nat → Bool} : ∀ {n : Nat}, kept keep n = 0 ↔ ∀ j, j < n → keep j = false
  | 0 => ⟨fun _ j hj => absurd hj (Nat.not_lt_zero _), fun _ => rfl⟩
  | n + 1 => by
    have ih := kept_zero (keep := keep) (n := n)
    show kept keep n + (if keep n = true then 1 else 0) = 0 ↔ _
    constructor
    · intro h j hj
      cases hk : keep n with
      | true =>
        rw [hk, if_pos rfl] at h
        omega
      | false =>
        rw [hk] at h
        by_cases q : j = n
        · rw [q]; exact hk
        · exact ih.mp (by simpa using h) j (by omega)
    · intro h
      rw [h n (Nat.lt_succ_self _), ih.mpr fun j hj => h j (by omega)]
      rfl
/-- [c for g in l if tt] -/
theorem lc_filt {K : PySem.W.Frag} {l D : Addr} {g : TG} {tt : TT} {te : TE} {sl : List Nat} {σ : L2.St} {H1 : Hp} {xs : List V} {Qd : Hp → Prop} (keep : Nat → Bool) (c : V)
    (hl : SqL K H1 l xs) (hn : xs.length ≤ 1000)
    (step : ∀ i x H', xs[i]? = some x → Same H1 H' → ∀ Nx : Hp → Prop, ∀ Q' : VK, (keep i = false → ∀ H'', Same H' H'' → Nx H'') → (keep i = true → ∀ H'', Same H' H'' → Q' c H'') → g x (wipe σ sl) H' fun σ2 H2 => wipe σ2 sl = wipe σ sl ∧ tt σ2 H2 fun b H3 => if b = true then te σ2 H3 Q' else Nx H3)
    (hd : ∀ H', Same H1 H' → H' D = some (.lst (List.replicate (kept keep xs.length) c)) → Qd H') (hD : H1 D = none) :
    ∃ W : Nat → Nat → Hp → Prop, (∃ m, W 0 m (upd H1 D (.lst []))) ∧ ∀ i m H, W i m H → ((Itl K l).stop i H ∧ Qd H) ∨
      ((Itl K l).go i H ∧ ∃ Nx : Hp → Prop, (∀ H', Nx H' → ∃ m', m' < m ∧ W (i + 1) m' H') ∧ ∀ x H', (Itl K l).yld i H x H' → g x (wipe σ sl) H' fun σ2 H2 => wipe σ2 sl = wipe σ sl ∧ tt σ2 H2 fun b H3 =>
      if b = true then te σ2 H3 fun y H4 => ∃ acc, H4 D = some (.lst acc) ∧ acc.length < sizeLine ∧ Nx (upd H4 D (.lst (acc ++ [y]))) else Nx H3) := by
  refine lc_list (K := K) (a := l) (xs := xs) (fun i H' => Same H1 H' ∧ i ≤ xs.length ∧ H' D = some (.lst (List.replicate (kept keep i) c))) ?_ ?_ ?_ ?_
  · exact ⟨same_new hD, Nat.zero_le _, upd_same⟩
  · rintro i H' _ ⟨e, _⟩
    exact e.seq hl
  · rintro i x H' hx ⟨e, hi', hv⟩
    have hi : i < xs.length := (List.getElem?_eq_some_iff.mp hx).1
    have hk : ∀ j, kept keep j ≤ j := fun j => by
      induction j with
      | zero => exact Nat.le_refl _
      | succ j ih =>
        show kept keep j + _ ≤ j + 1
        split <;> omega
    refine step i x H' hx e _ _ (fun hf H'' e2 => ?_) fun ht H'' e2 => ?_
    · refine ⟨e.trans e2, hi, ?_⟩
      show H'' D = some (.lst (List.replicate (kept keep i + (if keep i = true then 1 else 0)) c))
      rw [hf]
      exact e2 _ _ hv
    · have := hk i
      refine ⟨_, e2 _ _ hv, Nat.lt_of_lt_of_le (by rw [List.length_replicate]; omega : _ < 1001) (by decide), (But.upd.same hD (e.trans e2)), hi, ?_⟩
      rw [upd_same]
      show some (HO.lst _) = some (.lst (List.replicate (kept keep i + (if keep i = true then 1 else 0)) c))
      rw [ht, if_pos rfl, List.replicate_succ']
  · rintro H' ⟨e, _, hv⟩
    exact hd H' e hv
/-- [te for g in range(n)] -/
theorem lc_rAll {D : Addr} {lo : Int} {n : Nat} {g : TG} {te : TE} {sl : List Nat} {σ : L2.St} {H1 : Hp} {Qd : Hp → Prop} (R : Nat → V → Hp → Prop) (rex : ∀ i v H H', Same H H' → R i v H → R i v H') (rbut : ∀ i v H H' D ys, H D = some (HO.lst ys) → But D H H' → R i v H → R i v H')
    (hn : n ≤ 1000)
    (step : ∀ i H', i < n → Same H1 H' → ∀ Q' : VK, (∀ v H'', Same H' H'' → R i v H'' → Q' v H'') → g (.int (lo + i)) (wipe σ sl) H' fun σ2 H2 => wipe σ2 sl = wipe σ sl ∧ te σ2 H2 Q')
    (hd : ∀ H' vs, Same H1 H' → H' D = some (.lst vs) → vs.length = n → (∀ i v, vs[i]? = some v → R i v H') → Qd H') (hD : H1 D = none) :
    ∃ W : Nat → Nat → Hp → Prop, (∃ m, W 0 m (upd H1 D (.lst []))) ∧ ∀ i m H, W i m H → ((Itr lo n).stop i H ∧ Qd H) ∨
      ((Itr lo n).go i H ∧ ∃ Nx : Hp → Prop, (∀ H', Nx H' → ∃ m', m' < m ∧ W (i + 1) m' H') ∧ ∀ x H', (Itr lo n).yld i H x H' → g x (wipe σ sl) H' fun σ2 H2 => wipe σ2 sl = wipe σ sl ∧ tYes σ2 H2 fun b H3 =>
      if b = true then te σ2 H3 fun y H4 => ∃ acc, H4 D = some (.lst acc) ∧ acc.length < sizeLine ∧ Nx (upd H4 D (.lst (acc ++ [y]))) else Nx H3) := by
  refine lc_range (lo := lo) (n := n) (fun i H' => Same H1 H' ∧ ∃ vs : List V, H' D = some (.lst vs) ∧ vs.length = i ∧ ∀ j v, vs[j]? = some v → R j v H') ?_ ?_ ?_
  · exact ⟨same_new hD, [], upd_same, rfl, fun j v h => by simp at h⟩
  · rintro i H' hi ⟨e, vs, hv, hlen, hp⟩
    refine step i H' hi e (fun y H4 => ∃ acc, H4 D = some (.lst acc) ∧ acc.length < sizeLine ∧ Same H1 (upd H4 D (.lst (acc ++ [y]))) ∧ ∃ vs : List V, (upd H4 D (.lst (acc ++ [y]))) D = some (.lst vs) ∧ vs.length = i + 1 ∧ ∀ j v, vs[j]? = some v → R j v (upd H4 D (.lst (acc ++ [y])))) fun v H'' e2 h2 => ?_
    have hv2 := e2 _ _ hv
    refine ⟨vs, hv2, Nat.lt_of_lt_of_le (by omega : vs.length < 1001) (by decide), (But.upd.same hD (e.trans e2)), vs ++ [v], upd_same, by rw [List.length_append, hlen]; rfl, fun j u hu => ?_⟩
    by_cases hj : j < vs.length
    · rw [List.getElem?_append_left hj] at hu
      exact rbut _ _ _ _ _ _ hv2 But.upd (rex _ _ _ _ e2 (hp j u hu))
    · have hj2 : j = vs.length := by
        have := (List.getElem?_eq_some_iff.mp hu).1
        rw [List.length_append] at this
        simp at this
        omega
      subst hj2
      rw [List.getElem?_append_right (Nat.le_refl _)] at hu
      simp at hu
      subst hu
      rw [hlen]
      exact rbut _ _ _ _ _ _ hv2 But.upd h2
  · rintro H' ⟨e, vs, hv, hlen, hp⟩
    exact hd H' vs e hv hlen hp
theorem IsP.but {C D : Addr} {v : V} {x y : Int} {H H' : Hp} {ys : List V} (hD : H D = some (.lst ys)) (b : But D H H') (h : IsP C v x y H) : IsP C v x y H' := by
  obtain ⟨a, dx, rfl, h⟩ := h
  exact ⟨a, dx, rfl, b _ _ (ne_of h hD (by intro z; cases z)) h⟩
theorem two3 {e1 e2 e3 x : V} {i : Nat} (h : [e1, e2, e3][i]? = some x) : (i = 0 ∧ x = e1) ∨ (i = 1 ∧ x = e2) ∨ (i = 2 ∧ x = e3) := by
  match i, h with
  | 0, h => exact .inl ⟨rfl, (Option.some.inj h).symm⟩
  | 1, h => exact .inr (.inl ⟨rfl, (Option.some.inj h).symm⟩)
  | 2, h => exact .inr (.inr ⟨rfl, (Option.some.inj h).symm⟩)
  | n + 3, h => simp at h
theorem len3' {vs : List V} (h : vs.length = 3) : ∃ a b c, vs = [a, b, c] := by
  match vs, h with
  | [a, b, c], _ => exact ⟨a, b, c, rfl⟩
end Fo
set_option Elab.async false
set_option linter.all false
set_option maxRecDepth 100000
set_option maxHeartbeats 2000000
namespace Fo
open PySem L2
/-! ### in and == of Triangle -/
section
variable {P : Program} {w : World} {K : PySem.W.Frag} {mg : Str → Option Value} {base : Heap}
variable {C fW fI fP fA fO CT fS fTI fCo fEd fAr fEq fAd pAr CI fII : Addr} {fdW fdI fdP fdA fdO fdS fdTI fdCo fdEd fdAr fdEq fdAd : FuncData}
theorem scTIn : FnScope ["self", "x", "a", "b"] ["self", "x"] (defScope sTIn) := ⟨rfl, rfl, rfl, by decide +kernel, rfl, by decide +kernel, by decide +kernel⟩
theorem ok_tin {f : Addr} {fd : FuncData} (F : Fun K "__contains__" "Triangle.__contains__" sTIn f fd) (d : TDefs K mg C CT fS fTI fCo fEd fAr fEq fAd pAr fdS fdTI fdCo fdEd fdAr fdEq fdAd) (D : Defs K mg C fW fI fP fA fO fdW fdI fdP fdA fdO) (TX : TxtX P K mg C CI fII) :
    FnOk P w K mg base CX0 8 f fd ["self", "x"] (spTIn C CT) := by
  have GP : FnOk P w K mg base CX0 2 fP fdP ["thing"] (fun vs H Q E => spIsPoint C vs H Q E ∨ spIsPointX C vs H Q E) := D.GP.or (ok_is_pointX D TX)
  have GS : FnOk P w K mg base CX0 7 fS fdS ["a", "b", "point"] (spSide C) := ok_side d.FS D
  have GE : FnOk P w K mg base CX0 1 fEd fdEd ["self"] (spEdges C CT) := d.GEd
  have T := d.TT
  refine F.ok scTIn (fun vs H Q E h => ?_) (fun cdv A outer s H vs Q E hr h => ?_)
  · obtain ⟨t, u, rfl, _⟩ := h
    rfl
  · obtain ⟨t, u, rfl, h⟩ := h
    refine ⟨_, pss_one (ps_ret (pe_and (pe_call GP (hr.mono (by decide)) rfl D.mP D.FP.kp D.bP .nil pass0 (pa_cons (pv 1) pa_nil))
      (pe_one (pe_callB (cr_all rfl) (by rfl) T.all (by decide +kernel) (pa_cons
        (pe_lc (own := [("a", 2), ("b", 3)]) (g := gTup K 2 (gCons (gName 2) (gCons (gName 3) gNil))) (tt := tYes) rfl scTIn.nd (pi_list (pe_meth0 (pv 0) T.cl d.mEd GE (hr.mono (by decide)) d.bEd .nil pass0))
          (blkOk_by (own := [("a", 2), ("b", 3)]) (N := ["self", "x", "a", "b"]) (sc := defScope sTIn) (by decide +kernel))
          (fun _ _ _ _ _ => pg_tup rfl (pgs_cons (pg_name (i := 2) scTIn.nd rfl (Or.inl rfl)) (pgs_cons (pg_name (i := 3) scTIn.nd rfl (Or.inl rfl)) pgs_nil)))
          (fun _ _ _ _ _ => pts_nil)
          (fun _ _ _ _ _ => pe_cmpR op_ge (pe_call GS hr rfl d.mS d.FS.kp d.bS .nil pass0 (pa_cons (pv 2) (pa_cons (pv 3) (pa_cons (pv 1) pa_nil)))) pe_int (nomark _))) pa_nil))))), ?_⟩
    rcases h with ⟨n, a, b, c, p, ht, hp, n1, sa, sb, sc, sp, k⟩ | ⟨bad, k⟩
    · refine ⟨_, rfl, .inl ⟨u, p.1, p.2, rfl, hp, true, rfl, ?_⟩⟩
      refine iteT ?_
      obtain ⟨q, dx, l, v1, v2, v3, rfl, h1, _⟩ := id ht
      refine ⟨_, rfl, q, dx, _, rfl, h1, tipF_no _ (by decide +kernel), _, a, b, c, rfl, ht, fun v H1 e1 hE => ?_⟩
      obtain ⟨m, t1, t2, t3, w1, w2, w3, rfl, g0, g1, g2, g3, th⟩ := hE
      refine ⟨m, rfl, ⟨_, SqL.of g0⟩, fun D0 nD => ?_⟩
      refine lc_all (K := K) (xs := [.ref t1, .ref t2, .ref t3]) (sl := [2, 3]) (fun i v _ => v = .bl (decide (0 ≤ (if i = 0 then sd a b p else if i = 1 then sd b c p else sd c a p)))) (fun _ _ _ _ _ h => h) (fun _ _ _ _ _ _ _ _ h => h) (SqL.of g0) (by show 3 ≤ 1000; decide) ?_ ?_ nD
      · intro i x H2 hx e2 Q' k'
        have th2 := th.ex e2
        have hp2 := hp.ex (e1.trans e2)
        rcases two3 hx with ⟨rfl, rfl⟩ | ⟨rfl, rfl⟩ | ⟨rfl, rfl⟩
        · refine ⟨t1, _, rfl, SqT.of (e2 _ _ g1), rfl, _, _, rfl, _, _, rfl, rfl, rfl, ?_⟩
          refine ⟨_, rfl, _, rfl, _, rfl, n, w1, w2, u, a.1, a.2, b.1, b.2, p.1, p.2, rfl, th2.1.pt, th2.2.1.pt, hp2, n1, sa.1, sa.2, sb.1, sb.2, sp.1, sp.2, fun H3 e3 => ?_⟩
          exact ⟨_, _, rfl, rfl, k' _ _ e3 rfl⟩
        · refine ⟨t2, _, rfl, SqT.of (e2 _ _ g2), rfl, _, _, rfl, _, _, rfl, rfl, rfl, ?_⟩
          refine ⟨_, rfl, _, rfl, _, rfl, n, w2, w3, u, b.1, b.2, c.1, c.2, p.1, p.2, rfl, th2.2.1.pt, th2.2.2.pt, hp2, n1, sb.1, sb.2, sc.1, sc.2, sp.1, sp.2, fun H3 e3 => ?_⟩
          exact ⟨_, _, rfl, rfl, k' _ _ e3 rfl⟩
        · refine ⟨t3, _, rfl, SqT.of (e2 _ _ g3), rfl, _, _, rfl, _, _, rfl, rfl, rfl, ?_⟩
          refine ⟨_, rfl, _, rfl, _, rfl, n, w3, w1, u, c.1, c.2, a.1, a.2, p.1, p.2, rfl, th2.2.2.pt, th2.1.pt, hp2, n1, sc.1, sc.2, sa.1, sa.2, sp.1, sp.2, fun H3 e3 => ?_⟩
          exact ⟨_, _, rfl, rfl, k' _ _ e3 rfl⟩
      · intro H2 vs e2 hv hlen hR
        obtain ⟨x1, x2, x3, rfl⟩ := len3' hlen
        have r1 := hR 0 x1 rfl
        have r2 := hR 1 x2 rfl
        have r3 := hR 2 x3 rfl
        subst r1 r2 r3
        refine ⟨D0, [decide (0 ≤ sd a b p), decide (0 ≤ sd b c p), decide (0 ≤ sd c a p)], rfl, SqL.of hv, ?_⟩
        have e : ([decide (0 ≤ sd a b p), decide (0 ≤ sd b c p), decide (0 ≤ sd c a p)].all id) = inT a b c p := by simp [inT]
        rw [e]
        exact k _ (e1.trans e2)
    · refine ⟨_, rfl, .inr ⟨u, rfl, bad, false, rfl, ?_⟩⟩
      exact iteF k
theorem ty_tri {t dx : Addr} {fs : List (Str × V)} {H : Hp} (T : TxtT K mg CT) (T0 : Txt K mg C) (h : H t = some (.ins CT dx fs)) : TyX K H (.ref t) (.ref CT) := .base (.ins h T.cl T.ha T0.hn T0.htk T.hm)
theorem ext_same {H H' : Hp} (e : Ext H H') : Same H H' := fun a o h => e a o h
theorem i2_dec (a b : I2) : (decide (a.1 = b.1) && decide (a.2 = b.2)) = decide (a = b) := by
  by_cases h : a = b
  · subst h
    simp
  · rw [decide_eq_false h]
    by_cases h1 : a.1 = b.1
    · have h2 : a.2 ≠ b.2 := fun q => h (Prod.ext h1 q)
      simp [h2]
    · simp [h1]
theorem dOwn_pt {x y : V} {a b : I2} {H : Hp} {E : XK} (hx : IsP C x a.1 a.2 H) (hy : IsP C y b.1 b.2 H) : DOwn C (spEqP C) E x y (decide (a = b)) H := by
  obtain ⟨p, dx, rfl, hp⟩ := id hx
  obtain ⟨q, dy, rfl, hq⟩ := id hy
  refine ⟨p, q, dx, dy, _, _, rfl, rfl, hp, hq, fun e => ?_, _, _, _, _, _, _, rfl, hx, .inl ⟨hy, ?_, Ext.rfl'⟩⟩
  · subst e
    rw [hp] at hq
    injection hq with hq
    injection hq with _ _ hq
    have e1 : a.1 = b.1 := by
      have z := congrArg (List.lookup ("x" : Str)) hq
      rw [ptF_x, ptF_x] at z
      injection z with z
      injection z
    have e2 : a.2 = b.2 := by
      have z := congrArg (List.lookup ("y" : Str)) hq
      rw [ptF_y, ptF_y] at z
      injection z with z
      injection z
    exact decide_eq_true (Prod.ext e1 e2)
  · rw [i2_dec]
theorem monB_pt : MonB (fun x y b H => ∃ a c : I2, IsP C x a.1 a.2 H ∧ IsP C y c.1 c.2 H ∧ b = decide (a = c)) := fun x y b H H' e ⟨a, c, h1, h2, h3⟩ => ⟨a, c, h1.ex (ext_same e), h2.ex (ext_same e), h3⟩
/-- two Points, as tuples and lists ask -/
def DPt (C : Addr) : EqvB := fun x y b H => ∃ a c : I2, IsP C x a.1 a.2 H ∧ IsP C y c.1 c.2 H ∧ b = decide (a = c)
theorem eqB_pt {X : Cx} (F : FnOk X.prog X.w X.K X.mg X.base CX0 1 fEq fdEq ["self", "other"] (spEqP C)) (hs : PySem.W.findIn X.K (.ref C) "__eq__" = some (some (.ref fEq))) (hf : PySem.W.isFn X.K (.ref fEq) = true) (hb : Binds X.K fdEq ["self", "other"] []) : EqB X 1 (DPt C) := by
  intro A pins s σ H x y u v b sb I rx ry d
  obtain ⟨a, c, h1, h2, rfl⟩ := d
  exact eqB_own (E := fun _ _ _ => False) F hs hf hb pass0 A pins s σ H x y u v _ sb I rx ry (dOwn_pt h1 h2)
theorem pair_eq {e q : Addr} {x1 x2 y1 y2 : V} {a b c d : I2} {H : Hp} (he : H e = some (.tup [x1, x2])) (hq : H q = some (.tup [y1, y2])) (h1 : IsP C x1 a.1 a.2 H) (h2 : IsP C x2 b.1 b.2 H) (h3 : IsP C y1 c.1 c.2 H) (h4 : IsP C y2 d.1 d.2 H) :
    DPair K (DPt C) (.ref e) (.ref q) (decide (a = c) && decide (b = d)) H := by
  refine ⟨e, q, x1, x2, y1, y2, _, _, rfl, rfl, SqT.of he, SqT.of hq, fun z => ?_, ⟨a, c, h1, h3, rfl⟩, ⟨b, d, h2, h4, rfl⟩, rfl⟩
  subst z
  rw [he] at hq
  injection hq with hq
  injection hq with hq
  injection hq with e1 hq
  injection hq with e2 _
  subst e1 e2
  have same : ∀ {v : V} {a c : I2}, IsP C v a.1 a.2 H → IsP C v c.1 c.2 H → a = c := fun {v a c} h h' => by
    obtain ⟨p, dx, rfl, hp⟩ := h
    obtain ⟨p', dx', e, hp'⟩ := h'
    cases e
    rw [hp] at hp'
    injection hp' with z
    injection z with _ _ z
    have e1 : a.1 = c.1 := by
      have z := congrArg (List.lookup ("x" : Str)) z
      rw [ptF_x, ptF_x] at z
      injection z with z
      injection z
    have e2 : a.2 = c.2 := by
      have z := congrArg (List.lookup ("y" : Str)) z
      rw [ptF_y, ptF_y] at z
      injection z with z
      injection z
    exact Prod.ext e1 e2
  rw [decide_eq_true (same h1 h3), decide_eq_true (same h2 h4)]
  rfl
theorem scTEq : FnScope ["self", "other"] ["self", "other"] (defScope sTEq) := ⟨rfl, rfl, rfl, by decide +kernel, rfl, by decide +kernel, by decide +kernel⟩
theorem ok_teq {f : Addr} {fd : FuncData} (F : Fun K "__eq__" "Triangle.__eq__" sTEq f fd) (d : TDefs K mg C CT fS fTI fCo fEd fAr fEq fAd pAr fdS fdTI fdCo fdEd fdAr fdEq fdAd) (D : Defs K mg C fW fI fP fA fO fdW fdI fdP fdA fdO) : FnOk P w K mg base CX0 4 f fd ["self", "other"] (spTEq C CT) := by
  have GE : FnOk P w K mg base CX0 1 fEd fdEd ["self"] (spEdges C CT) := d.GEd
  have GQ : FnOk P w K mg base CX0 1 fEq fdEq ["self", "other"] (spEqP C) := ok_eq d.FEq D.T
  have T := d.TT
  refine F.ok scTEq (fun vs H Q E h => ?_) (fun cdv A outer s H vs Q E hr h => ?_)
  · obtain ⟨t, u, a, b, c, rfl, _⟩ := h
    rfl
  · obtain ⟨t, u, a, b, c, rfl, ht, h⟩ := h
    have hr1 : Room 1 _ := hr.mono (by decide)
    refine ⟨_, pss_one (ps_ret (pe_and (pe_callB call_isi (by rfl) D.T.isi (by decide +kernel) (pa_cons (pv 1) (pa_cons (pe_glob (v := .ref CT) rfl T.mgT rfl) pa_nil)))
      (pe_and (pe_cmpR (op_inG (monB_pair (K := K) monB_pt) (eqB_pair (monB_pt) (eqB_pt GQ d.oEq d.iEq d.bEq)) (hr.mono (by decide))) (pe_ix ix_list (pe_meth0 (pv 0) T.cl d.mEd GE hr1 d.bEd .nil pass0) pe_int (fun _ _ => rfl)) (pe_meth0 (pv 1) T.cl d.mEd GE hr1 d.bEd .nil pass0) (by rfl))
      (pe_one (pe_cmpR (op_inG (monB_pair (K := K) monB_pt) (eqB_pair (monB_pt) (eqB_pt GQ d.oEq d.iEq d.bEq)) (hr.mono (by decide))) (pe_ix ix_list (pe_meth0 (pv 0) T.cl d.mEd GE hr1 d.bEd .nil pass0) pe_int (fun _ _ => rfl)) (pe_meth0 (pv 1) T.cl d.mEd GE hr1 d.bEd .nil pass0) (by rfl)))))), ?_⟩
    rcases h with ⟨d', e', f', hu, k⟩ | ⟨⟨q, xs, rfl, hq⟩, k⟩
    · obtain ⟨t1, dx1, l1, x1, x2, x3, rfl, p1, _⟩ := id ht
      obtain ⟨t2, dx2, l2, y1, y2, y3, rfl, p2, _⟩ := id hu
      refine ⟨_, rfl, _, _, _, _, true, rfl, .own CT, ty_tri T D.T p2, T.kTT, true, rfl, ?_⟩
      refine iteT ?_
      refine ⟨_, rfl, t1, dx1, _, rfl, p1, tipF_no _ (by decide +kernel), _, a, b, c, rfl, ht, fun v H1 e1 hE => ?_⟩
      obtain ⟨m, g1, g2, g3, w1, w2, w3, rfl, z0, z1, z2, z3, th⟩ := hE
      refine ⟨m, _, _, _, rfl, rfl, SqL.of z0, atI_nat (j := 0) rfl, ?_⟩
      have hu1 := hu.ex e1
      refine ⟨_, rfl, t2, dx2, _, rfl, e1 _ _ p2, tipF_no _ (by decide +kernel), _, d', e', f', rfl, hu1, fun v H2 e2 hE2 => ?_⟩
      obtain ⟨m', s1, s2, s3, w1', w2', w3', rfl, c0, c1, c2, c3, th'⟩ := hE2
      have th2 := th.ex e2
      refine ⟨m', _, [decide (d' = a) && decide (e' = b), decide (e' = a) && decide (f' = b), decide (f' = a) && decide (d' = b)], rfl, c0, rfl, ?_, fun H3 e3 => ?_⟩
      · intro i z bb hz hb
        rcases two3 hz with ⟨rfl, rfl⟩ | ⟨rfl, rfl⟩ | ⟨rfl, rfl⟩
        · cases hb
          exact pair_eq c1 (e2 _ _ z1) th'.1 th'.2.1 th2.1 th2.2.1
        · cases hb
          exact pair_eq c2 (e2 _ _ z1) th'.2.1 th'.2.2 th2.1 th2.2.1
        · cases hb
          exact pair_eq c3 (e2 _ _ z1) th'.2.2 th'.1 th2.1 th2.2.1
      have h1e : ([decide (d' = a) && decide (e' = b), decide (e' = a) && decide (f' = b), decide (f' = a) && decide (d' = b)].any id) = hasE a b d' e' f' := by simp [hasE]
      rw [h1e]
      refine ⟨_, rfl, ?_⟩
      have E3 := (e1.trans e2).trans (ext_same e3)
      cases hh : hasE a b d' e' f' with
      | false =>
        refine iteF ?_
        have z := k H3 E3
        unfold eqT at z
        rw [hh, Bool.false_and] at z
        exact z
      | true =>
        refine iteT ?_
        have ht3 := ht.ex E3
        have hu3 := hu.ex E3
        refine ⟨_, rfl, t1, dx1, _, rfl, E3 _ _ p1, tipF_no _ (by decide +kernel), _, a, b, c, rfl, ht3, fun v H4 e4 hE => ?_⟩
        obtain ⟨m, g1, g2, g3, w1, w2, w3, rfl, z0, z1, z2, z3, th⟩ := hE
        refine ⟨m, _, _, _, rfl, rfl, SqL.of z0, atI_nat (j := 1) rfl, ?_⟩
        refine ⟨_, rfl, t2, dx2, _, rfl, e4 _ _ (E3 _ _ p2), tipF_no _ (by decide +kernel), _, d', e', f', rfl, hu3.ex e4, fun v H5 e5 hE2 => ?_⟩
        obtain ⟨m', s1, s2, s3, w1', w2', w3', rfl, c0, c1, c2, c3, th'⟩ := hE2
        have th5 := th.ex e5
        refine ⟨m', _, [decide (d' = b) && decide (e' = c), decide (e' = b) && decide (f' = c), decide (f' = b) && decide (d' = c)], rfl, c0, rfl, ?_, fun H6 e6 => ?_⟩
        · intro i z bb hz hb
          rcases two3 hz with ⟨rfl, rfl⟩ | ⟨rfl, rfl⟩ | ⟨rfl, rfl⟩
          · cases hb
            exact pair_eq c1 (e5 _ _ z2) th'.1 th'.2.1 th5.2.1 th5.2.2
          · cases hb
            exact pair_eq c2 (e5 _ _ z2) th'.2.1 th'.2.2 th5.2.1 th5.2.2
          · cases hb
            exact pair_eq c3 (e5 _ _ z2) th'.2.2 th'.1 th5.2.1 th5.2.2
        have h2e : ([decide (d' = b) && decide (e' = c), decide (e' = b) && decide (f' = c), decide (f' = b) && decide (d' = c)].any id) = hasE b c d' e' f' := by simp [hasE]
        rw [h2e]
        have z := k H6 (E3.trans (e4.trans (e5.trans (ext_same e6))))
        unfold eqT at z
        rw [hh, Bool.true_and] at z
        exact z
    · refine ⟨_, rfl, _, _, _, _, false, rfl, .own CT, .base (.lst hq), T.kLT, false, rfl, ?_⟩
      exact iteF k
end
end Fo
set_option Elab.async false
set_option linter.all false
set_option maxRecDepth 100000
set_option maxHeartbeats 2000000
namespace Fo
open PySem L2
/-! ### the law's own words of triangles -/
abbrev sLSide : Stmt := top 34
abbrev sCorn : Stmt := top 35
abbrev sWays : Stmt := top 36
def rLenK (K : PySem.W.Frag) : List V → Hp → VK → Prop := fun xs H Q => ∃ p ys, xs = [V.ref p] ∧ (SqL K H p ys ∨ SqT K H p ys) ∧ Q (V.int ys.length) H
abbrev Tp (H : Hp) (q : Addr) (p : I2) : Prop := H q = some (.tup [.int p.1, .int p.2])
theorem seq_gen {t1 t2 : TS} {D : Ends} {σ : L2.St} {H : Hp} (cond : L2.St → Hp → Prop) (h1 : ∀ N : L2.St → Hp → Prop, (∀ σ' H', cond σ' H' → N σ' H') → t1 { D with nx := N } σ H) (h2 : ∀ σ' H', cond σ' H' → t2 D σ' H') : tSeq t1 t2 D σ H := h1 _ h2
/-- three tuples of numbers -/
structure T3 (H : Hp) (qa qb qc : Addr) (a b c : I2) : Prop where
  a : Tp H qa a
  b : Tp H qb b
  c : Tp H qc c
theorem T3.ex {H H' : Hp} {qa qb qc : Addr} {a b c : I2} (e : Same H H') (h : T3 H qa qb qc a b c) : T3 H' qa qb qc a b c := ⟨e _ _ h.a, e _ _ h.b, e _ _ h.c⟩
def spLSide : Sp := fun vs H Q _ => ∃ (n : Nat) (qa qb qp : Addr) (a b p : I2), vs = [.ref qa, .ref qb, .ref qp] ∧ T3 H qa qb qp a b p ∧ n < 1000 ∧ Sm2 n a ∧ Sm2 n b ∧ Sm2 n p ∧ Q (.int (sd a b p)) H
def spCorn : Sp := fun vs H Q _ => ∃ p : Addr, vs = [.ref p, .int 8] ∧ PoolAt p H ∧ ∀ l qa qb qc a b c H', But p H H' → PoolAt p H' → H' l = some (.lst [.ref qa, .ref qb, .ref qc]) → T3 H' qa qb qc a b c → 0 < sd a b c → Sm2 5 a → Sm2 5 b → Sm2 5 c → Q (.ref l) H'
def spWays (K : PySem.W.Frag) : Sp := fun vs H Q _ => ∃ (l : Addr) (x y z : V), vs = [.ref l] ∧ SqL K H l [x, y, z] ∧ ∀ m e1 e2 e3 H', H m = none → Same H H' → H' m = some (.lst [.ref e1, .ref e2, .ref e3]) → H' e1 = some (.tup [x, y]) → H' e2 = some (.tup [y, z]) → H' e3 = some (.tup [z, x]) → Q (.ref m) H'
section
variable {P : Program} {w : World} {K : PySem.W.Frag} {mg : Str → Option Value} {base : Heap}
theorem scLSide : FnScope ["a", "b", "p"] ["a", "b", "p"] (defScope sLSide) := ⟨rfl, rfl, rfl, by decide +kernel, rfl, by decide +kernel, by decide +kernel⟩
theorem ok_lside {f : Addr} {fd : FuncData} (F : Fun K "_law_side" "_law_side" sLSide f fd) : FnOk P w K mg base CX0 1 f fd ["a", "b", "p"] spLSide := by
  refine F.ok scLSide (fun vs H Q E h => ?_) (fun cdv A outer s H vs Q E hr h => ?_)
  · obtain ⟨n, qa, qb, qp, a, b, p, rfl, _⟩ := h
    rfl
  · obtain ⟨n, qa, qb, qp, a, b, p, rfl, t, n1, sa, sb, sp, k⟩ := h
    refine ⟨_, pss_one (ps_ret (pe_op op_sub
      (pe_op op_mulW (pe_op op_sub (pe_ix ix_tup (pv 1) pe_int (fun _ _ => rfl)) (pe_ix ix_tup (pv 0) pe_int (fun _ _ => rfl))) (pe_op op_sub (pe_ix ix_tup (pv 2) pe_int (fun _ _ => rfl)) (pe_ix ix_tup (pv 0) pe_int (fun _ _ => rfl))))
      (pe_op op_mulW (pe_op op_sub (pe_ix ix_tup (pv 1) pe_int (fun _ _ => rfl)) (pe_ix ix_tup (pv 0) pe_int (fun _ _ => rfl))) (pe_op op_sub (pe_ix ix_tup (pv 2) pe_int (fun _ _ => rfl)) (pe_ix ix_tup (pv 0) pe_int (fun _ _ => rfl)))))), ?_⟩
    refine ⟨_, rfl, qb, _, _, _, rfl, rfl, SqT.of t.b, atI_nat (j := 0) rfl, _, rfl, qa, _, _, _, rfl, rfl, SqT.of t.a, atI_nat (j := 0) rfl, _, _, rfl, rfl, ?_⟩
    refine ⟨_, rfl, qp, _, _, _, rfl, rfl, SqT.of t.c, atI_nat (j := 1) rfl, _, rfl, qa, _, _, _, rfl, rfl, SqT.of t.a, atI_nat (j := 1) rfl, _, _, rfl, rfl, ?_⟩
    refine ⟨_, _, rfl, rfl, (sb.1.sub sa.1).mul (sp.2.sub sa.2) (Nat.succ_pos _) n1, ?_⟩
    refine ⟨_, rfl, qb, _, _, _, rfl, rfl, SqT.of t.b, atI_nat (j := 1) rfl, _, rfl, qa, _, _, _, rfl, rfl, SqT.of t.a, atI_nat (j := 1) rfl, _, _, rfl, rfl, ?_⟩
    refine ⟨_, rfl, qp, _, _, _, rfl, rfl, SqT.of t.c, atI_nat (j := 0) rfl, _, rfl, qa, _, _, _, rfl, rfl, SqT.of t.a, atI_nat (j := 0) rfl, _, _, rfl, rfl, ?_⟩
    refine ⟨_, _, rfl, rfl, (sb.2.sub sa.2).mul (sp.1.sub sa.1) (Nat.succ_pos _) n1, ?_⟩
    exact ⟨_, _, rfl, rfl, k⟩
theorem scWays : FnScope ["corners_here", "k"] ["corners_here"] (defScope sWays) := ⟨rfl, rfl, rfl, by decide +kernel, rfl, by decide +kernel, by decide +kernel⟩
theorem ok_ways {f : Addr} {fd : FuncData} (F : Fun K "_law_ways" "_law_ways" sWays f fd) (T : TxtL mg) : FnOk P w K mg base CX0 1 f fd ["corners_here"] (spWays K) := by
  refine F.ok scWays (fun vs H Q E h => ?_) (fun cdv A outer s H vs Q E hr h => ?_)
  · obtain ⟨l, x, y, z, rfl, _⟩ := h
    rfl
  · obtain ⟨l, x, y, z, rfl, hl, k⟩ := h
    refine ⟨_, pss_one (ps_ret (pe_lc (own := [("k", 1)]) (g := gName 1) (tt := tYes) rfl scWays.nd (pi_range1 rfl T.range (pa_cons (pe_callB call_len_seq (by rfl) T.len PySem.boot_len (pa_cons (pv 0) pa_nil)) pa_nil))
      (blkOk_by (own := [("k", 1)]) (N := ["corners_here", "k"]) (sc := defScope sWays) (by decide +kernel)) (fun _ _ _ _ _ => pg_name (i := 1) scWays.nd rfl (Or.inl rfl)) (fun _ _ _ _ _ => pts_nil)
      (fun _ _ _ _ _ => pe_tup (pa_cons (pe_ix (r := rIxL K) ix_list (pv 0) (pv 1) (fun _ _ => rfl)) (pa_cons (pe_ix (r := rIxL K) ix_list (pv 0) (pe_op op_mod (pe_op op_add (pv 1) pe_int) (pe_callB (r := rLenK K) call_len_seq (by rfl) T.len PySem.boot_len (pa_cons (pv 0) pa_nil))) (fun _ _ => rfl)) pa_nil))))), ?_⟩
    refine ⟨_, rfl, l, _, rfl, .inl hl, 3, rfl, by decide, by decide, fun D0 nD => ?_⟩
    refine lc_rAll (lo := 0) (n := 3) (sl := [1]) (fun i v H' => ∃ e, v = .ref e ∧ H' e = some (.tup (if i = 0 then [x, y] else if i = 1 then [y, z] else [z, x]))) (fun i v H H' e h => by obtain ⟨q, h1, h2⟩ := h; exact ⟨q, h1, e _ _ h2⟩)
      (fun i v H H' D ys hD b h => by obtain ⟨q, h1, h2⟩ := h; exact ⟨q, h1, b _ _ (ne_of h2 hD (by intro z; cases z)) h2⟩) (by decide) ?_ ?_ nD
    · intro i H2 hi e2 Q' k'
      have hl2 := e2.seq hl
      have : i = 0 ∨ i = 1 ∨ i = 2 := by omega
      refine ⟨rfl, ?_⟩
      rcases this with rfl | rfl | rfl
      · refine ⟨_, rfl, _, rfl, l, _, _, _, rfl, rfl, hl2, atI_nat (j := 0) rfl, _, rfl, _, rfl, _, _, rfl, rfl, _, rfl, l, _, rfl, .inl hl2, _, _, rfl, rfl, (by show (0 : Int) < 3; decide), l, _, _, _, rfl, rfl, hl2, (show atI [x, y, z] (1 : Int) = some y from atI_nat (j := 1) rfl), (by show 2 ≤ sizeLine; decide), fun t nt => ?_⟩
        exact k' _ _ (same_new nt) ⟨t, rfl, upd_same⟩
      · refine ⟨_, rfl, _, rfl, l, _, _, _, rfl, rfl, hl2, atI_nat (j := 1) rfl, _, rfl, _, rfl, _, _, rfl, rfl, _, rfl, l, _, rfl, .inl hl2, _, _, rfl, rfl, (by show (0 : Int) < 3; decide), l, _, _, _, rfl, rfl, hl2, (show atI [x, y, z] (2 : Int) = some z from atI_nat (j := 2) rfl), (by show 2 ≤ sizeLine; decide), fun t nt => ?_⟩
        exact k' _ _ (same_new nt) ⟨t, rfl, upd_same⟩
      · refine ⟨_, rfl, _, rfl, l, _, _, _, rfl, rfl, hl2, atI_nat (j := 2) rfl, _, rfl, _, rfl, _, _, rfl, rfl, _, rfl, l, _, rfl, .inl hl2, _, _, rfl, rfl, (by show (0 : Int) < 3; decide), l, _, _, _, rfl, rfl, hl2, (by rw [show ((0 + ((2 : Nat) : Int) + 1) % (([x, y, z] : List V).length : Int)) = ((0 : Nat) : Int) from by simp]; exact atI_nat (j := 0) rfl), (by show 2 ≤ sizeLine; decide), fun t nt => ?_⟩
        exact k' _ _ (same_new nt) ⟨t, rfl, upd_same⟩
    · intro H2 vs e2 hv hlen hR
      obtain ⟨x1, x2, x3, rfl⟩ := len3' hlen
      obtain ⟨t1, rfl, r1⟩ := hR 0 x1 rfl
      obtain ⟨t2, rfl, r2⟩ := hR 1 x2 rfl
      obtain ⟨t3, rfl, r3⟩ := hR 2 x3 rfl
      exact k D0 t1 t2 t3 H2 nD e2 hv r1 r2 r3
theorem scCorn : FnScope ["pool", "size_here", "a", "b", "c"] ["pool", "size_here"] (defScope sCorn) := ⟨rfl, rfl, rfl, by decide +kernel, rfl, by decide +kernel, by decide +kernel⟩
theorem sm5 {x : Int} (h0 : -31 ≤ x) (h1 : x ≤ 31) : Sm 5 x := by
  unfold Sm
  omega
theorem ok_corn {f fD fPr fLs : Addr} {fd fdD fdPr fdLs : FuncData} (F : Fun K "_law_corners" "_law_corners" sCorn f fd) (T : TxtL mg) (FD : Fun K "_law_draw" "_law_draw" sDraw fD fdD) (bD : Binds K fdD ["pool", "many"] []) (mD : mg "_law_draw" = some (.ref fD))
    (FPr : Fun K "_law_pair" "_law_pair" sPair fPr fdPr) (bPr : Binds K fdPr ["pool", "size_here"] []) (mPr : mg "_law_pair" = some (.ref fPr)) (FLs : Fun K "_law_side" "_law_side" sLSide fLs fdLs) (bLs : Binds K fdLs ["a", "b", "p"] []) (mLs : mg "_law_side" = some (.ref fLs)) :
    FnOk P w K mg base CX0 3 f fd ["pool", "size_here"] spCorn := by
  have GD : FnOk P w K mg base CX0 1 fD fdD ["pool", "many"] spDraw := ok_draw FD T
  have GP : FnOk P w K mg base CX0 2 fPr fdPr ["pool", "size_here"] spPair := ok_pair FPr T FD bD mD
  have GL : FnOk P w K mg base CX0 1 fLs fdLs ["a", "b", "p"] spLSide := ok_lside FLs
  refine F.ok scCorn (fun vs H Q E h => ?_) (fun cdv A outer s H vs Q E hr h => ?_)
  · obtain ⟨p, rfl, _⟩ := h
    rfl
  · obtain ⟨p, rfl, hp, k⟩ := h
    have hr1 : Room 1 _ := hr.mono (by decide)
    refine ⟨_, pss_cons (ps_par3 (i := 2) (j := 3) (l := 4) (by rfl) scCorn.nd rfl rfl rfl (by decide) (by decide) (by decide) rfl rfl rfl (pa_cons (pe_call GP hr rfl mPr FPr.kp bPr .nil pass0 (pa_cons (pv 0) (pa_cons (pv 1) pa_nil))) (pa_cons (pe_call GP hr rfl mPr FPr.kp bPr .nil pass0 (pa_cons (pv 0) (pa_cons (pv 1) pa_nil))) (pa_cons (pe_call GP hr rfl mPr FPr.kp bPr .nil pass0 (pa_cons (pv 0) (pa_cons (pv 1) pa_nil))) pa_nil))) (by rfl))
      (pss_cons (ps_if (pt_cmpR op_eq (pe_call GL hr1 rfl mLs FLs.kp bLs .nil pass0 (pa_cons (pv 2) (pa_cons (pv 3) (pa_cons (pv 4) pa_nil)))) pe_int (nomark _))
        (pss_one (ps_par (i := 3) (j := 4) (by rfl) scCorn.nd rfl rfl (by decide) rfl rfl (pa_cons (pe_tup (pa_cons (pe_op op_add (pe_op op_add (pe_ix ix_tup (pv 2) pe_int (fun _ _ => rfl)) pe_int) (pe_call GD hr1 rfl mD FD.kp bD .nil pass0 (pa_cons (pv 0) (pa_cons pe_int pa_nil)))) (pa_cons (pe_ix ix_tup (pv 2) pe_int (fun _ _ => rfl)) pa_nil)))
          (pa_cons (pe_tup (pa_cons (pe_op op_add (pe_ix ix_tup (pv 2) pe_int (fun _ _ => rfl)) (pe_call GD hr1 rfl mD FD.kp bD .nil pass0 (pa_cons (pv 0) (pa_cons pe_int pa_nil)))) (pa_cons (pe_op op_add (pe_ix ix_tup (pv 2) pe_int (fun _ _ => rfl)) pe_int) pa_nil))) pa_nil)) (by rfl))) pss_nil)
      (pss_one (ps_ret (pe_ifExp (pt_cmpR op_gt (pe_call GL hr1 rfl mLs FLs.kp bLs .nil pass0 (pa_cons (pv 2) (pa_cons (pv 3) (pa_cons (pv 4) pa_nil)))) pe_int (nomark _)) (pe_lst (pa_cons (pv 2) (pa_cons (pv 3) (pa_cons (pv 4) pa_nil)))) (pe_lst (pa_cons (pv 2) (pa_cons (pv 4) (pa_cons (pv 3) pa_nil)))))))), ?_⟩
    refine seq_gen (fun σ' H' => ∃ qa qb qc a b c, σ' = [some (.ref p), some (.int 8), some (.ref qa), some (.ref qb), some (.ref qc)] ∧ But p H H' ∧ PoolAt p H' ∧ T3 H' qa qb qc a b c ∧ (-8 ≤ a.1 ∧ a.1 ≤ 8 ∧ -8 ≤ a.2 ∧ a.2 ≤ 8) ∧ (-8 ≤ b.1 ∧ b.1 ≤ 8 ∧ -8 ≤ b.2 ∧ b.2 ≤ 8) ∧ (-8 ≤ c.1 ∧ c.1 ≤ 8 ∧ -8 ≤ c.2 ∧ c.2 ≤ 8)) (fun N hN => ?_) ?_
    · refine ⟨_, rfl, _, rfl, p, 8, rfl, hp, by decide, by decide, fun q1 x1 y1 H1 b1 p1 h1 c1 c2 c3 c4 => ?_⟩
      refine ⟨_, rfl, _, rfl, p, 8, rfl, p1, by decide, by decide, fun q2 x2 y2 H2 b2 p2 h2 d1 d2 d3 d4 => ?_⟩
      refine ⟨_, rfl, _, rfl, p, 8, rfl, p2, by decide, by decide, fun q3 x3 y3 H3 b3 p3 h3 e1 e2 e3 e4 => ?_⟩
      refine ⟨_, _, _, rfl, ?_⟩
      exact hN _ _ ⟨q1, q2, q3, (x1, y1), (x2, y2), (x3, y3), rfl, (b1.trans b2).trans b3, p3, ⟨b3 _ _ (tup_ne p2 (b2 _ _ (tup_ne p1 h1) h1)) (b2 _ _ (tup_ne p1 h1) h1), b3 _ _ (tup_ne p2 h2) h2, h3⟩, ⟨c1, c2, c3, c4⟩, ⟨d1, d2, d3, d4⟩, ⟨e1, e2, e3, e4⟩⟩
    rintro σ H2 ⟨qa, qb, qc, a, b, c, rfl, b2, p2, t2, ra, rb, rc⟩
    refine seq_gen (fun σ' H' => ∃ qb qc b c, σ' = [some (.ref p), some (.int 8), some (.ref qa), some (.ref qb), some (.ref qc)] ∧ But p H H' ∧ PoolAt p H' ∧ T3 H' qa qb qc a b c ∧ sd a b c ≠ 0 ∧ Sm2 5 b ∧ Sm2 5 c) (fun N hN => ?_) ?_
    · refine ⟨_, rfl, _, rfl, _, rfl, 5, qa, qb, qc, a, b, c, rfl, t2, by decide, ⟨sm5 (by omega) (by omega), sm5 (by omega) (by omega)⟩, ⟨sm5 (by omega) (by omega), sm5 (by omega) (by omega)⟩, ⟨sm5 (by omega) (by omega), sm5 (by omega) (by omega)⟩, rfl, _, rfl, ?_⟩
      by_cases hz : sd a b c = 0
      · rw [int_eqT hz]
        refine iteT ?_
        refine ⟨_, rfl, qa, _, _, _, rfl, rfl, SqT.of t2.a, atI_nat (j := 0) rfl, _, _, rfl, rfl, _, rfl, p, 3, rfl, p2, by decide, by decide, fun r1 H3 r10 r11 b3 p3 => ?_⟩
        have a3 := b3 _ _ (tup_ne p2 t2.a) t2.a
        refine ⟨_, _, rfl, rfl, _, rfl, qa, _, _, _, rfl, rfl, SqT.of a3, atI_nat (j := 1) rfl, (by show 2 ≤ sizeLine; decide), fun s1 ns1 => ?_⟩
        have g1 := same_new (o := .tup [.int (a.1 + 1 + r1), .int a.2]) ns1
        have a4 := g1 _ _ a3
        have p4 := p3.ex g1
        refine ⟨_, rfl, qa, _, _, _, rfl, rfl, SqT.of a4, atI_nat (j := 0) rfl, _, rfl, p, 3, rfl, p4, by decide, by decide, fun r2 H5 r20 r21 b5 p5 => ?_⟩
        have a5 := b5 _ _ (tup_ne p4 a4) a4
        have s5 := b5 _ _ (tup_ne p4 (upd_same (H := H3) (a := s1) (o := .tup [.int (a.1 + 1 + r1), .int a.2]))) upd_same
        refine ⟨_, _, rfl, rfl, _, rfl, qa, _, _, _, rfl, rfl, SqT.of a5, atI_nat (j := 1) rfl, _, _, rfl, rfl, (by show 2 ≤ sizeLine; decide), fun s2 ns2 => ?_⟩
        have g2 := same_new (o := .tup [.int (a.1 + r2), .int (a.2 + 2)]) ns2
        refine ⟨_, _, rfl, ?_⟩
        have g23 := g2
        refine hN _ _ ⟨s1, s2, (a.1 + 1 + r1, a.2), (a.1 + r2, a.2 + 2), rfl, (((b2.trans b3).trans (But.of g1)).trans b5).trans (But.of g23), p5.ex g23, ⟨g23 _ _ a5, g23 _ _ s5, upd_same⟩, ?_, ⟨sm5 (by show -31 ≤ a.1 + 1 + r1; omega) (by show a.1 + 1 + r1 ≤ 31; omega), sm5 (by show -31 ≤ a.2; omega) (by show a.2 ≤ 31; omega)⟩, ⟨sm5 (by show -31 ≤ a.1 + r2; omega) (by show a.1 + r2 ≤ 31; omega), sm5 (by show -31 ≤ a.2 + 2; omega) (by show a.2 + 2 ≤ 31; omega)⟩⟩
        have e : sd a (a.1 + 1 + r1, a.2) (a.1 + r2, a.2 + 2) = 2 * (1 + r1) := by
          unfold sd sideI
          grind
        rw [e]
        omega
      · rw [int_eqF hz]
        refine iteF ?_
        exact hN _ _ ⟨qb, qc, b, c, rfl, b2, p2, t2, hz, ⟨sm5 (by omega) (by omega), sm5 (by omega) (by omega)⟩, ⟨sm5 (by omega) (by omega), sm5 (by omega) (by omega)⟩⟩
    rintro σ H3 ⟨qb, qc, b, c, rfl, b3, p3, t3, nz, sb, sc⟩
    have sa : Sm2 5 a := ⟨sm5 (by omega) (by omega), sm5 (by omega) (by omega)⟩
    refine ⟨_, rfl, _, rfl, _, rfl, 5, qa, qb, qc, a, b, c, rfl, t3, by decide, sa, sb, sc, _, _, rfl, rfl, _, rfl, ?_⟩
    by_cases hs : 0 < sd a b c
    · rw [decide_eq_true hs]
      refine iteT ?_
      refine ⟨_, rfl, _, rfl, _, rfl, (by show 3 ≤ sizeLine; decide), fun l nl => ?_⟩
      have g := same_new (o := .lst [.ref qa, .ref qb, .ref qc]) nl
      exact k l qa qb qc a b c _ (b3.trans (But.of g)) (p3.ex g) upd_same (t3.ex g) hs sa sb sc
    · rw [decide_eq_false hs]
      refine iteF ?_
      refine ⟨_, rfl, _, rfl, _, rfl, (by show 3 ≤ sizeLine; decide), fun l nl => ?_⟩
      have g := same_new (o := .lst [.ref qa, .ref qc, .ref qb]) nl
      have t4 := t3.ex g
      have e : sd a c b = - sd a b c := by
        unfold sd sideI
        grind
      exact k l qa qc qb a c b _ (b3.trans (But.of g)) (p3.ex g) upd_same ⟨t4.a, t4.c, t4.b⟩ (by omega) sa sc sb
end
end Fo
set_option Elab.async false
set_option linter.all false
set_option maxRecDepth 100000
set_option maxHeartbeats 2000000
namespace Fo
open PySem L2
/-! ### filledonce.values -/
abbrev sWei : Stmt := top 20
abbrev sVal : Stmt := top 21
abbrev sChk : Stmt := top 22
def XDn (v : V) : HO := .xd [((Str.ofString "number"), v)]
section
variable {K : PySem.W.Frag}
theorem kit_list : PySem.W.kitAny K (.type "list") [.type "list", .type "tuple"] = some true := kitAny_cons (b := true) (kit_ty (by decide +kernel)) (fun z => nomatch z) fun _ => rfl
theorem kit_tuple : PySem.W.kitAny K (.type "tuple") [.type "list", .type "tuple"] = some true := kitAny_cons (b := false) (kit_ty (by decide +kernel)) (fun _ => kitAny_cons (b := true) (kit_ty (by decide +kernel)) (fun z => nomatch z) fun _ => rfl) fun z => nomatch z
theorem kit_no {a : String} (h1 : kitB a "list" = some false) (h2 : kitB a "tuple" = some false) : PySem.W.kitAny K (.type a) [.type "list", .type "tuple"] = some false := kitAny_cons (b := false) (kit_ty h1) (fun _ => kitAny_cons (b := false) (kit_ty h2) (fun _ => kitAny_nil) fun z => nomatch z) fun z => nomatch z
end
abbrev lt2 : List V := [.ty "list", .ty "tuple"]
theorem lt2_ok : Paired ClsV lt2 [.type "list", .type "tuple"] := .cons (.ty _) (.cons (.ty _) .nil)
/-- three whole numbers in a list or a tuple -/
def Is3 (H : Hp) (v : V) (x y z : Int) : Prop := ∃ a, v = .ref a ∧ (H a = some (.lst [.int x, .int y, .int z]) ∨ H a = some (.tup [.int x, .int y, .int z]))
theorem Is3.ex {H H' : Hp} {v : V} {x y z : Int} (e : Same H H') (h : Is3 H v x y z) : Is3 H' v x y z := by
  obtain ⟨a, rfl, h⟩ := h
  exact ⟨a, rfl, h.imp (e _ _) (e _ _)⟩
/-- what is no list and no tuple -/
inductive NoS (H : Hp) : V → Prop
  | non : NoS H .non
  | str (z : Str) : NoS H (.str z)
  | dct {a : Addr} {kvs : List (L2.Key × V)} (h : H a = some (.dK kvs)) : NoS H (.ref a)
theorem NoS.ex {H H' : Hp} {v : V} (e : Same H H') (h : NoS H v) : NoS H' v := by
  cases h with
  | non => exact .non
  | str z => exact .str z
  | dct h => exact .dct (e _ _ h)
/-- values that are none, and what is told of them -/
def BadV (H : Hp) (v nv : V) : Prop := (NoS H v ∧ nv = .non) ∨ (∃ (a : Addr) (xs : List V), v = .ref a ∧ H a = some (.lst xs) ∧ xs.length ≠ 3 ∧ nv = .non) ∨
  (∃ (a : Addr) (xs : List V) (k : Nat) (y : V), v = .ref a ∧ H a = some (.lst xs) ∧ xs.length = 3 ∧ (∀ i x, i < k → xs[i]? = some x → ∃ j, x = .int j) ∧ xs[k]? = some y ∧ Scal y ∧ wholeV y = false ∧ nv = .int (k : Nat))
theorem BadV.ex {H H' : Hp} {v nv : V} (e : Same H H') (h : BadV H v nv) : BadV H' v nv := by
  rcases h with ⟨h, r⟩ | ⟨a, xs, h1, h2, r⟩ | ⟨a, xs, k, y, h1, h2, r⟩
  · exact .inl ⟨h.ex e, r⟩
  · exact .inr (.inl ⟨a, xs, h1, e _ _ h2, r⟩)
  · exact .inr (.inr ⟨a, xs, k, y, h1, e _ _ h2, r⟩)
def spWei (C CT : Addr) : Sp := fun vs H Q _ => ∃ (n : Nat) (t z : V) (a b c p : I2), vs = [t, z] ∧ IsT C CT t a b c H ∧ IsPt2 C z p H ∧ n < 1000 ∧ Sm2 n a ∧ Sm2 n b ∧ Sm2 n c ∧ Sm2 n p ∧ ∀ q H', Same H H' → H' q = some (.tup [.int (sd b c p), .int (sd c a p), .int (sd a b p)]) → Q (.ref q) H'
def spWeiX (CI : Addr) : Sp := fun vs H _ E => ∃ t z : V, vs = [t, z] ∧ Bad H z ∧ ∀ d H', Same H H' → H' d = some (XD z) → E (.ref CI) (some d) H'
def spChk : Sp := fun vs H Q _ => ∃ (v : V) (x y z : Int), vs = [v] ∧ Is3 H v x y z ∧ ∀ H', Same H H' → Q .non H'
def spChkX (CV : Addr) : Sp := fun vs H _ E => ∃ v nv : V, vs = [v] ∧ BadV H v nv ∧ ∀ d H', Same H H' → H' d = some (XDn nv) → E (.ref CV) (some d) H'
/-- what is divided -/
def tot (a b c p : I2) (x y z : Int) : Int := sd b c p * x + (sd c a p * y + (sd a b p * z + 0))
def spVal (C CT : Addr) : Sp := fun vs H Q _ => ∃ (n : Nat) (t v z : V) (a b c p : I2) (x y w : Int), vs = [t, v, z] ∧ IsT C CT t a b c H ∧ Is3 H v x y w ∧ IsPt2 C z p H ∧ n < 400 ∧ Sm2 n a ∧ Sm2 n b ∧ Sm2 n c ∧ Sm2 n p ∧ Sm 400 x ∧ Sm 400 y ∧ Sm 400 w ∧ 0 < sd a b c ∧
  ∀ q H', Same H H' → H' q = some (.tup [.int (tot a b c p x y w / (Int.gcd (tot a b c p x y w) (sd a b c) : Int)), .int (sd a b c / (Int.gcd (tot a b c p x y w) (sd a b c) : Int))]) → Q (.ref q) H'
def spValX (C CT CI CV : Addr) : Sp := fun vs H _ E => ∃ t v z : V, vs = [t, v, z] ∧
  ((Bad H z ∧ ∀ d H', Same H H' → H' d = some (XD z) → E (.ref CI) (some d) H') ∨
   (∃ (n : Nat) (a b c p : I2) (nv : V), IsT C CT t a b c H ∧ IsPt2 C z p H ∧ n < 1000 ∧ Sm2 n a ∧ Sm2 n b ∧ Sm2 n c ∧ Sm2 n p ∧ BadV H v nv ∧ ∀ d H', Same H H' → H' d = some (XDn nv) → E (.ref CV) (some d) H'))
theorem sd_sm {n : Nat} {a b p : I2} (sa : Sm2 n a) (sb : Sm2 n b) (sp : Sm2 n p) : Sm (2 * n + 3) (sd a b p) := by
  have h1 : Sm ((n + 1) + (n + 1)) ((b.1 - a.1) * (p.2 - a.2)) := wide_lt (sb.1.sub sa.1) (sp.2.sub sa.2)
  have h2 : Sm ((n + 1) + (n + 1)) ((b.2 - a.2) * (p.1 - a.1)) := wide_lt (sb.2.sub sa.2) (sp.1.sub sa.1)
  have h3 := h1.sub h2
  rw [show (n + 1) + (n + 1) + 1 = 2 * n + 3 by omega] at h3
  exact h3
structure VTxt (mg : Str → Option Value) : Prop where
  sum : mg "sum" = none
  zip : mg "zip" = none
  enum : mg "enumerate" = none
  list : mg "list" = none
  abs : mg "abs" = none
structure VDefs (K : PySem.W.Frag) (mg : Str → Option Value) (fG fWe fCk fVa : Addr) (fdG fdWe fdCk fdVa : FuncData) : Prop where
  T : VTxt mg
  FG : Fun K "common_divisor" "common_divisor" sGcd fG fdG
  bG : Binds K fdG ["one", "other"] []
  mG : mg "common_divisor" = some (.ref fG)
  FWe : Fun K "weights" "weights" sWei fWe fdWe
  bWe : Binds K fdWe ["triangle", "point"] []
  mWe : mg "weights" = some (.ref fWe)
  FCk : Fun K "check_values" "check_values" sChk fCk fdCk
  bCk : Binds K fdCk ["values"] []
  mCk : mg "check_values" = some (.ref fCk)
  FVa : Fun K "value_at" "value_at" sVal fVa fdVa
  bVa : Binds K fdVa ["triangle", "values", "point"] []
  mVa : mg "value_at" = some (.ref fVa)
section
variable {P : Program} {w : World} {K : PySem.W.Frag} {mg : Str → Option Value} {base : Heap}
variable {C fW fI fP fA fO CT fS fTI fCo fEd fAr fEq fAd pAr CI fII CV fVI fG fWe fCk fVa : Addr} {fdW fdI fdP fdA fdO fdS fdTI fdCo fdEd fdAr fdEq fdAd fdG fdWe fdCk fdVa : FuncData}
theorem scWei : FnScope ["triangle", "point", "place", "a", "b", "c"] ["triangle", "point"] (defScope sWei) := ⟨rfl, rfl, rfl, by decide +kernel, rfl, by decide +kernel, by decide +kernel⟩
theorem ok_wei (D : Defs K mg C fW fI fP fA fO fdW fdI fdP fdA fdO) (d : TDefs K mg C CT fS fTI fCo fEd fAr fEq fAd pAr fdS fdTI fdCo fdEd fdAr fdEq fdAd) (Vd : VDefs K mg fG fWe fCk fVa fdG fdWe fdCk fdVa) : FnOk P w K mg base CX0 8 fWe fdWe ["triangle", "point"] (spWei C CT) := by
  have GA : FnOk P w K mg base CX0 4 fA fdA ["thing"] (spAsPoint C) := D.GA
  have GS : FnOk P w K mg base CX0 7 fS fdS ["a", "b", "point"] (spSide C) := ok_side d.FS D
  have GCo : FnOk P w K mg base CX0 1 fCo fdCo ["self"] (spCorners C CT) := d.GCo
  refine Vd.FWe.ok scWei (fun vs H Q E h => ?_) (fun cdv A outer s H vs Q E hr h => ?_)
  · obtain ⟨n, t, z, a, b, c, p, rfl, _⟩ := h
    rfl
  · obtain ⟨n, t, z, a, b, c, p, rfl, hT, hz, n1, sa, sb, sc, sp, k⟩ := h
    refine ⟨_, pss_cons (ps_set (i := 2) scWei.nd rfl (Or.inl rfl) (pe_call GA (hr.mono (by decide)) rfl D.mA D.FA.kp D.bA .nil pass0 (pa_cons (pv 1) pa_nil)))
      (pss_cons (ps_asg (pe_meth0 (pv 0) d.TT.cl d.mCo GCo (hr.mono (by decide)) d.bCo .nil pass0) (pg_unl rfl (pgs_cons (pg_name (i := 3) scWei.nd rfl (Or.inl rfl)) (pgs_cons (pg_name (i := 4) scWei.nd rfl (Or.inl rfl)) (pgs_cons (pg_name (i := 5) scWei.nd rfl (Or.inl rfl)) pgs_nil)))))
      (pss_one (ps_ret (pe_tup (pa_cons (pe_call GS hr rfl d.mS d.FS.kp d.bS .nil pass0 (pa_cons (pv 4) (pa_cons (pv 5) (pa_cons (pv 2) pa_nil)))) (pa_cons (pe_call GS hr rfl d.mS d.FS.kp d.bS .nil pass0 (pa_cons (pv 5) (pa_cons (pv 3) (pa_cons (pv 2) pa_nil)))) (pa_cons (pe_call GS hr rfl d.mS d.FS.kp d.bS .nil pass0 (pa_cons (pv 3) (pa_cons (pv 4) (pa_cons (pv 2) pa_nil)))) pa_nil))))))), ?_⟩
    refine ⟨_, rfl, z, p.1, p.2, rfl, hz, fun w1 H1 e1 h1 _ => ?_⟩
    have hT1 := hT.ex e1
    obtain ⟨tr, dx, l6, q1, q2, q3, rfl, htr, _⟩ := id hT1
    refine ⟨_, rfl, tr, dx, _, rfl, htr, tipF_no _ (by decide +kernel), _, a, b, c, rfl, hT1, fun lc z1 z2 z3 H2 nlc e2 hlc th => ?_⟩
    refine ⟨lc, _, rfl, SqL.of hlc, rfl, _, _, rfl, _, _, rfl, _, _, rfl, rfl, ?_⟩
    have hp := h1.ex e2
    refine ⟨_, rfl, _, rfl, _, rfl, n, z2, z3, w1, b.1, b.2, c.1, c.2, p.1, p.2, rfl, th.2.1.pt, th.2.2.pt, hp.pt, n1, sb.1, sb.2, sc.1, sc.2, sp.1, sp.2, fun H3 e3 => ?_⟩
    refine ⟨_, rfl, _, rfl, _, rfl, n, z3, z1, w1, c.1, c.2, a.1, a.2, p.1, p.2, rfl, (th.2.2.ex e3).pt, (th.1.ex e3).pt, (hp.ex e3).pt, n1, sc.1, sc.2, sa.1, sa.2, sp.1, sp.2, fun H4 e4 => ?_⟩
    have e34 := e3.trans e4
    refine ⟨_, rfl, _, rfl, _, rfl, n, z1, z2, w1, a.1, a.2, b.1, b.2, p.1, p.2, rfl, (th.1.ex e34).pt, (th.2.1.ex e34).pt, (hp.ex e34).pt, n1, sa.1, sa.2, sb.1, sb.2, sp.1, sp.2, fun H5 e5 => ?_⟩
    refine ⟨(by show 3 ≤ sizeLine; decide), fun q nq => ?_⟩
    exact k q _ (e1.trans (e2.trans (e34.trans (e5.trans (same_new nq))))) upd_same
theorem ok_weiX (D : Defs K mg C fW fI fP fA fO fdW fdI fdP fdA fdO) (TX : TxtX P K mg C CI fII) (Vd : VDefs K mg fG fWe fCk fVa fdG fdWe fdCk fdVa) : FnOk P w K mg base (L2.CX P w) 4 fWe fdWe ["triangle", "point"] (spWeiX CI) := by
  have GA : FnOk P w K mg base (L2.CX P w) 3 fA fdA ["thing"] (spBadX CI) := ok_as_pointX D TX
  refine Vd.FWe.okX scWei (fun vs H Q E h => ?_) (fun cdv A outer s H vs Q E hr h => ?_)
  · obtain ⟨t, z, rfl, _⟩ := h
    rfl
  · obtain ⟨t, z, rfl, bad, k⟩ := h
    refine ⟨_, pss_cons (ps_set (i := 2) scWei.nd rfl (Or.inl rfl) (pe_call (E := E) GA hr rfl D.mA D.FA.kp D.bA .nil (passes_call (takes_of rfl rfl rfl rfl) fun _ _ _ _ h => h) (pa_cons (pv 1) pa_nil)))
      (pss_cons ps_never (pss_one ps_never)), ?_⟩
    exact ⟨_, rfl, z, rfl, bad, k⟩
theorem scChk : FnScope ["values", "number", "worth"] ["values"] (defScope sChk) := ⟨rfl, rfl, rfl, by decide +kernel, rfl, by decide +kernel, by decide +kernel⟩
theorem get3 {x y z : Int} {j : Nat} {v : V} (h : [V.int x, V.int y, V.int z][j]? = some v) : ∃ i, v = .int i := by
  rcases two3 h with ⟨_, rfl⟩ | ⟨_, rfl⟩ | ⟨_, rfl⟩ <;> exact ⟨_, rfl⟩
theorem ok_chk (D : Defs K mg C fW fI fP fA fO fdW fdI fdP fdA fdO) (Vd : VDefs K mg fG fWe fCk fVa fdG fdWe fdCk fdVa) : FnOk P w K mg base CX0 2 fCk fdCk ["values"] spChk := by
  have GW : FnOk P w K mg base CX0 1 fW fdW ["value"] spWholeX := ok_wholeX D.FW D.T
  have T := D.T
  refine Vd.FCk.ok scChk (fun vs H Q E h => ?_) (fun cdv A outer s H vs Q E hr h => ?_)
  · obtain ⟨v, x, y, z, rfl, _⟩ := h
    rfl
  · obtain ⟨v, x, y, z, rfl, h3, k⟩ := h
    refine ⟨_, pss_cons (ps_if (PW.pt (pw_or (pt_not (pt_val (pe_callB call_isiT (by rfl) T.isi (by decide +kernel) (pa_cons (pv 0) (pa_cons (pe_tup (pa_cons (pe_bltn (v := .ty "list") (by rfl) Vd.T.list (by decide +kernel) rfl) (pa_cons (pe_bltn (v := .ty "tuple") (by rfl) T.tuple (by decide +kernel) rfl) pa_nil))) pa_nil)))))
        (pw_or1 (pt_cmpR op_ne (pe_callB call_len_seq (by rfl) T.len PySem.boot_len (pa_cons (pv 0) pa_nil)) pe_int (nomark _))))) (pss_one ps_never) pss_nil)
      (pss_one (ps_for PassesOwn.never rfl (pi_enumX (by rfl) Vd.T.enum (pa_cons (pv 0) pa_nil)) (pg_tup rfl (pgs_cons (pg_name (i := 1) scChk.nd rfl (Or.inl rfl)) (pgs_cons (pg_name (i := 2) scChk.nd rfl (Or.inl rfl)) pgs_nil)))
        (pss_one (ps_if (pt_not (pt_val (pe_call GW hr rfl D.mW D.FW.kp D.bW .nil pass0 (pa_cons (pv 2) pa_nil)))) (pss_one ps_never) pss_nil)))), ?_⟩
    obtain ⟨a, rfl, ha⟩ := h3
    have turn : ∀ (j : Nat) (v : V) (t : Addr) (H2 : Hp), [V.int x, V.int y, V.int z][j]? = some v → ∃ i, v = .int i := fun j v t H2 hv => get3 hv
    rcases ha with ha | ha
    · refine ⟨_, rfl, (by show 2 ≤ sizeLine; decide), fun tp ntp => ?_⟩
      have g := same_new (o := .tup lt2) ntp
      have ha1 := g _ _ ha
      refine ⟨_, tp, lt2, _, _, true, rfl, upd_same, lt2_ok, .base (.lst ha1), kit_list, true, rfl, ?_⟩
      refine iteF ?_
      refine ⟨_, rfl, a, _, rfl, .inl (SqL.of ha1), rfl, _, rfl, iteNS rfl ?_⟩
      refine ⟨_, rfl, a, _, rfl, .inl ⟨SqL.of ha1, ?_⟩⟩
      refine for_enumL (K := K) (a := a) (xs := [V.int x, V.int y, V.int z]) (fun j σ' H' => ∃ v1 v2 : Option V, σ' = [some (.ref a), v1, v2] ∧ Same (upd H tp (.tup lt2)) H') ⟨_, _, rfl, Same.refl _⟩ (fun j σ' H' h => by
        obtain ⟨_, _, _, e⟩ := h
        exact SqL.of (e _ _ ha1)) ?_ ?_
      · rintro j v t σ H2 hv ⟨v1, v2, rfl, e2⟩ nt
        obtain ⟨i, rfl⟩ := get3 hv
        refine ⟨t, _, rfl, SqT.of upd_same, rfl, _, _, rfl, _, _, rfl, rfl, ?_⟩
        refine ⟨_, rfl, .int i, rfl, trivial, true, rfl, ?_⟩
        refine iteF ?_
        exact ⟨_, _, rfl, e2.trans (same_new nt)⟩
      · rintro σ H2 ⟨v1, v2, rfl, e2⟩
        exact k H2 (g.trans e2)
    · refine ⟨_, rfl, (by show 2 ≤ sizeLine; decide), fun tp ntp => ?_⟩
      have g := same_new (o := .tup lt2) ntp
      have ha1 := g _ _ ha
      refine ⟨_, tp, lt2, _, _, true, rfl, upd_same, lt2_ok, .base (.tup ha1), kit_tuple, true, rfl, ?_⟩
      refine iteF ?_
      refine ⟨_, rfl, a, _, rfl, .inr (SqT.of ha1), rfl, _, rfl, iteNS rfl ?_⟩
      refine ⟨_, rfl, a, _, rfl, .inr ⟨SqT.of ha1, ?_⟩⟩
      refine for_enumT (K := K) (a := a) (xs := [V.int x, V.int y, V.int z]) (fun j σ' H' => ∃ v1 v2 : Option V, σ' = [some (.ref a), v1, v2] ∧ Same (upd H tp (.tup lt2)) H') ⟨_, _, rfl, Same.refl _⟩ (fun j σ' H' h => by
        obtain ⟨_, _, _, e⟩ := h
        exact SqT.of (e _ _ ha1)) ?_ ?_
      · rintro j v t σ H2 hv ⟨v1, v2, rfl, e2⟩ nt
        obtain ⟨i, rfl⟩ := get3 hv
        refine ⟨t, _, rfl, SqT.of upd_same, rfl, _, _, rfl, _, _, rfl, rfl, ?_⟩
        refine ⟨_, rfl, .int i, rfl, trivial, true, rfl, ?_⟩
        refine iteF ?_
        exact ⟨_, _, rfl, e2.trans (same_new nt)⟩
      · rintro σ H2 ⟨v1, v2, rfl, e2⟩
        exact k H2 (g.trans e2)
theorem ok_chkX (D : Defs K mg C fW fI fP fA fO fdW fdI fdP fdA fdO) (Vd : VDefs K mg fG fWe fCk fVa fdG fdWe fdCk fdVa) (xV : FoX_number.XTxt P K mg CV fVI) (gV : mg "InvalidValues" = some (.ref CV)) : FnOk P w K mg base (L2.CX P w) 3 fCk fdCk ["values"] (spChkX CV) := by
  have GW : FnOk P w K mg base CX0 1 fW fdW ["value"] spWholeX := ok_wholeX D.FW D.T
  have T := D.T
  refine Vd.FCk.okX scChk (fun vs H Q E h => ?_) (fun cdv A outer s H vs Q E hr h => ?_)
  · obtain ⟨v, nv, rfl, _⟩ := h
    rfl
  · obtain ⟨v, nv, rfl, hb, k⟩ := h
    have hr1 : Room 1 _ := hr.mono (by decide)
    refine ⟨_, pss_cons (ps_if (PW.pt (pw_or (pt_not (pt_val (pe_callB call_isiT (by rfl) T.isi (by decide +kernel) (pa_cons (pv 0) (pa_cons (pe_tup (pa_cons (pe_bltn (v := .ty "list") (by rfl) Vd.T.list (by decide +kernel) rfl) (pa_cons (pe_bltn (v := .ty "tuple") (by rfl) T.tuple (by decide +kernel) rfl) pa_nil))) pa_nil)))))
        (pw_or1 (pt_cmpR op_ne (pe_callB call_len_seq (by rfl) T.len PySem.boot_len (pa_cons (pv 0) pa_nil)) pe_int (nomark _))))) (pss_one (ps_raise_number (W := fun cls d _ H => E cls d H) rfl xV gV hr (takes_of rfl rfl rfl rfl) (pa_cons pe_non pa_nil))) pss_nil)
      (pss_one (ps_for (passes_of rfl) rfl (pi_enumX (by rfl) Vd.T.enum (pa_cons (pv 0) pa_nil)) (pg_tup rfl (pgs_cons (pg_name (i := 1) scChk.nd rfl (Or.inl rfl)) (pgs_cons (pg_name (i := 2) scChk.nd rfl (Or.inl rfl)) pgs_nil)))
        (pss_one (ps_if (pt_not (pt_val (pe_call GW hr1 rfl D.mW D.FW.kp D.bW .nil pass0 (pa_cons (pv 2) pa_nil)))) (pss_one (ps_raise_number (W := fun cls d _ H => E cls d H) rfl xV gV hr (takes_of rfl rfl rfl rfl) (pa_cons (pv 1) pa_nil))) pss_nil)))), ?_⟩
    refine ⟨_, rfl, (by show 2 ≤ sizeLine; decide), fun tp ntp => ?_⟩
    have g := same_new (o := .tup lt2) ntp
    have fin : ∀ (H1 : Hp) d, Same H H1 → H1 d = none → nv = .non → E (.ref CV) (some d) (upd H1 d (XDn .non)) := fun H1 d e nd en => by
      have kk := k d (upd H1 d (XDn .non)) (e.trans (same_new nd))
      rw [en] at kk
      exact kk upd_same
    rcases hb with ⟨hn, en⟩ | ⟨a, xs, rfl, ha, ne, en⟩ | ⟨a, xs, j0, y, rfl, ha, l3, hi, hy, sy, wy, en⟩
    · have hn1 := hn.ex g
      cases hn1 with
      | non => exact ⟨_, tp, lt2, _, _, false, rfl, upd_same, lt2_ok, .base .non, kit_no (by decide +kernel) (by decide +kernel), false, rfl, iteT ⟨_, rfl, fun d nd => fin _ d g nd en⟩⟩
      | str z => exact ⟨_, tp, lt2, _, _, false, rfl, upd_same, lt2_ok, .base (.str z), kit_no (by decide +kernel) (by decide +kernel), false, rfl, iteT ⟨_, rfl, fun d nd => fin _ d g nd en⟩⟩
      | dct h => exact ⟨_, tp, lt2, _, _, false, rfl, upd_same, lt2_ok, .base (.dK h), kit_no (by decide +kernel) (by decide +kernel), false, rfl, iteT ⟨_, rfl, fun d nd => fin _ d g nd en⟩⟩
    · have ha1 := g _ _ ha
      refine ⟨_, tp, lt2, _, _, true, rfl, upd_same, lt2_ok, .base (.lst ha1), kit_list, true, rfl, ?_⟩
      refine iteF ?_
      refine ⟨_, rfl, a, _, rfl, .inl (SqL.of ha1), rfl, _, rfl, ?_⟩
      rw [int_eqF (by omega)]
      exact iteT ⟨_, rfl, fun d nd => fin _ d g nd en⟩
    · have ha1 := g _ _ ha
      refine ⟨_, tp, lt2, _, _, true, rfl, upd_same, lt2_ok, .base (.lst ha1), kit_list, true, rfl, ?_⟩
      refine iteF ?_
      refine ⟨_, rfl, a, _, rfl, .inl (SqL.of ha1), rfl, _, rfl, ?_⟩
      rw [int_eqT (by omega)]
      refine iteF ?_
      refine ⟨_, rfl, a, _, rfl, .inl ⟨SqL.of ha1, ?_⟩⟩
      have jl : j0 < xs.length := (List.getElem?_eq_some_iff.mp hy).1
      refine for_enumL (K := K) (a := a) (xs := xs) (fun j σ' H' => ∃ v1 v2 : Option V, σ' = [some (.ref a), v1, v2] ∧ Same (upd H tp (.tup lt2)) H' ∧ j ≤ j0) ⟨_, _, rfl, Same.refl _, Nat.zero_le _⟩ (fun j σ' H' h => by
        obtain ⟨_, _, _, e, _⟩ := h
        exact SqL.of (e _ _ ha1)) ?_ ?_
      · rintro j v t σ H2 hv ⟨v1, v2, rfl, e2, hj⟩ nt
        have g3 := same_new (o := .tup [.int (j : Nat), v]) nt
        refine ⟨t, _, rfl, SqT.of upd_same, rfl, _, _, rfl, _, _, rfl, rfl, ?_⟩
        by_cases hlt : j < j0
        · obtain ⟨i, rfl⟩ := hi j v hlt hv
          refine ⟨_, rfl, .int i, rfl, trivial, true, rfl, ?_⟩
          refine iteF ?_
          exact ⟨_, _, rfl, e2.trans g3, hlt⟩
        · have hj2 : j = j0 := by omega
          subst hj2
          rw [hy] at hv
          cases hv
          refine ⟨_, rfl, y, rfl, sy, false, by rw [wy], ?_⟩
          refine iteT ?_
          refine ⟨_, rfl, _, rfl, fun d nd => ?_⟩
          have kk := k d (upd (upd H2 t (.tup [.int (j : Nat), y])) d (XDn (.int (j : Nat)))) (g.trans (e2.trans (g3.trans (same_new nd))))
          rw [en] at kk
          exact kk upd_same
      · rintro σ H2 ⟨v1, v2, rfl, e2, hj⟩
        omega
end
end Fo
set_option Elab.async false
set_option linter.all false
set_option maxRecDepth 100000
set_option maxHeartbeats 2000000
namespace Fo
open PySem L2
section
variable {P : Program} {w : World} {K : PySem.W.Frag} {mg : Str → Option Value} {base : Heap}
variable {C fW fI fP fA fO CT fS fTI fCo fEd fAr fEq fAd pAr CI fII CV fVI fG fWe fCk fVa : Addr} {fdW fdI fdP fdA fdO fdS fdTI fdCo fdEd fdAr fdEq fdAd fdG fdWe fdCk fdVa : FuncData}
abbrev valN : List Str := ["triangle", "values", "point", "parts", "total", "area", "shared", "part", "worth"]
theorem scVal : FnScope valN ["triangle", "values", "point"] (defScope sVal) := ⟨rfl, rfl, rfl, by decide +kernel, rfl, by decide +kernel, by decide +kernel⟩
theorem gcd_cd {i T A : Int} {m : Nat} (hA : 0 < A) (sA : Sm m A) (m1 : m ≤ 9000) (m0 : 0 < m) : CDivW i (Int.gcd T A : Int) := by
  have h0 : 0 < Int.gcd T A := Int.gcd_pos_of_ne_zero_right _ (by omega)
  have h1 : Int.gcd T A ≤ A.natAbs := Nat.le_of_dvd (by omega) (Nat.gcd_dvd_right _ _)
  refine wide_div (b := m) (by omega) ?_ m0 m1
  show ((Int.gcd T A : Nat) : Int).natAbs < 2 ^ m
  rw [Int.natAbs_natCast]
  exact Nat.lt_of_le_of_lt h1 sA
theorem ok_val (D : Defs K mg C fW fI fP fA fO fdW fdI fdP fdA fdO) (d : TDefs K mg C CT fS fTI fCo fEd fAr fEq fAd pAr fdS fdTI fdCo fdEd fdAr fdEq fdAd) (Vd : VDefs K mg fG fWe fCk fVa fdG fdWe fdCk fdVa) : FnOk P w K mg base CX0 10 fVa fdVa ["triangle", "values", "point"] (spVal C CT) := by
  have GWe : FnOk P w K mg base CX0 8 fWe fdWe ["triangle", "point"] (spWei C CT) := ok_wei D d Vd
  have GCk : FnOk P w K mg base CX0 2 fCk fdCk ["values"] spChk := ok_chk D Vd
  have GAr : FnOk P w K mg base CX0 8 fAr fdAr ["self"] (spArea C CT) := d.GAr D
  have GG : FnOk P w K mg base CX0 1 fG fdG ["one", "other"] spGcd := ok_gcd Vd.FG Vd.T.abs
  refine Vd.FVa.ok scVal (fun vs H Q E h => ?_) (fun cdv A outer s H vs Q E hr h => ?_)
  · obtain ⟨n, t, v, z, a, b, c, p, x, y, w', rfl, _⟩ := h
    rfl
  · obtain ⟨n, t, v, z, a, b, c, p, x, y, w', rfl, hT, h3, hz, n1, sa, sb, sc, sp, sx, sy, sw, pos, k⟩ := h
    refine ⟨_, pss_cons (ps_set (i := 3) scVal.nd rfl (Or.inl rfl) (pe_call GWe (hr.mono (by decide)) rfl Vd.mWe Vd.FWe.kp Vd.bWe .nil pass0 (pa_cons (pv 0) (pa_cons (pv 2) pa_nil))))
      (pss_cons (ps_expr (pe_call GCk (hr.mono (by decide)) rfl Vd.mCk Vd.FCk.kp Vd.bCk .nil pass0 (pa_cons (pv 1) pa_nil)))
      (pss_cons (ps_set (i := 4) scVal.nd rfl (Or.inl rfl) (pe_callB (cr_sum rfl) (by rfl) Vd.T.sum (by decide +kernel) (pa_cons (pe_lc (own := [("part", 7), ("worth", 8)]) (g := gTup K 2 (gCons (gName 7) (gCons (gName 8) gNil))) (tt := tYes) rfl scVal.nd (pi_zipTX (by rfl) Vd.T.zip (pa_cons (pv 3) (pa_cons (pv 1) pa_nil))) (blkOk_by (own := [("part", 7), ("worth", 8)]) (N := valN) (sc := defScope sVal) (by decide +kernel))
        (fun _ _ _ _ _ => pg_tup rfl (pgs_cons (pg_name (i := 7) scVal.nd rfl (Or.inl rfl)) (pgs_cons (pg_name (i := 8) scVal.nd rfl (Or.inl rfl)) pgs_nil))) (fun _ _ _ _ _ => pts_nil) (fun _ _ _ _ _ => pe_op op_mulW (pv 7) (pv 8))) pa_nil)))
      (pss_cons (ps_set (i := 5) scVal.nd rfl (Or.inl rfl) (pe_prop (pv 0) d.TT.cl d.pAr GAr hr d.bAr .nil pass0 rfl))
      (pss_cons (ps_set (i := 6) scVal.nd rfl (Or.inl rfl) (pe_call GG (hr.mono (by decide)) rfl Vd.mG Vd.FG.kp Vd.bG .nil pass0 (pa_cons (pv 4) (pa_cons (pv 5) pa_nil))))
      (pss_one (ps_ret (pe_tup (pa_cons (pe_op op_fdivW (pv 4) (pv 6)) (pa_cons (pe_op op_fdivW (pv 5) (pv 6)) pa_nil))))))))), ?_⟩
    have s_bc : Sm (2 * n + 3) (sd b c p) := sd_sm sb sc sp
    have s_ca : Sm (2 * n + 3) (sd c a p) := sd_sm sc sa sp
    have s_ab : Sm (2 * n + 3) (sd a b p) := sd_sm sa sb sp
    have s_A : Sm (2 * n + 3) (sd a b c) := sd_sm sa sb sc
    refine ⟨_, rfl, _, rfl, n, t, z, a, b, c, p, rfl, hT, hz, by omega, sa, sb, sc, sp, fun q H2 e2 hq => ?_⟩
    refine ⟨_, rfl, v, x, y, w', rfl, h3.ex e2, fun H3 e3 => ?_⟩
    have hq3 := e3 _ _ hq
    have e13 := e2.trans e3
    obtain ⟨va, rfl, hv3⟩ := h3.ex e13
    have hT3 := hT.ex e13
    rcases hv3 with hv3 | hv3
    · refine ⟨_, rfl, _, rfl, q, va, _, _, rfl, SqT.of hq3, .inl ⟨SqL.of hv3, fun D0 nD => ?_⟩⟩
      refine lc_zipG (n := 3) (sl := [7, 8]) [V.int (sd b c p), V.int (sd c a p), V.int (sd a b p)] [V.int x, V.int y, V.int w'] (fun H' => Same H3 H') (fun i H' => Same H3 H' ∧ H' D0 = some (.lst (([sd b c p * x, sd c a p * y, sd a b p * w'].take i).map V.int))) (fun i H' h => h.1)
        (fun i H' e hi => ?_) (fun H' e => ?_) (fun i H' v H'' e hi yd => ?_) ⟨same_new nD, upd_same⟩ (fun i u v T H' hi hu hv p' nT => ?_) (fun H' p' => ?_)
      · have q3' := e _ _ hq3
        have v3' := e _ _ hv3
        have hc : i = 0 ∨ i = 1 ∨ i = 2 := by omega
        rcases hc with rfl | rfl | rfl
        · exact ⟨_, _, _, _, SqT.of q3', SqL.of v3', rfl, rfl⟩
        · exact ⟨_, _, _, _, SqT.of q3', SqL.of v3', rfl, rfl⟩
        · exact ⟨_, _, _, _, SqT.of q3', SqL.of v3', rfl, rfl⟩
      · exact ⟨_, _, SqT.of (e _ _ hq3), SqL.of (e _ _ hv3), Nat.le_refl 3, Nat.le_refl 3, .inl rfl⟩
      · obtain ⟨T, x', y', rfl, hT', rfl, f1, f2⟩ := yd
        exact ⟨T, x', y', rfl, hT', rfl, f1 _ (SqT.of (e _ _ hq3)), f2 _ (SqL.of (e _ _ hv3))⟩
      · obtain ⟨e, hD⟩ := p'
        have gT := same_new (o := .tup [u, v]) nT
        have DT : D0 ≠ T := (ne_of_none hD nT)
        have hD' := gT _ _ hD
        have hc : i = 0 ∨ i = 1 ∨ i = 2 := by omega
        rcases hc with rfl | rfl | rfl
        · cases hu
          cases hv
          refine ⟨T, _, rfl, SqT.of upd_same, rfl, _, _, rfl, _, _, rfl, rfl, rfl, ?_⟩
          refine ⟨_, rfl, _, rfl, _, _, rfl, rfl, wide_mul s_bc sx (by omega) (by decide) (by omega), ?_⟩
          exact ⟨_, hD', (by show 0 < sizeLine; decide), But.upd.same nD (e.trans gT), upd_same⟩
        · cases hu
          cases hv
          refine ⟨T, _, rfl, SqT.of upd_same, rfl, _, _, rfl, _, _, rfl, rfl, rfl, ?_⟩
          refine ⟨_, rfl, _, rfl, _, _, rfl, rfl, wide_mul s_ca sy (by omega) (by decide) (by omega), ?_⟩
          exact ⟨_, hD', (by show 1 < sizeLine; decide), But.upd.same nD (e.trans gT), upd_same⟩
        · cases hu
          cases hv
          refine ⟨T, _, rfl, SqT.of upd_same, rfl, _, _, rfl, _, _, rfl, rfl, rfl, ?_⟩
          refine ⟨_, rfl, _, rfl, _, _, rfl, rfl, wide_mul s_ab sw (by omega) (by decide) (by omega), ?_⟩
          exact ⟨_, hD', (by show 2 < sizeLine; decide), But.upd.same nD (e.trans gT), upd_same⟩
      · obtain ⟨e4, hD⟩ := p'
        refine ⟨D0, [sd b c p * x, sd c a p * y, sd a b p * w'], rfl, SqL.of hD, ?_⟩
        have hT4 := hT3.ex e4
        obtain ⟨tr, dx, l6, q1, q2, q3, rfl, htr, _⟩ := id hT4
        refine ⟨_, rfl, tr, dx, _, rfl, htr, n, _, a, b, c, rfl, hT4, by omega, sa, sb, sc, fun H5 e5 => ?_⟩
        refine ⟨_, rfl, _, rfl, tot a b c p x y w', sd a b c, rfl, ?_⟩
        refine ⟨_, rfl, _, rfl, _, _, rfl, rfl, gcd_cd pos s_A (by omega) (by omega), _, rfl, _, rfl, _, _, rfl, rfl, gcd_cd pos s_A (by omega) (by omega), (by show 2 ≤ sizeLine; decide), fun q' nq' => ?_⟩
        exact k q' _ (e13.trans (e4.trans (e5.trans (same_new nq')))) upd_same
    · refine ⟨_, rfl, _, rfl, q, va, _, _, rfl, SqT.of hq3, .inr ⟨SqT.of hv3, fun D0 nD => ?_⟩⟩
      refine lc_zipG (n := 3) (sl := [7, 8]) [V.int (sd b c p), V.int (sd c a p), V.int (sd a b p)] [V.int x, V.int y, V.int w'] (fun H' => Same H3 H') (fun i H' => Same H3 H' ∧ H' D0 = some (.lst (([sd b c p * x, sd c a p * y, sd a b p * w'].take i).map V.int))) (fun i H' h => h.1)
        (fun i H' e hi => ?_) (fun H' e => ?_) (fun i H' v H'' e hi yd => ?_) ⟨same_new nD, upd_same⟩ (fun i u v T H' hi hu hv p' nT => ?_) (fun H' p' => ?_)
      · have q3' := e _ _ hq3
        have v3' := e _ _ hv3
        have hc : i = 0 ∨ i = 1 ∨ i = 2 := by omega
        rcases hc with rfl | rfl | rfl
        · exact ⟨_, _, _, _, SqT.of q3', SqT.of v3', rfl, rfl⟩
        · exact ⟨_, _, _, _, SqT.of q3', SqT.of v3', rfl, rfl⟩
        · exact ⟨_, _, _, _, SqT.of q3', SqT.of v3', rfl, rfl⟩
      · exact ⟨_, _, SqT.of (e _ _ hq3), SqT.of (e _ _ hv3), .inl (Nat.le_refl 3)⟩
      · obtain ⟨T, x', y', rfl, hT', rfl, f1, f2⟩ := yd
        exact ⟨T, x', y', rfl, hT', rfl, f1 _ (SqT.of (e _ _ hq3)), f2 _ (SqT.of (e _ _ hv3))⟩
      · obtain ⟨e, hD⟩ := p'
        have gT := same_new (o := .tup [u, v]) nT
        have DT : D0 ≠ T := (ne_of_none hD nT)
        have hD' := gT _ _ hD
        have hc : i = 0 ∨ i = 1 ∨ i = 2 := by omega
        rcases hc with rfl | rfl | rfl
        · cases hu
          cases hv
          refine ⟨T, _, rfl, SqT.of upd_same, rfl, _, _, rfl, _, _, rfl, rfl, rfl, ?_⟩
          refine ⟨_, rfl, _, rfl, _, _, rfl, rfl, wide_mul s_bc sx (by omega) (by decide) (by omega), ?_⟩
          exact ⟨_, hD', (by show 0 < sizeLine; decide), But.upd.same nD (e.trans gT), upd_same⟩
        · cases hu
          cases hv
          refine ⟨T, _, rfl, SqT.of upd_same, rfl, _, _, rfl, _, _, rfl, rfl, rfl, ?_⟩
          refine ⟨_, rfl, _, rfl, _, _, rfl, rfl, wide_mul s_ca sy (by omega) (by decide) (by omega), ?_⟩
          exact ⟨_, hD', (by show 1 < sizeLine; decide), But.upd.same nD (e.trans gT), upd_same⟩
        · cases hu
          cases hv
          refine ⟨T, _, rfl, SqT.of upd_same, rfl, _, _, rfl, _, _, rfl, rfl, rfl, ?_⟩
          refine ⟨_, rfl, _, rfl, _, _, rfl, rfl, wide_mul s_ab sw (by omega) (by decide) (by omega), ?_⟩
          exact ⟨_, hD', (by show 2 < sizeLine; decide), But.upd.same nD (e.trans gT), upd_same⟩
      · obtain ⟨e4, hD⟩ := p'
        refine ⟨D0, [sd b c p * x, sd c a p * y, sd a b p * w'], rfl, SqL.of hD, ?_⟩
        have hT4 := hT3.ex e4
        obtain ⟨tr, dx, l6, q1, q2, q3, rfl, htr, _⟩ := id hT4
        refine ⟨_, rfl, tr, dx, _, rfl, htr, n, _, a, b, c, rfl, hT4, by omega, sa, sb, sc, fun H5 e5 => ?_⟩
        refine ⟨_, rfl, _, rfl, tot a b c p x y w', sd a b c, rfl, ?_⟩
        refine ⟨_, rfl, _, rfl, _, _, rfl, rfl, gcd_cd pos s_A (by omega) (by omega), _, rfl, _, rfl, _, _, rfl, rfl, gcd_cd pos s_A (by omega) (by omega), (by show 2 ≤ sizeLine; decide), fun q' nq' => ?_⟩
        exact k q' _ (e13.trans (e4.trans (e5.trans (same_new nq')))) upd_same
end
end Fo
set_option Elab.async false
set_option linter.all false
set_option maxRecDepth 100000
set_option maxHeartbeats 2000000
namespace Fo
open PySem L2
/-! ### two triangles that a line keeps apart are kept apart by an edge of one of them -/
def cr (a b : I2) : Int := a.1 * b.2 - a.2 * b.1
theorem cr_anti (a b : I2) : cr a b = - cr b a := by unfold cr; grind
theorem cr_plu (a b d e : I2) : cr a b * cr d e - cr a d * cr b e + cr a e * cr b d = 0 := by unfold cr; grind
theorem cr_v1 (D p q : I2) : D.1 * cr p q = p.1 * cr D q - q.1 * cr D p := by unfold cr; grind
theorem cr_v2 (D p q : I2) : D.2 * cr p q = p.2 * cr D q - q.2 * cr D p := by unfold cr; grind
theorem two_zero {D p q : I2} (hD : D ≠ (0, 0)) (h : 0 < cr p q) (h1 : cr D p = 0) (h2 : cr D q = 0) : False := by
  have e1 := cr_v1 D p q
  have e2 := cr_v2 D p q
  rw [h1, h2] at e1 e2
  simp only [Int.mul_zero, Int.sub_self] at e1 e2
  rcases Int.mul_eq_zero.mp e1 with z | z
  · rcases Int.mul_eq_zero.mp e2 with z2 | z2
    · exact hD (Prod.ext z z2)
    · omega
  · omega
theorem pos_of {x y : Int} (hx : 0 < x) (h : 0 < x * y) : 0 < y := by
  apply Int.not_le.mp
  intro hy
  have := Int.mul_nonpos_of_nonneg_of_nonpos (Int.le_of_lt hx) hy
  omega
/-- p first, of p and r: then p also before s -/
theorem first {D p q r s : I2} (hD : D ≠ (0, 0)) (Dp : 0 ≤ cr D p) (Dq : 0 ≤ cr D q) (Dr : cr D r ≤ 0) (Ds : cr D s ≤ 0) (pq : 0 < cr p q) (rs : 0 < cr r s) (pr : cr p r ≤ 0) : cr p s ≤ 0 := by
  apply Int.not_lt.mp
  intro ps
  have e1 := cr_plu D p r s
  have e2 := cr_plu D p q s
  have t1 : 0 ≤ cr D p * cr r s := Int.mul_nonneg Dp (by omega)
  have t2 : cr D r * cr p s ≤ 0 := Int.mul_nonpos_of_nonpos_of_nonneg Dr (by omega)
  have t3 : 0 ≤ cr D s * cr p r := Int.mul_nonneg_of_nonpos_of_nonpos Ds pr
  have z1 : cr D p * cr r s = 0 := by omega
  have z2 : cr D r * cr p s = 0 := by omega
  have z3 : cr D p = 0 := by rcases Int.mul_eq_zero.mp z1 with z | z <;> omega
  have z4 : cr D r = 0 := by rcases Int.mul_eq_zero.mp z2 with z | z <;> omega
  rw [z3] at e2
  simp only [Int.zero_mul] at e2
  have t4 : 0 ≤ cr D q * cr p s := Int.mul_nonneg Dq (by omega)
  have t5 : cr D s * cr p q ≤ 0 := Int.mul_nonpos_of_nonpos_of_nonneg Ds (by omega)
  have z5 : cr D s * cr p q = 0 := by omega
  have z6 : cr D s = 0 := by rcases Int.mul_eq_zero.mp z5 with z | z <;> omega
  exact two_zero hD rs z4 z6
def mi (a : I2) : I2 := (-a.1, -a.2)
def fl (a : I2) : I2 := (-a.1, a.2)
theorem cr_mi1 (a b : I2) : cr (mi a) b = - cr a b := by unfold cr mi; grind
theorem cr_mi2 (a b : I2) : cr a (mi b) = - cr a b := by unfold cr mi; grind
theorem cr_fl (a b : I2) : cr (fl a) (fl b) = - cr a b := by unfold cr fl; grind
theorem mi_ne {a : I2} (h : a ≠ (0, 0)) : mi a ≠ (0, 0) := fun e => h (by
  have h1 := congrArg Prod.fst e
  have h2 := congrArg Prod.snd e
  simp only [mi] at h1 h2
  exact Prod.ext (by show a.1 = 0; omega) (by show a.2 = 0; omega))
theorem fl_ne {a : I2} (h : a ≠ (0, 0)) : fl a ≠ (0, 0) := fun e => h (by
  have h1 := congrArg Prod.fst e
  have h2 := congrArg Prod.snd e
  simp only [fl] at h1 h2
  exact Prod.ext (by show a.1 = 0; omega) (by show a.2 = 0; omega))
/-- the four lines through O and R -/
theorem sat4 {D p q r s w : I2} (hD : D ≠ (0, 0)) (Dp : 0 ≤ cr D p) (Dq : 0 ≤ cr D q) (Dr : cr D r ≤ 0) (Ds : cr D s ≤ 0) (Dw : 0 ≤ cr D w) (pq : 0 < cr p q) (rs : 0 < cr r s) :
    (0 ≤ cr p w ∧ cr p r ≤ 0 ∧ cr p s ≤ 0) ∨ (cr q w ≤ 0 ∧ 0 ≤ cr q r ∧ 0 ≤ cr q s) ∨ (cr r w ≤ 0 ∧ cr r p ≤ 0 ∧ cr r q ≤ 0) ∨ (0 ≤ cr s w ∧ 0 ≤ cr s p ∧ 0 ≤ cr s q) := by
  -- the other way round: t and u change places, or the plane is mirrored
  have fR : 0 < cr p r → cr r q ≤ 0 := fun h => by
    have := first (D := mi D) (p := r) (q := s) (r := p) (s := q) (mi_ne hD) (by rw [cr_mi1]; omega) (by rw [cr_mi1]; omega) (by rw [cr_mi1]; omega) (by rw [cr_mi1]; omega) rs pq (by rw [cr_anti]; omega)
    exact this
  have fQ : 0 ≤ cr q s → 0 ≤ cr q r := fun h => by
    have := first (D := mi (fl D)) (p := fl q) (q := fl p) (r := fl s) (s := fl r) (mi_ne (fl_ne hD)) (by rw [cr_mi1, cr_fl]; omega) (by rw [cr_mi1, cr_fl]; omega) (by rw [cr_mi1, cr_fl]; omega) (by rw [cr_mi1, cr_fl]; omega) (by rw [cr_fl, cr_anti]; omega) (by rw [cr_fl, cr_anti]; omega) (by rw [cr_fl]; omega)
    rw [cr_fl] at this
    omega
  have fS : cr q s < 0 → 0 ≤ cr s p := fun h => by
    have := first (D := fl D) (p := fl s) (q := fl r) (r := fl q) (s := fl p) (fl_ne hD) (by rw [cr_fl]; omega) (by rw [cr_fl]; omega) (by rw [cr_fl]; omega) (by rw [cr_fl]; omega) (by rw [cr_fl, cr_anti]; omega) (by rw [cr_fl, cr_anti]; omega) (by rw [cr_fl, cr_anti]; omega)
    rw [cr_fl] at this
    omega
  have a1 := cr_anti r p
  have a2 := cr_anti s q
  have a3 := cr_anti r q
  have a4 := cr_anti s p
  have nn : ¬ (cr D p = 0 ∧ cr D q = 0) := fun z => two_zero hD pq z.1 z.2
  have nm : ¬ (cr D r = 0 ∧ cr D s = 0) := fun z => two_zero hD rs z.1 z.2
  by_cases h1 : cr p r ≤ 0
  · have h2 := first hD Dp Dq Dr Ds pq rs h1
    by_cases h3 : 0 ≤ cr p w
    · exact .inl ⟨h3, h1, h2⟩
    · by_cases h4 : 0 ≤ cr q s
      · refine .inr (.inl ⟨?_, fQ h4, h4⟩)
        apply Int.not_lt.mp
        intro h5
        have e := cr_plu D p q w
        have t1 : 0 ≤ cr D p * cr q w := Int.mul_nonneg Dp (by omega)
        have t2 : cr D q * cr p w ≤ 0 := Int.mul_nonpos_of_nonneg_of_nonpos Dq (by omega)
        have t3 : 0 ≤ cr D w * cr p q := Int.mul_nonneg Dw (by omega)
        have z1 : cr D p * cr q w = 0 := by omega
        have z2 : cr D q * cr p w = 0 := by omega
        refine nn ⟨?_, ?_⟩
        · rcases Int.mul_eq_zero.mp z1 with z | z <;> omega
        · rcases Int.mul_eq_zero.mp z2 with z | z <;> omega
      · refine .inr (.inr (.inr ⟨?_, fS (by omega), by omega⟩))
        apply Int.not_lt.mp
        intro h5
        have e := cr_plu D p s w
        have t1 : cr D p * cr s w ≤ 0 := Int.mul_nonpos_of_nonneg_of_nonpos Dp (by omega)
        have t2 : 0 ≤ cr D s * cr p w := Int.mul_nonneg_of_nonpos_of_nonpos Ds (by omega)
        have t3 : cr D w * cr p s ≤ 0 := Int.mul_nonpos_of_nonneg_of_nonpos Dw h2
        have z1 : cr D p * cr s w = 0 := by omega
        have z2 : cr D s * cr p w = 0 := by omega
        have z3 : cr D p = 0 := by rcases Int.mul_eq_zero.mp z1 with z | z <;> omega
        have e3 := cr_plu D p q w
        rw [z3] at e3
        simp only [Int.zero_mul] at e3
        have t4 : cr D q * cr p w ≤ 0 := Int.mul_nonpos_of_nonneg_of_nonpos Dq (by omega)
        have t5 : 0 ≤ cr D w * cr p q := Int.mul_nonneg Dw (by omega)
        have z5 : cr D q * cr p w = 0 := by omega
        refine nn ⟨z3, ?_⟩
        rcases Int.mul_eq_zero.mp z5 with z | z <;> omega
  · have h2 := fR (by omega)
    by_cases h3 : cr r w ≤ 0
    · exact .inr (.inr (.inl ⟨h3, by omega, h2⟩))
    · by_cases h4 : 0 ≤ cr q s
      · have h5 := fQ h4
        refine .inr (.inl ⟨?_, h5, h4⟩)
        apply Int.not_lt.mp
        intro h6
        have e := cr_plu D q r w
        have t1 : 0 ≤ cr D q * cr r w := Int.mul_nonneg Dq (by omega)
        have t2 : cr D r * cr q w ≤ 0 := Int.mul_nonpos_of_nonpos_of_nonneg Dr (by omega)
        have t3 : 0 ≤ cr D w * cr q r := Int.mul_nonneg Dw (by omega)
        have z1 : cr D q * cr r w = 0 := by omega
        have z2 : cr D q = 0 := by rcases Int.mul_eq_zero.mp z1 with z | z <;> omega
        have e2 := cr_plu D p q w
        rw [z2] at e2
        simp only [Int.zero_mul] at e2
        have t4 : 0 ≤ cr D p * cr q w := Int.mul_nonneg Dp (by omega)
        have t5 : 0 ≤ cr D w * cr p q := Int.mul_nonneg Dw (by omega)
        have z3 : cr D p * cr q w = 0 := by omega
        refine nn ⟨?_, z2⟩
        rcases Int.mul_eq_zero.mp z3 with z | z <;> omega
      · refine .inr (.inr (.inr ⟨?_, fS (by omega), by omega⟩))
        apply Int.not_lt.mp
        intro h5
        have e := cr_plu D r s w
        have t1 : 0 ≤ cr D r * cr s w := Int.mul_nonneg_of_nonpos_of_nonpos Dr (by omega)
        have t2 : cr D s * cr r w ≤ 0 := Int.mul_nonpos_of_nonpos_of_nonneg Ds (by omega)
        have t3 : 0 ≤ cr D w * cr r s := Int.mul_nonneg Dw (by omega)
        have z1 : cr D r * cr s w = 0 := by omega
        have z2 : cr D s * cr r w = 0 := by omega
        refine nm ⟨?_, ?_⟩
        · rcases Int.mul_eq_zero.mp z1 with z | z <;> omega
        · rcases Int.mul_eq_zero.mp z2 with z | z <;> omega
def vec (a b : I2) : I2 := (b.1 - a.1, b.2 - a.2)
/-- no corner of d e f is left of a b -/
def cutE (a b d e f : I2) : Bool := decide (sd a b d ≤ 0) && (decide (sd a b e ≤ 0) && decide (sd a b f ≤ 0))
/-- an edge of a b c has all of d e f on its right -/
def cutT (a b c d e f : I2) : Bool := cutE a b d e f || (cutE b c d e f || cutE c a d e f)
theorem cutE_of {a b d e f : I2} (h1 : sd a b d ≤ 0) (h2 : sd a b e ≤ 0) (h3 : sd a b f ≤ 0) : cutE a b d e f = true := by
  unfold cutE
  simp [h1, h2, h3]
/-- O the corner of t that is nearest to the line, R that of u -/
theorem sat_at {D O P Q R S T : I2} (hD : D ≠ (0, 0)) (hP : 0 ≤ cr D (vec O P)) (hQ : 0 ≤ cr D (vec O Q)) (hS : cr D (vec R S) ≤ 0) (hT : cr D (vec R T) ≤ 0) (hw : 0 ≤ cr D (vec R O)) (ht : 0 < sd O P Q) (hu : 0 < sd R S T) :
    cutE O P R S T = true ∨ cutE Q O R S T = true ∨ cutE R S O P Q = true ∨ cutE T R O P Q = true := by
  have e1 : cr (vec O P) (vec O Q) = sd O P Q := by unfold cr vec sd sideI; rfl
  have e2 : cr (vec R S) (vec R T) = sd R S T := by unfold cr vec sd sideI; rfl
  rcases sat4 hD hP hQ hS hT hw (by rw [e1]; exact ht) (by rw [e2]; exact hu) with ⟨a1, a2, a3⟩ | ⟨a1, a2, a3⟩ | ⟨a1, a2, a3⟩ | ⟨a1, a2, a3⟩
  · refine .inl (cutE_of ?_ ?_ ?_)
    · have : sd O P R = - cr (vec O P) (vec R O) := by unfold cr vec sd sideI; grind
      omega
    · have : sd O P S = cr (vec O P) (vec R S) - cr (vec O P) (vec R O) := by unfold cr vec sd sideI; grind
      omega
    · have : sd O P T = cr (vec O P) (vec R T) - cr (vec O P) (vec R O) := by unfold cr vec sd sideI; grind
      omega
  · refine .inr (.inl (cutE_of ?_ ?_ ?_))
    · have : sd Q O R = cr (vec O Q) (vec R O) := by unfold cr vec sd sideI; grind
      omega
    · have : sd Q O S = cr (vec O Q) (vec R O) - cr (vec O Q) (vec R S) := by unfold cr vec sd sideI; grind
      omega
    · have : sd Q O T = cr (vec O Q) (vec R O) - cr (vec O Q) (vec R T) := by unfold cr vec sd sideI; grind
      omega
  · refine .inr (.inr (.inl (cutE_of ?_ ?_ ?_)))
    · have : sd R S O = cr (vec R S) (vec R O) := by unfold cr vec sd sideI; grind
      omega
    · have : sd R S P = cr (vec R S) (vec R O) + cr (vec R S) (vec O P) := by unfold cr vec sd sideI; grind
      omega
    · have : sd R S Q = cr (vec R S) (vec R O) + cr (vec R S) (vec O Q) := by unfold cr vec sd sideI; grind
      omega
  · refine .inr (.inr (.inr (cutE_of ?_ ?_ ?_)))
    · have : sd T R O = - cr (vec R T) (vec R O) := by unfold cr vec sd sideI; grind
      omega
    · have : sd T R P = - cr (vec R T) (vec R O) - cr (vec R T) (vec O P) := by unfold cr vec sd sideI; grind
      omega
    · have : sd T R Q = - cr (vec R T) (vec R O) - cr (vec R T) (vec O Q) := by unfold cr vec sd sideI; grind
      omega
theorem cutE_rot (a b d e f : I2) : cutE a b e f d = cutE a b d e f := by
  unfold cutE
  cases decide (sd a b d ≤ 0) <;> cases decide (sd a b e ≤ 0) <;> cases decide (sd a b f ≤ 0) <;> rfl
theorem cutT_rot (a b c d e f : I2) : cutT b c a d e f = cutT a b c d e f := by
  unfold cutT
  cases cutE a b d e f <;> cases cutE b c d e f <;> cases cutE c a d e f <;> rfl
theorem cutT_rot2 (a b c d e f : I2) : cutT a b c e f d = cutT a b c d e f := by
  unfold cutT
  rw [cutE_rot a b d e f, cutE_rot b c d e f, cutE_rot c a d e f]
def apartT (a b c d e f : I2) : Bool := cutT a b c d e f || cutT d e f a b c
theorem apartT_rot (a b c d e f : I2) : apartT b c a d e f = apartT a b c d e f := by
  unfold apartT
  rw [cutT_rot a b c d e f, cutT_rot2 d e f a b c]
theorem apartT_rot2 (a b c d e f : I2) : apartT a b c e f d = apartT a b c d e f := by
  unfold apartT
  rw [cutT_rot2 a b c d e f, cutT_rot d e f a b c]
theorem apartT_comm (a b c d e f : I2) : apartT d e f a b c = apartT a b c d e f := by
  unfold apartT
  rw [Bool.or_comm]
theorem sd_rot (a b c : I2) : sd b c a = sd a b c := by unfold sd sideI; grind
theorem sat_min {U V O P Q R S T : I2} (hV : U ≠ V) (h1 : sd U V O ≤ sd U V P) (h2 : sd U V O ≤ sd U V Q) (h3 : sd U V S ≤ sd U V R) (h4 : sd U V T ≤ sd U V R) (h5 : sd U V R ≤ sd U V O) (ht : 0 < sd O P Q) (hu : 0 < sd R S T) : apartT O P Q R S T = true := by
  have hl : ∀ x y : I2, cr (vec U V) (vec x y) = sd U V y - sd U V x := fun x y => by unfold cr vec sd sideI; grind
  have hD : vec U V ≠ (0, 0) := fun e => hV (by
    have h1 := congrArg Prod.fst e
    have h2 := congrArg Prod.snd e
    simp only [vec] at h1 h2
    exact Prod.ext (by omega) (by omega))
  unfold apartT cutT
  rcases sat_at (D := vec U V) hD (by rw [hl]; omega) (by rw [hl]; omega) (by rw [hl]; omega) (by rw [hl]; omega) (by rw [hl]; omega) ht hu with h | h | h | h <;> simp [h]
/-- two triangles on the two sides of the line U V -/
theorem sat {U V a b c d e f : I2} (hV : U ≠ V) (ha : 0 ≤ sd U V a) (hb : 0 ≤ sd U V b) (hc : 0 ≤ sd U V c) (hd : sd U V d ≤ 0) (he : sd U V e ≤ 0) (hf : sd U V f ≤ 0) (ht : 0 < sd a b c) (hu : 0 < sd d e f) : apartT a b c d e f = true := by
  have key : ∀ O P Q : I2, 0 ≤ sd U V O → sd U V O ≤ sd U V P → sd U V O ≤ sd U V Q → 0 < sd O P Q → apartT O P Q d e f = true := fun O P Q h0 h1 h2 h3 => by
    by_cases g1 : sd U V e ≤ sd U V d ∧ sd U V f ≤ sd U V d
    · exact sat_min hV h1 h2 g1.1 g1.2 (by omega) h3 hu
    · by_cases g2 : sd U V f ≤ sd U V e ∧ sd U V d ≤ sd U V e
      · rw [← apartT_rot2]
        exact sat_min hV h1 h2 g2.1 g2.2 (by omega) h3 (by rw [sd_rot]; exact hu)
      · rw [← apartT_rot2, ← apartT_rot2]
        exact sat_min hV h1 h2 (by omega) (by omega) (by omega) h3 (by rw [sd_rot, sd_rot]; exact hu)
  by_cases g1 : sd U V a ≤ sd U V b ∧ sd U V a ≤ sd U V c
  · exact key a b c ha g1.1 g1.2 ht
  · by_cases g2 : sd U V b ≤ sd U V c ∧ sd U V b ≤ sd U V a
    · rw [← apartT_rot]
      exact key b c a hb g2.1 g2.2 (by rw [sd_rot]; exact ht)
    · rw [← apartT_rot, ← apartT_rot]
      exact key c a b hc (by omega) (by omega) (by rw [sd_rot, sd_rot]; exact ht)
end Fo
set_option Elab.async false
set_option linter.all false
set_option maxRecDepth 100000
set_option maxHeartbeats 2000000
namespace Fo
open PySem L2
/-! ### the law's mesh: parts of cells of a bent grid -/
abbrev T9 := I2 × I2 × I2
theorem sd_swap (U V p : I2) : sd V U p = - sd U V p := by unfold sd sideI; grind
theorem sd_flip (U V p : I2) : sd U p V = - sd U V p := by unfold sd sideI; grind
theorem sd_0 (U V : I2) : sd U V U = 0 := by unfold sd sideI; grind
theorem sd_1 (U V : I2) : sd U V V = 0 := by unfold sd sideI; grind
theorem ne_of_sd {U V p : I2} (h : sd U V p ≠ 0) : U ≠ V := fun e => h (by subst e; unfold sd sideI; grind)
/-- within the hull -/
def In (vs : List I2) (p : I2) : Prop := ∀ U V : I2, (∀ v ∈ vs, 0 ≤ sd U V v) → 0 ≤ sd U V p
theorem In.mem {vs : List I2} {p : I2} (h : p ∈ vs) : In vs p := fun U V k => k p h
theorem In.mid {vs : List I2} {x y m : I2} (hx : In vs x) (hy : In vs y) (h1 : 2 * m.1 = x.1 + y.1) (h2 : 2 * m.2 = x.2 + y.2) : In vs m := fun U V k => by
  have a := hx U V k
  have b := hy U V k
  have : 2 * sd U V m = sd U V x + sd U V y := by unfold sd sideI; grind
  omega
theorem In.trans {vs ws : List I2} {p : I2} (h : ∀ v ∈ ws, In vs v) (hp : In ws p) : In vs p := fun U V k => hp U V fun v hv => h v hv U V k
/-- within the hull, against the clock, and small -/
structure Good (vs : List I2) (t : T9) : Prop where
  a : In vs t.1
  b : In vs t.2.1
  c : In vs t.2.2
  pos : 0 < sd t.1 t.2.1 t.2.2
  sa : Sm2 6 t.1
  sb : Sm2 6 t.2.1
  sc : Sm2 6 t.2.2
theorem Good.up {vs ws : List I2} {t : T9} (h : ∀ v ∈ ws, In vs v) (g : Good ws t) : Good vs t := ⟨g.a.trans h, g.b.trans h, g.c.trans h, g.pos, g.sa, g.sb, g.sc⟩
def Ap (t u : T9) : Prop := apartT t.1 t.2.1 t.2.2 u.1 u.2.1 u.2.2 = true
theorem Ap.symm {t u : T9} (h : Ap t u) : Ap u t := by
  unfold Ap at *
  rw [apartT_comm]
  exact h
theorem good_apart {vs ws : List I2} {t u : T9} {U V : I2} (hV : U ≠ V) (h1 : ∀ v ∈ vs, 0 ≤ sd U V v) (h2 : ∀ w ∈ ws, sd U V w ≤ 0) (ht : Good vs t) (hu : Good ws u) : Ap t u := by
  have k : ∀ p, In ws p → sd U V p ≤ 0 := fun p hp => by
    have := hp V U fun w hw => by rw [sd_swap]; have := h2 w hw; omega
    rw [sd_swap] at this
    omega
  exact sat hV (ht.a U V h1) (ht.b U V h1) (ht.c U V h1) (k _ hu.a) (k _ hu.b) (k _ hu.c) ht.pos hu.pos
/-- some, each within, any two apart -/
def Parts (vs : List I2) (ts : List T9) : Prop := (∀ t ∈ ts, Good vs t) ∧ ts.Pairwise Ap
theorem parts_one {x y z : I2} (h : 0 < sd x y z) (sx : Sm2 6 x) (sy : Sm2 6 y) (sz : Sm2 6 z) : Parts [x, y, z] [(x, y, z)] := by
  refine ⟨fun t ht => ?_, List.pairwise_singleton _ _⟩
  rw [List.mem_singleton] at ht
  subst ht
  exact ⟨.mem (by simp), .mem (by simp), .mem (by simp), h, sx, sy, sz⟩
theorem mid_sm {x y m : I2} (sx : Sm2 6 x) (sy : Sm2 6 y) (h1 : 2 * m.1 = x.1 + y.1) (h2 : 2 * m.2 = x.2 + y.2) : Sm2 6 m := by
  have a := sx.1
  have b := sx.2
  have c := sy.1
  have d := sy.2
  constructor
  · show Sm 6 _
    unfold Sm at *
    omega
  · show Sm 6 _
    unfold Sm at *
    omega
theorem parts_two {x y z m : I2} (h : 0 < sd x y z) (sx : Sm2 6 x) (sy : Sm2 6 y) (sz : Sm2 6 z) (h1 : 2 * m.1 = x.1 + y.1) (h2 : 2 * m.2 = x.2 + y.2) : Parts [x, y, z] [(x, m, z), (m, y, z)] := by
  have im : In [x, y, z] m := In.mid (.mem (by simp)) (.mem (by simp)) h1 h2
  have sm := mid_sm sx sy h1 h2
  have e1 : 2 * sd x m z = sd x y z := by unfold sd sideI; grind
  have e2 : 2 * sd m y z = sd x y z := by unfold sd sideI; grind
  have g1 : Good [x, y, z] (x, m, z) := ⟨.mem (by simp), im, .mem (by simp), by show 0 < sd x m z; omega, sx, sm, sz⟩
  have g2 : Good [x, y, z] (m, y, z) := ⟨im, .mem (by simp), .mem (by simp), by show 0 < sd m y z; omega, sm, sy, sz⟩
  refine ⟨fun t ht => ?_, ?_⟩
  · rcases List.mem_cons.mp ht with rfl | ht
    · exact g1
    · rw [List.mem_singleton] at ht
      subst ht
      exact g2
  · refine List.Pairwise.cons (fun u hu => ?_) (List.pairwise_singleton _ _)
    rw [List.mem_singleton] at hu
    subst hu
    have e3 : sd m z x = sd x m z := by unfold sd sideI; grind
    have e4 : sd m z y = - sd m y z := sd_flip ..
    show apartT x m z m y z = true
    exact sat (U := m) (V := z) (ne_of_sd (p := x) (by omega)) (by omega) (by rw [sd_0]; omega) (by rw [sd_1]; omega) (by rw [sd_0]; omega) (by omega) (by rw [sd_1]; omega) g1.pos g2.pos
theorem Parts.up {vs ws : List I2} {ts : List T9} (h : ∀ v ∈ ws, In vs v) (g : Parts ws ts) : Parts vs ts := ⟨fun t ht => (g.1 t ht).up h, g.2⟩
/-- two parts of a cell, on both sides of U V -/
theorem Parts.join {vs ws xs : List I2} {ts us : List T9} {U V : I2} (hV : U ≠ V) (h1 : ∀ v ∈ vs, 0 ≤ sd U V v) (h2 : ∀ w ∈ ws, sd U V w ≤ 0) (hv : ∀ v ∈ vs, v ∈ xs) (hw : ∀ w ∈ ws, w ∈ xs) (ht : Parts vs ts) (hu : Parts ws us) :
    Parts xs (ts ++ us) ∧ Parts xs (us ++ ts) := by
  have t' := Parts.up (vs := xs) (fun v h => .mem (hv v h)) ht
  have u' := Parts.up (vs := xs) (fun v h => .mem (hw v h)) hu
  have k : ∀ t ∈ ts, ∀ u ∈ us, Ap t u := fun t h u h' => good_apart hV h1 h2 (ht.1 t h) (hu.1 u h')
  refine ⟨⟨fun t h => ?_, List.pairwise_append.mpr ⟨ht.2, hu.2, k⟩⟩, fun t h => ?_, List.pairwise_append.mpr ⟨hu.2, ht.2, fun u hu' t ht' => (k t ht' u hu').symm⟩⟩
  · rcases List.mem_append.mp h with h | h
    · exact t'.1 t h
    · exact u'.1 t h
  · rcases List.mem_append.mp h with h | h
    · exact u'.1 t h
    · exact t'.1 t h
/-- near (8 k, 8 r) -/
structure Nr (p : I2) (r k : Nat) : Prop where
  x0 : 8 * (k : Int) - 1 ≤ p.1
  x1 : p.1 ≤ 8 * (k : Int) + 1
  y0 : 8 * (r : Int) - 1 ≤ p.2
  y1 : p.2 ≤ 8 * (r : Int) + 1
theorem big {x y z w : Int} (hx : 6 ≤ x) (hy : 6 ≤ y) (hz : -2 ≤ z) (hz' : z ≤ 2) (hw : -10 ≤ w) (hw' : w ≤ 10) : 0 < x * y - z * w := by
  have h1 : 6 * 6 ≤ x * y := Int.mul_le_mul hx hy (by decide) (by omega)
  have h2 : z = -2 ∨ z = -1 ∨ z = 0 ∨ z = 1 ∨ z = 2 := by omega
  rcases h2 with rfl | rfl | rfl | rfl | rfl <;> omega
theorem upL {U V p : I2} {r k r' : Nat} (hU : Nr U r (k + 1)) (hV : Nr V (r + 1) (k + 1)) (hp : Nr p r' k) (h : r' = r ∨ r' = r + 1) : 0 < sd U V p := by
  have e : sd U V p = (V.2 - U.2) * (U.1 - p.1) - (V.1 - U.1) * (U.2 - p.2) := by unfold sd sideI; grind
  obtain ⟨a1, a2, a3, a4⟩ := hU
  obtain ⟨b1, b2, b3, b4⟩ := hV
  obtain ⟨c1, c2, c3, c4⟩ := hp
  rw [e]
  refine big ?_ ?_ ?_ ?_ ?_ ?_ <;> rcases h with rfl | rfl <;> omega
theorem upR {U V p : I2} {r k r' : Nat} (hU : Nr U r k) (hV : Nr V (r + 1) k) (hp : Nr p r' (k + 1)) (h : r' = r ∨ r' = r + 1) : sd U V p < 0 := by
  have e : - sd U V p = (V.2 - U.2) * (p.1 - U.1) - (V.1 - U.1) * (p.2 - U.2) := by unfold sd sideI; grind
  obtain ⟨a1, a2, a3, a4⟩ := hU
  obtain ⟨b1, b2, b3, b4⟩ := hV
  obtain ⟨c1, c2, c3, c4⟩ := hp
  have : 0 < - sd U V p := by
    rw [e]
    refine big ?_ ?_ ?_ ?_ ?_ ?_ <;> rcases h with rfl | rfl <;> omega
  omega
theorem riU {U V p : I2} {r k k' : Nat} (hU : Nr U r k) (hV : Nr V r (k + 1)) (hp : Nr p (r + 1) k') (h : k' = k ∨ k' = k + 1) : 0 < sd U V p := by
  have e : sd U V p = (V.1 - U.1) * (p.2 - U.2) - (V.2 - U.2) * (p.1 - U.1) := rfl
  obtain ⟨a1, a2, a3, a4⟩ := hU
  obtain ⟨b1, b2, b3, b4⟩ := hV
  obtain ⟨c1, c2, c3, c4⟩ := hp
  rw [e]
  refine big ?_ ?_ ?_ ?_ ?_ ?_ <;> rcases h with rfl | rfl <;> omega
theorem riD {U V p : I2} {r k k' : Nat} (hU : Nr U (r + 1) k) (hV : Nr V (r + 1) (k + 1)) (hp : Nr p r k') (h : k' = k ∨ k' = k + 1) : sd U V p < 0 := by
  have e : - sd U V p = (V.1 - U.1) * (U.2 - p.2) - (V.2 - U.2) * (U.1 - p.1) := by unfold sd sideI; grind
  obtain ⟨a1, a2, a3, a4⟩ := hU
  obtain ⟨b1, b2, b3, b4⟩ := hV
  obtain ⟨c1, c2, c3, c4⟩ := hp
  have : 0 < - sd U V p := by
    rw [e]
    refine big ?_ ?_ ?_ ?_ ?_ ?_ <;> rcases h with rfl | rfl <;> omega
  omega
def corn (G : Nat → Nat → I2) (r k : Nat) : List I2 := [G r k, G r (k + 1), G (r + 1) (k + 1), G (r + 1) k]
theorem all4 {a b c d : I2} {P : I2 → Prop} (ha : P a) (hb : P b) (hc : P c) (hd : P d) : ∀ v ∈ [a, b, c, d], P v := fun v hv => by
  simp only [List.mem_cons, List.not_mem_nil, or_false] at hv
  rcases hv with rfl | rfl | rfl | rfl <;> assumption
theorem all3 {a b c : I2} {P : I2 → Prop} (ha : P a) (hb : P b) (hc : P c) : ∀ v ∈ [a, b, c], P v := fun v hv => by
  simp only [List.mem_cons, List.not_mem_nil, or_false] at hv
  rcases hv with rfl | rfl | rfl <;> assumption
section
variable {G : Nat → Nat → I2} {w h : Nat}
/-- the two ways a cell is cut -/
theorem cell1 {a b c d : I2} {r k : Nat} (ha : Nr a r k) (hb : Nr b r (k + 1)) (hc : Nr c (r + 1) (k + 1)) (hd : Nr d (r + 1) k) {ts us : List T9} (ht : Parts [a, b, c] ts) (hu : Parts [a, c, d] us) : Parts [a, b, c, d] (ts ++ us) := by
  have p1 : 0 < sd a b c := riU ha hb hc (.inr rfl)
  have p2 : sd a d c < 0 := upR ha hd hc (.inr rfl)
  have e1 : sd a c b = - sd a b c := sd_flip ..
  have e2 : sd a c d = - sd a d c := sd_flip ..
  exact (Parts.join (U := a) (V := c) (ne_of_sd (p := d) (by omega)) (all3 (by rw [sd_0]; omega) (by rw [sd_1]; omega) (by omega)) (all3 (by rw [sd_0]; omega) (by omega) (by rw [sd_1]; omega)) (by simp) (by simp) hu ht).2
theorem cell2 {a b c d : I2} {r k : Nat} (ha : Nr a r k) (hb : Nr b r (k + 1)) (hc : Nr c (r + 1) (k + 1)) (hd : Nr d (r + 1) k) {ts us : List T9} (ht : Parts [a, b, d] ts) (hu : Parts [b, c, d] us) : Parts [a, b, c, d] (ts ++ us) := by
  have p1 : 0 < sd a b d := riU ha hb hd (.inl rfl)
  have p2 : 0 < sd b c d := upL hb hc hd (.inr rfl)
  have e1 : sd b d a = sd a b d := sd_rot ..
  have e2 : sd b d c = - sd b c d := sd_flip ..
  exact (Parts.join (U := b) (V := d) (ne_of_sd (p := a) (by omega)) (all3 (by omega) (by rw [sd_0]; omega) (by rw [sd_1]; omega)) (all3 (by rw [sd_0]; omega) (by omega) (by rw [sd_1]; omega)) (by simp) (by simp) ht hu).1
variable (hG : ∀ r k, r ≤ h → k ≤ w → Nr (G r k) r k)
include hG
theorem apH {r : Nat} (hr : r < h) (hw : 2 ≤ w) {t u : T9} (ht : Good (corn G r 0) t) (hu : Good (corn G r 1) u) : Ap t u := by
  have n0 := hG r 0 (by omega) (by omega)
  have n1 := hG r 1 (by omega) (by omega)
  have n2 := hG r 2 (by omega) (by omega)
  have m0 := hG (r + 1) 0 (by omega) (by omega)
  have m1 := hG (r + 1) 1 (by omega) (by omega)
  have m2 := hG (r + 1) 2 (by omega) (by omega)
  have l0 := upL n1 m1 n0 (.inl rfl)
  have l1 := upL n1 m1 m0 (.inr rfl)
  have r0 := upR n1 m1 n2 (.inl rfl)
  have r1 := upR n1 m1 m2 (.inr rfl)
  exact good_apart (U := G r 1) (V := G (r + 1) 1) (ne_of_sd (p := G r 0) (by omega)) (all4 (Int.le_of_lt l0) (by rw [sd_0]; omega) (by rw [sd_1]; omega) (Int.le_of_lt l1)) (all4 (by rw [sd_0]; omega) (Int.le_of_lt r0) (Int.le_of_lt r1) (by rw [sd_1]; omega)) ht hu
theorem apV {k : Nat} (hk : k < w) (hh : 2 ≤ h) {t u : T9} (ht : Good (corn G 0 k) t) (hu : Good (corn G 1 k) u) : Ap t u := by
  have n0 := hG 0 k (by omega) (by omega)
  have n1 := hG 0 (k + 1) (by omega) (by omega)
  have m0 := hG 1 k (by omega) (by omega)
  have m1 := hG 1 (k + 1) (by omega) (by omega)
  have o0 := hG 2 k (by omega) (by omega)
  have o1 := hG 2 (k + 1) (by omega) (by omega)
  have l0 := riD m0 m1 n0 (.inl rfl)
  have l1 := riD m0 m1 n1 (.inr rfl)
  have r0 := riU m0 m1 o0 (.inl rfl)
  have r1 := riU m0 m1 o1 (.inr rfl)
  exact (good_apart (U := G 1 k) (V := G 1 (k + 1)) (ne_of_sd (p := G 0 k) (by omega)) (all4 (by rw [sd_0]; omega) (by rw [sd_1]; omega) (Int.le_of_lt r1) (Int.le_of_lt r0)) (all4 (Int.le_of_lt l0) (Int.le_of_lt l1) (by rw [sd_1]; omega) (by rw [sd_0]; omega)) hu ht).symm
theorem apD1 (hw : 2 ≤ w) (hh : 2 ≤ h) {t u : T9} (ht : Good (corn G 0 0) t) (hu : Good (corn G 1 1) u) : Ap t u := by
  obtain ⟨a1, a2, a3, a4⟩ := hG 0 0 (by omega) (by omega)
  obtain ⟨b1, b2, b3, b4⟩ := hG 0 1 (by omega) (by omega)
  obtain ⟨c1, c2, c3, c4⟩ := hG 1 0 (by omega) (by omega)
  obtain ⟨d1, d2, d3, d4⟩ := hG 1 1 (by omega) (by omega)
  obtain ⟨e1, e2, e3, e4⟩ := hG 1 2 (by omega) (by omega)
  obtain ⟨f1, f2, f3, f4⟩ := hG 2 1 (by omega) (by omega)
  obtain ⟨g1, g2, g3, g4⟩ := hG 2 2 (by omega) (by omega)
  have e : ∀ p, sd (G 1 1) ((G 1 1).1 + 1, (G 1 1).2 - 1) p = (p.2 - (G 1 1).2) + (p.1 - (G 1 1).1) := fun p => by unfold sd sideI; grind
  exact (good_apart (vs := [G 1 1, G 1 2, G 2 2, G 2 1]) (ws := [G 0 0, G 0 1, G 1 1, G 1 0]) (U := G 1 1) (V := ((G 1 1).1 + 1, (G 1 1).2 - 1)) (ne_of_sd (p := G 0 0) (by rw [e]; omega)) (all4 (by rw [e]; omega) (by rw [e]; omega) (by rw [e]; omega) (by rw [e]; omega)) (all4 (by rw [e]; omega) (by rw [e]; omega) (by rw [e]; omega) (by rw [e]; omega)) hu ht).symm
theorem apD2 (hw : 2 ≤ w) (hh : 2 ≤ h) {t u : T9} (ht : Good (corn G 0 1) t) (hu : Good (corn G 1 0) u) : Ap t u := by
  obtain ⟨a1, a2, a3, a4⟩ := hG 0 1 (by omega) (by omega)
  obtain ⟨b1, b2, b3, b4⟩ := hG 0 2 (by omega) (by omega)
  obtain ⟨c1, c2, c3, c4⟩ := hG 1 0 (by omega) (by omega)
  obtain ⟨d1, d2, d3, d4⟩ := hG 1 1 (by omega) (by omega)
  obtain ⟨e1, e2, e3, e4⟩ := hG 1 2 (by omega) (by omega)
  obtain ⟨f1, f2, f3, f4⟩ := hG 2 0 (by omega) (by omega)
  obtain ⟨g1, g2, g3, g4⟩ := hG 2 1 (by omega) (by omega)
  have e : ∀ p, sd (G 1 1) ((G 1 1).1 + 1, (G 1 1).2 + 1) p = (p.2 - (G 1 1).2) - (p.1 - (G 1 1).1) := fun p => by unfold sd sideI; grind
  exact (good_apart (vs := [G 1 0, G 1 1, G 2 1, G 2 0]) (ws := [G 0 1, G 0 2, G 1 2, G 1 1]) (U := G 1 1) (V := ((G 1 1).1 + 1, (G 1 1).2 + 1)) (ne_of_sd (p := G 1 0) (by rw [e]; omega)) (all4 (by rw [e]; omega) (by rw [e]; omega) (by rw [e]; omega) (by rw [e]; omega)) (all4 (by rw [e]; omega) (by rw [e]; omega) (by rw [e]; omega) (by rw [e]; omega)) hu ht).symm
theorem cells_apart {r k r' k' : Nat} (hr : r < h) (hk : k < w) (hr' : r' < h) (hk' : k' < w) (h2 : h ≤ 2) (w2 : w ≤ 2) (ne : ¬ (r = r' ∧ k = k')) {t u : T9} (ht : Good (corn G r k) t) (hu : Good (corn G r' k') u) : Ap t u := by
  have z1 : r = 0 ∨ r = 1 := by omega
  have z2 : k = 0 ∨ k = 1 := by omega
  have z3 : r' = 0 ∨ r' = 1 := by omega
  have z4 : k' = 0 ∨ k' = 1 := by omega
  rcases z1 with rfl | rfl <;> rcases z2 with rfl | rfl <;> rcases z3 with rfl | rfl <;> rcases z4 with rfl | rfl
  · exact absurd ⟨rfl, rfl⟩ ne
  · exact apH hG hr (by omega) ht hu
  · exact apV hG hk (by omega) ht hu
  · exact apD1 hG (by omega) (by omega) ht hu
  · exact (apH hG hr (by omega) hu ht).symm
  · exact absurd ⟨rfl, rfl⟩ ne
  · exact apD2 hG (by omega) (by omega) ht hu
  · exact apV hG hk (by omega) ht hu
  · exact (apV hG hk (by omega) hu ht).symm
  · exact (apD2 hG (by omega) (by omega) hu ht).symm
  · exact absurd ⟨rfl, rfl⟩ ne
  · exact apH hG hr (by omega) ht hu
  · exact (apD1 hG (by omega) (by omega) hu ht).symm
  · exact (apV hG hk (by omega) hu ht).symm
  · exact (apH hG hr (by omega) hu ht).symm
  · exact absurd ⟨rfl, rfl⟩ ne
end
end Fo
set_option Elab.async false
set_option linter.all false
set_option maxRecDepth 100000
set_option maxHeartbeats 2000000
namespace Fo
open PySem L2
/-! ### apart, and Mesh -/
abbrev sCut : Stmt := top 26
abbrev sApart : Stmt := top 25
def spCut (C CT : Addr) (g : I2 → I2 → I2 → I2 → I2 → I2 → Bool) : Sp := fun vs H Q _ => ∃ (n : Nat) (t u : V) (a b c d e f : I2), vs = [t, u] ∧ IsT C CT t a b c H ∧ IsT C CT u d e f H ∧ n < 1000 ∧ Sm2 n a ∧ Sm2 n b ∧ Sm2 n c ∧ Sm2 n d ∧ Sm2 n e ∧ Sm2 n f ∧ ∀ H', Same H H' → Q (.bl (g a b c d e f)) H'
section
variable {P : Program} {w : World} {K : PySem.W.Frag} {mg : Str → Option Value} {base : Heap}
variable {C fW fI fP fA fO CT fS fTI fCo fEd fAr fEq fAd pAr : Addr} {fdW fdI fdP fdA fdO fdS fdTI fdCo fdEd fdAr fdEq fdAd : FuncData}
abbrev cutSc : Scope := { kind := .function, names := [(".0", .local), ("a", .cell), ("b", .cell), ("all", .globalImplicit), ("other", .cell)], isGenerator := false, isCoroutine := false }
abbrev cutN : List Str := ["triangle", "other", "a", "b", "corner"]
theorem scCut : FnScope cutN ["triangle", "other"] (defScope sCut) := ⟨rfl, rfl, rfl, by decide +kernel, rfl, by decide +kernel, by decide +kernel⟩
theorem ok_cut {f' : Addr} {fd' : FuncData} (F : Fun K "is_cut_off" "is_cut_off" sCut f' fd') (d' : TDefs K mg C CT fS fTI fCo fEd fAr fEq fAd pAr fdS fdTI fdCo fdEd fdAr fdEq fdAd) (D : Defs K mg C fW fI fP fA fO fdW fdI fdP fdA fdO) (zA : mg "any" = none) :
    FnOk P w K mg base CX0 8 f' fd' ["triangle", "other"] (spCut C CT cutT) := by
  have GS : FnOk P w K mg base CX0 7 fS fdS ["a", "b", "point"] (spSide C) := ok_side d'.FS D
  have GE : FnOk P w K mg base CX0 1 fEd fdEd ["self"] (spEdges C CT) := d'.GEd
  have GCo : FnOk P w K mg base CX0 1 fCo fdCo ["self"] (spCorners C CT) := d'.GCo
  have T := d'.TT
  refine F.ok scCut (fun vs H Q E h => ?_) (fun cdv A outer s H vs Q E hr h => ?_)
  · obtain ⟨n, t, u, a, b, c, d, e, f, rfl, _⟩ := h
    rfl
  · obtain ⟨n, t, u, a, b, c, d, e, f, rfl, ht, hu, n1, sa, sb, sc, sd', se, sf, k⟩ := h
    have hr1 : Room 1 _ := hr.mono (by decide)
    refine ⟨_, pss_one (ps_ret (pe_callB (cr_any rfl) (by rfl) zA (by decide +kernel) (pa_cons
        (pe_lc (own := [("a", 2), ("b", 3)]) (g := gTup K 2 (gCons (gName 2) (gCons (gName 3) gNil))) (tt := tYes) rfl scCut.nd (pi_list (pe_meth0 (pv 0) T.cl d'.mEd GE hr1 d'.bEd .nil pass0))
          (blkOk_by (own := [("a", 2), ("b", 3)]) (N := cutN) (sc := defScope sCut) (by decide +kernel))
          (fun _ _ _ _ _ => pg_tup rfl (pgs_cons (pg_name (i := 2) scCut.nd rfl (Or.inr rfl)) (pgs_cons (pg_name (i := 3) scCut.nd rfl (Or.inr rfl)) pgs_nil)))
          (fun _ _ _ _ _ => pts_nil)
          (fun _ _ _ _ _ => pe_callB (r := rAll K) (cr_all rfl) (by rfl) T.all (by decide +kernel) (pa_cons
            (pe_lc (own := [("corner", 4)]) (wi := iList K (tMeth CT "corners" (spCorners C CT) [] E0 (tVar 1) tNil)) (g := gName 4) (tt := tYes) rfl scCut.nd (pi_list (pe_meth0 (pv 1) T.cl d'.mCo GCo hr1 d'.bCo .nil pass0))
              (blkOk_by (own := [("corner", 4)]) (N := cutN) (sc := cutSc) (by decide +kernel))
              (fun _ _ _ _ _ => pg_name (i := 4) scCut.nd rfl (Or.inl rfl))
              (fun _ _ _ _ _ => pts_nil)
              (fun _ _ _ _ _ => pe_cmpR op_le (pe_call GS hr rfl d'.mS d'.FS.kp d'.bS .nil pass0 (pa_cons (pv 2) (pa_cons (pv 3) (pa_cons (pv 4) pa_nil)))) pe_int (nomark _))) pa_nil))) pa_nil))), ?_⟩
    obtain ⟨q, dx, l, v1, v2, v3, rfl, h1, _⟩ := id ht
    refine ⟨_, rfl, q, dx, _, rfl, h1, tipF_no _ (by decide +kernel), _, a, b, c, rfl, ht, fun v H1 g01 hE => ?_⟩
    obtain ⟨m, t1, t2, t3, w1, w2, w3, rfl, g0, g1, g2, g3, th⟩ := hE
    refine ⟨m, rfl, ⟨_, SqL.of g0⟩, fun D0 nD => ?_⟩
    refine lc_all (K := K) (xs := [.ref t1, .ref t2, .ref t3]) (sl := [2, 3]) (fun i v _ => v = .bl (if i = 0 then cutE a b d e f else if i = 1 then cutE b c d e f else cutE c a d e f)) (fun _ _ _ _ _ h => h) (fun _ _ _ _ _ _ _ _ h => h) (SqL.of g0) (by show 3 ≤ 1000; decide) ?_ ?_ nD
    · intro i x H2 hx g12 Q' k'
      have th2 := th.ex g12
      have hu2 := hu.ex (g01.trans g12)
      obtain ⟨u', dxu, lu, y1, y2, y3, rfl, hu1, _⟩ := id hu2
      rcases two3 hx with ⟨rfl, rfl⟩ | ⟨rfl, rfl⟩ | ⟨rfl, rfl⟩
      · refine ⟨t1, _, rfl, SqT.of (g12 _ _ g1), rfl, _, _, rfl, _, _, rfl, rfl, rfl, ?_⟩
        refine ⟨_, rfl, u', dxu, _, rfl, hu1, tipF_no _ (by decide +kernel), _, d, e, f, rfl, hu2, fun lc z1 z2 z3 H3 nlc g23 hlc th3 => ?_⟩
        refine ⟨lc, rfl, ⟨_, SqL.of hlc⟩, fun D1 nD1 => ?_⟩
        refine lc_all (K := K) (xs := [z1, z2, z3]) (sl := [4]) (fun i v _ => v = .bl (decide ((if i = 0 then sd a b d else if i = 1 then sd a b e else sd a b f) ≤ 0))) (fun _ _ _ _ _ h => h) (fun _ _ _ _ _ _ _ _ h => h) (SqL.of hlc) (by show 3 ≤ 1000; decide) ?_ ?_ nD1
        · intro i x H4 hx g34 Q'' k''
          have pp := (th2.1.ex (g23.trans g34)).pt
          have pq := (th2.2.1.ex (g23.trans g34)).pt
          have th4 := th3.ex g34
          rcases two3 hx with ⟨rfl, rfl⟩ | ⟨rfl, rfl⟩ | ⟨rfl, rfl⟩
          · refine ⟨rfl, _, rfl, _, rfl, _, rfl, n, w1, w2, _, a.1, a.2, b.1, b.2, d.1, d.2, rfl, pp, pq, th4.1.pt, n1, sa.1, sa.2, sb.1, sb.2, sd'.1, sd'.2, fun H5 g45 => ?_⟩
            exact ⟨_, _, rfl, rfl, k'' _ _ g45 rfl⟩
          · refine ⟨rfl, _, rfl, _, rfl, _, rfl, n, w1, w2, _, a.1, a.2, b.1, b.2, e.1, e.2, rfl, pp, pq, th4.2.1.pt, n1, sa.1, sa.2, sb.1, sb.2, se.1, se.2, fun H5 g45 => ?_⟩
            exact ⟨_, _, rfl, rfl, k'' _ _ g45 rfl⟩
          · refine ⟨rfl, _, rfl, _, rfl, _, rfl, n, w1, w2, _, a.1, a.2, b.1, b.2, f.1, f.2, rfl, pp, pq, th4.2.2.pt, n1, sa.1, sa.2, sb.1, sb.2, sf.1, sf.2, fun H5 g45 => ?_⟩
            exact ⟨_, _, rfl, rfl, k'' _ _ g45 rfl⟩
        · intro H4 vs g34 hv hlen hR
          obtain ⟨x1, x2, x3, rfl⟩ := len3' hlen
          have r1 := hR 0 x1 rfl
          have r2 := hR 1 x2 rfl
          have r3 := hR 2 x3 rfl
          subst r1 r2 r3
          refine ⟨D1, [decide (sd a b d ≤ 0), decide (sd a b e ≤ 0), decide (sd a b f ≤ 0)], rfl, SqL.of hv, ?_⟩
          have ec : ([decide (sd a b d ≤ 0), decide (sd a b e ≤ 0), decide (sd a b f ≤ 0)].all id) = cutE a b d e f := by simp [cutE]
          rw [ec]
          exact k' _ _ (g23.trans g34) rfl
      · refine ⟨t2, _, rfl, SqT.of (g12 _ _ g2), rfl, _, _, rfl, _, _, rfl, rfl, rfl, ?_⟩
        refine ⟨_, rfl, u', dxu, _, rfl, hu1, tipF_no _ (by decide +kernel), _, d, e, f, rfl, hu2, fun lc z1 z2 z3 H3 nlc g23 hlc th3 => ?_⟩
        refine ⟨lc, rfl, ⟨_, SqL.of hlc⟩, fun D1 nD1 => ?_⟩
        refine lc_all (K := K) (xs := [z1, z2, z3]) (sl := [4]) (fun i v _ => v = .bl (decide ((if i = 0 then sd b c d else if i = 1 then sd b c e else sd b c f) ≤ 0))) (fun _ _ _ _ _ h => h) (fun _ _ _ _ _ _ _ _ h => h) (SqL.of hlc) (by show 3 ≤ 1000; decide) ?_ ?_ nD1
        · intro i x H4 hx g34 Q'' k''
          have pp := (th2.2.1.ex (g23.trans g34)).pt
          have pq := (th2.2.2.ex (g23.trans g34)).pt
          have th4 := th3.ex g34
          rcases two3 hx with ⟨rfl, rfl⟩ | ⟨rfl, rfl⟩ | ⟨rfl, rfl⟩
          · refine ⟨rfl, _, rfl, _, rfl, _, rfl, n, w2, w3, _, b.1, b.2, c.1, c.2, d.1, d.2, rfl, pp, pq, th4.1.pt, n1, sb.1, sb.2, sc.1, sc.2, sd'.1, sd'.2, fun H5 g45 => ?_⟩
            exact ⟨_, _, rfl, rfl, k'' _ _ g45 rfl⟩
          · refine ⟨rfl, _, rfl, _, rfl, _, rfl, n, w2, w3, _, b.1, b.2, c.1, c.2, e.1, e.2, rfl, pp, pq, th4.2.1.pt, n1, sb.1, sb.2, sc.1, sc.2, se.1, se.2, fun H5 g45 => ?_⟩
            exact ⟨_, _, rfl, rfl, k'' _ _ g45 rfl⟩
          · refine ⟨rfl, _, rfl, _, rfl, _, rfl, n, w2, w3, _, b.1, b.2, c.1, c.2, f.1, f.2, rfl, pp, pq, th4.2.2.pt, n1, sb.1, sb.2, sc.1, sc.2, sf.1, sf.2, fun H5 g45 => ?_⟩
            exact ⟨_, _, rfl, rfl, k'' _ _ g45 rfl⟩
        · intro H4 vs g34 hv hlen hR
          obtain ⟨x1, x2, x3, rfl⟩ := len3' hlen
          have r1 := hR 0 x1 rfl
          have r2 := hR 1 x2 rfl
          have r3 := hR 2 x3 rfl
          subst r1 r2 r3
          refine ⟨D1, [decide (sd b c d ≤ 0), decide (sd b c e ≤ 0), decide (sd b c f ≤ 0)], rfl, SqL.of hv, ?_⟩
          have ec : ([decide (sd b c d ≤ 0), decide (sd b c e ≤ 0), decide (sd b c f ≤ 0)].all id) = cutE b c d e f := by simp [cutE]
          rw [ec]
          exact k' _ _ (g23.trans g34) rfl
      · refine ⟨t3, _, rfl, SqT.of (g12 _ _ g3), rfl, _, _, rfl, _, _, rfl, rfl, rfl, ?_⟩
        refine ⟨_, rfl, u', dxu, _, rfl, hu1, tipF_no _ (by decide +kernel), _, d, e, f, rfl, hu2, fun lc z1 z2 z3 H3 nlc g23 hlc th3 => ?_⟩
        refine ⟨lc, rfl, ⟨_, SqL.of hlc⟩, fun D1 nD1 => ?_⟩
        refine lc_all (K := K) (xs := [z1, z2, z3]) (sl := [4]) (fun i v _ => v = .bl (decide ((if i = 0 then sd c a d else if i = 1 then sd c a e else sd c a f) ≤ 0))) (fun _ _ _ _ _ h => h) (fun _ _ _ _ _ _ _ _ h => h) (SqL.of hlc) (by show 3 ≤ 1000; decide) ?_ ?_ nD1
        · intro i x H4 hx g34 Q'' k''
          have pp := (th2.2.2.ex (g23.trans g34)).pt
          have pq := (th2.1.ex (g23.trans g34)).pt
          have th4 := th3.ex g34
          rcases two3 hx with ⟨rfl, rfl⟩ | ⟨rfl, rfl⟩ | ⟨rfl, rfl⟩
          · refine ⟨rfl, _, rfl, _, rfl, _, rfl, n, w3, w1, _, c.1, c.2, a.1, a.2, d.1, d.2, rfl, pp, pq, th4.1.pt, n1, sc.1, sc.2, sa.1, sa.2, sd'.1, sd'.2, fun H5 g45 => ?_⟩
            exact ⟨_, _, rfl, rfl, k'' _ _ g45 rfl⟩
          · refine ⟨rfl, _, rfl, _, rfl, _, rfl, n, w3, w1, _, c.1, c.2, a.1, a.2, e.1, e.2, rfl, pp, pq, th4.2.1.pt, n1, sc.1, sc.2, sa.1, sa.2, se.1, se.2, fun H5 g45 => ?_⟩
            exact ⟨_, _, rfl, rfl, k'' _ _ g45 rfl⟩
          · refine ⟨rfl, _, rfl, _, rfl, _, rfl, n, w3, w1, _, c.1, c.2, a.1, a.2, f.1, f.2, rfl, pp, pq, th4.2.2.pt, n1, sc.1, sc.2, sa.1, sa.2, sf.1, sf.2, fun H5 g45 => ?_⟩
            exact ⟨_, _, rfl, rfl, k'' _ _ g45 rfl⟩
        · intro H4 vs g34 hv hlen hR
          obtain ⟨x1, x2, x3, rfl⟩ := len3' hlen
          have r1 := hR 0 x1 rfl
          have r2 := hR 1 x2 rfl
          have r3 := hR 2 x3 rfl
          subst r1 r2 r3
          refine ⟨D1, [decide (sd c a d ≤ 0), decide (sd c a e ≤ 0), decide (sd c a f ≤ 0)], rfl, SqL.of hv, ?_⟩
          have ec : ([decide (sd c a d ≤ 0), decide (sd c a e ≤ 0), decide (sd c a f ≤ 0)].all id) = cutE c a d e f := by simp [cutE]
          rw [ec]
          exact k' _ _ (g23.trans g34) rfl
    · intro H2 vs g12 hv hlen hR
      obtain ⟨x1, x2, x3, rfl⟩ := len3' hlen
      have r1 := hR 0 x1 rfl
      have r2 := hR 1 x2 rfl
      have r3 := hR 2 x3 rfl
      subst r1 r2 r3
      refine ⟨D0, [cutE a b d e f, cutE b c d e f, cutE c a d e f], rfl, SqL.of hv, ?_⟩
      have ec : ([cutE a b d e f, cutE b c d e f, cutE c a d e f].any id) = cutT a b c d e f := by simp [cutT]
      rw [ec]
      exact k _ (g01.trans g12)
end
end Fo
set_option Elab.async false
set_option linter.all false
set_option maxRecDepth 100000
set_option maxHeartbeats 2000000
namespace Fo
open PySem L2
abbrev sMInit : Stmt := inClass (top 29) 0
abbrev sMTris : Stmt := inClass (top 29) 1
def pieF (l : Addr) : List (Str × V) := putF "pieces" (.ref l) []
theorem pieF_p (l : Addr) : (pieF l).lookup ("pieces" : Str) = some (.ref l) := by
  unfold pieF
  rw [lookup_putF, if_pos rfl]
theorem pieF_no (l : Addr) {m : Str} (h : ¬ m = "pieces") : (pieF l).lookup m = none := by
  unfold pieF
  rw [lookup_putF, if_neg h]
  rfl
/-- these triangles -/
def EachT (C CT : Addr) (H : Hp) (xs : List V) (ts : List T9) : Prop := xs.length = ts.length ∧ ∀ (i : Nat) (v : V), xs[i]? = some v → ∃ t : T9, ts[i]? = some t ∧ IsT C CT v t.1 t.2.1 t.2.2 H
theorem EachT.ex {C CT : Addr} {H H' : Hp} {xs : List V} {ts : List T9} (e : Same H H') (h : EachT C CT H xs ts) : EachT C CT H' xs ts := ⟨h.1, fun i v hv => by
  obtain ⟨t, h1, h2⟩ := h.2 i v hv
  exact ⟨t, h1, h2.ex e⟩⟩
def SmT (t : T9) : Prop := Sm2 6 t.1 ∧ Sm2 6 t.2.1 ∧ Sm2 6 t.2.2
def spMInit (C CT CM : Addr) : Sp := fun vs H Q _ => ∃ (p dx l : Addr) (xs : List V) (ts : List T9), vs = [.ref p, .ref l] ∧ H p = some (.ins CM dx []) ∧ H l = some (.lst xs) ∧ EachT C CT H xs ts ∧ ts.length ≤ 60 ∧ (∀ t ∈ ts, SmT t) ∧ ts.Pairwise Ap ∧
  ∀ l' H', But p H H' → H' p = some (.ins CM dx (pieF l')) → H' l' = some (.lst xs) → Q .non H'
/-- a Mesh of these -/
def IsM (C CT CM : Addr) (v : V) (ts : List T9) (H : Hp) : Prop := ∃ (m dx l : Addr) (xs : List V), v = .ref m ∧ H m = some (.ins CM dx (pieF l)) ∧ H l = some (.lst xs) ∧ EachT C CT H xs ts
theorem IsM.ex {C CT CM : Addr} {v : V} {ts : List T9} {H H' : Hp} (e : Same H H') (h : IsM C CT CM v ts H) : IsM C CT CM v ts H' := by
  obtain ⟨m, dx, l, xs, rfl, h1, h2, h3⟩ := h
  exact ⟨m, dx, l, xs, rfl, e _ _ h1, e _ _ h2, h3.ex e⟩
def spMTris (C CT CM : Addr) : Sp := fun vs H Q _ => ∃ (v : V) (ts : List T9), vs = [v] ∧ IsM C CT CM v ts H ∧ ∀ l xs H', H l = none → Same H H' → H' l = some (.lst xs) → EachT C CT H' xs ts → Q (.ref l) H'
structure MDefs (K : PySem.W.Frag) (mg : Str → Option Value) (CM fCu fAp fMI fMT : Addr) (fdCu fdAp fdMI fdMT : FuncData) : Prop where
  cl : Cls K CM
  nP : NoAttr K CM "pieces"
  mgM : mg "Mesh" = some (.ref CM)
  mM : ∃ t, mg "MOST_TRIANGLES" = some (.int 60 t)
  zR : mg "range" = none
  zA : mg "any" = none
  zE : mg "enumerate" = none
  zL : mg "list" = none
  FCu : Fun K "is_cut_off" "is_cut_off" sCut fCu fdCu
  bCu : Binds K fdCu ["triangle", "other"] []
  mCu : mg "is_cut_off" = some (.ref fCu)
  FAp : Fun K "apart" "apart" sApart fAp fdAp
  bAp : Binds K fdAp ["one", "other"] []
  mAp : mg "apart" = some (.ref fAp)
  MM : Mk K CM fMI
  FMI : Fun K "__init__" "Mesh.__init__" sMInit fMI fdMI
  bMI : Binds K fdMI ["self", "triangles"] []
  FMT : Fun K "triangles" "Mesh.triangles" sMTris fMT fdMT
  bMT : Binds K fdMT ["self"] []
  mMT : Meth K CM "triangles" fMT
section
variable {P : Program} {w : World} {K : PySem.W.Frag} {mg : Str → Option Value} {base : Heap}
variable {C fW fI fP fA fO CT fS fTI fCo fEd fAr fEq fAd pAr CM fCu fAp fMI fMT : Addr} {fdW fdI fdP fdA fdO fdS fdTI fdCo fdEd fdAr fdEq fdAd fdCu fdAp fdMI fdMT : FuncData}
theorem scApart : FnScope ["one", "other"] ["one", "other"] (defScope sApart) := ⟨rfl, rfl, rfl, by decide +kernel, rfl, by decide +kernel, by decide +kernel⟩
theorem ok_apart (M : MDefs K mg CM fCu fAp fMI fMT fdCu fdAp fdMI fdMT) (d' : TDefs K mg C CT fS fTI fCo fEd fAr fEq fAd pAr fdS fdTI fdCo fdEd fdAr fdEq fdAd) (D : Defs K mg C fW fI fP fA fO fdW fdI fdP fdA fdO) :
    FnOk P w K mg base CX0 9 fAp fdAp ["one", "other"] (spCut C CT apartT) := by
  have GC : FnOk P w K mg base CX0 8 fCu fdCu ["triangle", "other"] (spCut C CT cutT) := ok_cut M.FCu d' D M.zA
  refine M.FAp.ok scApart (fun vs H Q E h => ?_) (fun cdv A outer s H vs Q E hr h => ?_)
  · obtain ⟨n, t, u, a, b, c, d, e, f, rfl, _⟩ := h
    rfl
  · obtain ⟨n, t, u, a, b, c, d, e, f, rfl, ht, hu, n1, sa, sb, sc, sd', se, sf, k⟩ := h
    refine ⟨_, pss_one (ps_ret (pe_or (pe_call GC hr rfl M.mCu M.FCu.kp M.bCu .nil pass0 (pa_cons (pv 0) (pa_cons (pv 1) pa_nil))) (pe_one (pe_call GC hr rfl M.mCu M.FCu.kp M.bCu .nil pass0 (pa_cons (pv 1) (pa_cons (pv 0) pa_nil)))))), ?_⟩
    refine ⟨_, rfl, _, rfl, n, t, u, a, b, c, d, e, f, rfl, ht, hu, n1, sa, sb, sc, sd', se, sf, fun H1 g1 => ⟨_, rfl, ?_⟩⟩
    have ek : apartT a b c d e f = (cutT a b c d e f || cutT d e f a b c) := rfl
    cases hc : cutT a b c d e f with
    | true =>
      refine iteT ?_
      have := k _ g1
      rw [ek, hc] at this
      exact this
    | false =>
      refine iteF ?_
      refine ⟨_, rfl, _, rfl, n, u, t, d, e, f, a, b, c, rfl, hu.ex g1, ht.ex g1, n1, sd', se, sf, sa, sb, sc, fun H2 g2 => ?_⟩
      have := k _ (g1.trans g2)
      rw [ek, hc] at this
      exact this
abbrev miN : List Str := ["self", "triangles", "number", "thing", "triangle", "other"]
theorem scMInit : FnScope miN ["self", "triangles"] (defScope sMInit) := ⟨rfl, rfl, rfl, by decide +kernel, rfl, by decide +kernel, by decide +kernel⟩
theorem ok_mInit (M : MDefs K mg CM fCu fAp fMI fMT fdCu fdAp fdMI fdMT) (d' : TDefs K mg C CT fS fTI fCo fEd fAr fEq fAd pAr fdS fdTI fdCo fdEd fdAr fdEq fdAd) (D : Defs K mg C fW fI fP fA fO fdW fdI fdP fdA fdO) :
    FnOk P w K mg base CX0 10 fMI fdMI ["self", "triangles"] (spMInit C CT CM) := by
  have GA : FnOk P w K mg base CX0 9 fAp fdAp ["one", "other"] (spCut C CT apartT) := ok_apart M d' D
  have T := D.T
  have TT := d'.TT
  obtain ⟨tM, mM⟩ := M.mM
  refine M.FMI.ok scMInit (fun vs H Q E h => ?_) (fun cdv A outer s H vs Q E hr hq => ?_)
  · obtain ⟨p, dx, l, xs, ts, rfl, _⟩ := h
    rfl
  · obtain ⟨p, dx, l, xs, ts, rfl, hp, hl, hE, lt, sm, pw, k⟩ := hq
    refine ⟨_, pss_cons (ps_if (PW.pt (pw_or (pt_not (pt_val (pe_callB call_isi (by rfl) T.isi (by decide +kernel) (pa_cons (pv 1) (pa_cons (pe_bltn (v := .ty "list") (by rfl) M.zL (by decide +kernel) rfl) pa_nil)))))
        (pw_or1 (pt_cmpR op_gt (pe_callB call_len_seq (by rfl) T.len PySem.boot_len (pa_cons (pv 1) pa_nil)) (pe_glob (v := .int 60) rfl mM ⟨_, rfl⟩) (nomark _))))) (pss_one ps_never) pss_nil)
      (pss_cons (ps_for PassesOwn.never rfl (pi_enum (by rfl) M.zE (pa_cons (pv 1) pa_nil)) (pg_tup rfl (pgs_cons (pg_name (i := 2) scMInit.nd rfl (Or.inl rfl)) (pgs_cons (pg_name (i := 3) scMInit.nd rfl (Or.inl rfl)) pgs_nil)))
        (pss_one (ps_if (pt_not (pt_val (pe_callB call_isi (by rfl) T.isi (by decide +kernel) (pa_cons (pv 3) (pa_cons (pe_glob (v := .ref CT) rfl TT.mgT rfl) pa_nil))))) (pss_one ps_never) pss_nil)))
      (pss_cons (ps_for PassesOwn.never rfl (pi_enum (by rfl) M.zE (pa_cons (pv 1) pa_nil)) (pg_tup rfl (pgs_cons (pg_name (i := 2) scMInit.nd rfl (Or.inl rfl)) (pgs_cons (pg_name (i := 4) scMInit.nd rfl (Or.inl rfl)) pgs_nil)))
        (pss_one (ps_for PassesOwn.never rfl (pi_range1 rfl M.zR (pa_cons (pv 2) pa_nil)) (pg_name (i := 5) scMInit.nd rfl (Or.inl rfl))
          (pss_one (ps_if (pt_not (pt_val (pe_call GA hr rfl M.mAp M.FAp.kp M.bAp .nil pass0 (pa_cons (pv 4) (pa_cons (pe_ix (r := rIxL K) ix_list (pv 1) (pv 5) (fun _ _ => rfl)) pa_nil))))) (pss_one ps_never) pss_nil)))))
      (pss_one (ps_fld (pv 0) (pe_callTy call_list_of (by rfl) M.zL (by decide +kernel) (pa_cons (pv 1) pa_nil)) rfl)))), ?_⟩
    have lx : xs.length ≤ 60 := by rw [hE.1]; exact lt
    refine ⟨_, rfl, _, _, _, _, true, rfl, .ty _, .base (.lst hl), kit_ty (by decide +kernel), true, rfl, ?_⟩
    refine iteF ?_
    refine ⟨_, rfl, l, _, rfl, .inl (SqL.of hl), _, _, rfl, rfl, _, rfl, ?_⟩
    rw [decide_eq_false (show ¬ (60 : Int) < (xs.length : Int) by omega)]
    refine iteF ?_
    refine ⟨_, rfl, l, xs, rfl, SqL.of hl, ?_⟩
    refine for_enumL (K := K) (a := l) (xs := xs) (fun j σ' H' => ∃ v2 v3 v4 v5 : Option V, σ' = [some (.ref p), some (.ref l), v2, v3, v4, v5] ∧ Same H H') ⟨_, _, _, _, rfl, Same.refl _⟩ (fun j σ' H' h => by
      obtain ⟨_, _, _, _, _, e⟩ := h
      exact SqL.of (e _ _ hl)) ?_ ?_
    · rintro j x t σ H2 hx ⟨v2, v3, v4, v5, rfl, e2⟩ nt
      obtain ⟨t9, hq, hw⟩ := hE.2 j x hx
      have g := same_new (o := .tup [.int (j : Nat), x]) nt
      have e3 := e2.trans g
      obtain ⟨t1, dx1, l1, x1, x2, x3, rfl, p1, _⟩ := id (hw.ex e3)
      refine ⟨t, _, rfl, SqT.of upd_same, rfl, _, _, rfl, _, _, rfl, rfl, ?_⟩
      refine ⟨_, rfl, _, _, _, _, true, rfl, .own CT, ty_tri TT D.T p1, TT.kTT, true, rfl, ?_⟩
      refine iteF ?_
      exact ⟨_, _, _, _, rfl, e3⟩
    · rintro σ H2 ⟨v2, v3, v4, v5, rfl, e2⟩
      have hl2 := e2 _ _ hl
      refine ⟨_, rfl, l, xs, rfl, SqL.of hl2, ?_⟩
      refine for_enumL (K := K) (a := l) (xs := xs) (fun j σ' H' => ∃ v2 v3 v4 v5 : Option V, σ' = [some (.ref p), some (.ref l), v2, v3, v4, v5] ∧ Same H H') ⟨_, _, _, _, rfl, e2⟩ (fun j σ' H' h => by
        obtain ⟨_, _, _, _, _, e⟩ := h
        exact SqL.of (e _ _ hl)) ?_ ?_
      · rintro j x t σ H3 hx ⟨v2, v3, v4, v5, rfl, e3⟩ nt
        obtain ⟨t9, hq, hw⟩ := hE.2 j x hx
        have hj : j < xs.length := (List.getElem?_eq_some_iff.mp hx).1
        have g := same_new (o := .tup [.int (j : Nat), x]) nt
        have e4 := e3.trans g
        refine ⟨t, _, rfl, SqT.of upd_same, rfl, _, _, rfl, _, _, rfl, rfl, ?_⟩
        refine ⟨_, rfl, _, rfl, by omega, by omega, ?_⟩
        refine for_range (lo := 0) (n := j) (fun i σ' H' => ∃ v3 v5 : Option V, σ' = [some (.ref p), some (.ref l), some (.int (j : Nat)), v3, some x, v5] ∧ Same H H') ⟨_, _, rfl, e4⟩ ?_ ?_
        · rintro i σ H4 hi ⟨v3, v5, rfl, e5⟩
          have hi' : i < xs.length := by omega
          obtain ⟨y, hy⟩ : ∃ y, xs[i]? = some y := ⟨_, List.getElem?_eq_getElem hi'⟩
          obtain ⟨u9, hq2, hw2⟩ := hE.2 i y hy
          refine ⟨_, rfl, _, rfl, _, rfl, l, _, _, _, rfl, rfl, SqL.of (e5 _ _ hl), (show atI xs (0 + (i : Int)) = some y by rw [Int.zero_add]; exact atI_nat hy), ?_⟩
          have ap : Ap t9 u9 := (List.pairwise_iff_getElem.mp pw i j (by rw [← hE.1]; exact hi') (by rw [← hE.1]; exact hj) hi |> fun z => by
            have z1 := (List.getElem?_eq_some_iff.mp hq).2
            have z2 := (List.getElem?_eq_some_iff.mp hq2).2
            rw [z1, z2] at z
            exact z.symm)
          have m1 := sm _ (List.mem_of_getElem? hq)
          have m2 := sm _ (List.mem_of_getElem? hq2)
          refine ⟨6, x, y, t9.1, t9.2.1, t9.2.2, u9.1, u9.2.1, u9.2.2, rfl, hw.ex e5, hw2.ex e5, by decide, m1.1, m1.2.1, m1.2.2, m2.1, m2.2.1, m2.2.2, fun H5 g5 => ⟨_, rfl, ?_⟩⟩
          rw [show apartT t9.1 t9.2.1 t9.2.2 u9.1 u9.2.1 u9.2.2 = true from ap]
          refine iteF ?_
          exact ⟨_, _, rfl, e5.trans g5⟩
        · rintro σ H4 ⟨v3, v5, rfl, e5⟩
          exact ⟨_, _, _, _, rfl, e5⟩
      · rintro σ H3 ⟨v2, v3, v4, v5, rfl, e3⟩
        refine ⟨_, rfl, l, _, rfl, .inl (SqL.of (e3 _ _ hl)), fun l' nl' => ?_⟩
        have g := same_new (o := .lst xs) nl'
        have hp3 := (e3.trans g) _ _ hp
        refine ⟨_, rfl, p, CM, dx, [], rfl, hp3, M.cl, M.nP, (by show 0 < 1000; decide), ?_⟩
        have pl' : l' ≠ p := (ne_of_none (e3 _ _ hp) nl').symm
        exact k l' _ ((But.of (e3.trans g)).trans But.upd) upd_same (by rw [upd_ne pl']; exact upd_same)
theorem scMTris : FnScope ["self"] ["self"] (defScope sMTris) := ⟨rfl, rfl, rfl, by decide +kernel, rfl, by decide +kernel, by decide +kernel⟩
theorem ok_mTris (M : MDefs K mg CM fCu fAp fMI fMT fdCu fdAp fdMI fdMT) : FnOk P w K mg base CX0 1 fMT fdMT ["self"] (spMTris C CT CM) := by
  refine M.FMT.ok scMTris (fun vs H Q E h => ?_) (fun cdv A outer s H vs Q E hr hq => ?_)
  · obtain ⟨v, ts, rfl, _⟩ := h
    rfl
  · obtain ⟨v, ts, rfl, ⟨m, dx, l, xs, rfl, h1, h2, h3⟩, k⟩ := hq
    refine ⟨_, pss_one (ps_ret (pe_callTy call_list_of (by rfl) M.zL (by decide +kernel) (pa_cons (pe_fld (pv 0) rfl) pa_nil))), ?_⟩
    refine ⟨_, rfl, m, CM, dx, _, _, rfl, h1, M.cl, M.nP, pieF_p _, l, _, rfl, .inl (SqL.of h2), fun l' nl' => ?_⟩
    exact k l' xs _ nl' (same_new nl') upd_same (h3.ex (same_new nl'))
end
end Fo
set_option Elab.async false
set_option linter.all false
set_option maxRecDepth 100000
set_option maxHeartbeats 2000000
namespace Fo
open PySem L2
/-! ### the law's mesh, as it is drawn -/
abbrev sCP : Stmt := top 37
theorem PoolAt.ne {p l : Addr} {H : Hp} (h : PoolAt p H) (hl : H l = none) : l ≠ p := by
  obtain ⟨i, j, hp, _⟩ := h
  exact (ne_of_none hp hl).symm
theorem TL.butP {H H' : Hp} {pl : Addr} {xs : List V} {ps : List (Int × Int)} (hp : PoolAt pl H) (e : But pl H H') (h : TL H xs ps) : TL H' xs ps := by
  induction h with
  | nil => exact .nil
  | cons h _ ih => exact .cons (e _ _ (tup_ne hp h) h) ih
/-- a row of pairs, apart from the pool and from the list l -/
def RowAt (pl l : Addr) (H : Hp) (v : V) (ps : List I2) : Prop := ∃ (rl : Addr) (vs : List V), v = .ref rl ∧ rl ≠ pl ∧ rl ≠ l ∧ H rl = some (.lst vs) ∧ TL H vs ps
theorem RowAt.ex {pl l : Addr} {H H' : Hp} {v : V} {ps : List I2} (e : Same H H') (h : RowAt pl l H v ps) : RowAt pl l H' v ps := by
  obtain ⟨rl, vs, rfl, n1, n2, h1, h2⟩ := h
  exact ⟨rl, vs, rfl, n1, n2, e _ _ h1, h2.ex e⟩
theorem RowAt.butP {pl l : Addr} {H H' : Hp} {v : V} {ps : List I2} (hp : PoolAt pl H) (e : But pl H H') (h : RowAt pl l H v ps) : RowAt pl l H' v ps := by
  obtain ⟨rl, vs, rfl, n1, n2, h1, h2⟩ := h
  exact ⟨rl, vs, rfl, n1, n2, e _ _ n1 h1, h2.butP hp e⟩
theorem RowAt.but {pl l : Addr} {H H' : Hp} {v : V} {ps : List I2} {ys : List V} (hl : H l = some (.lst ys)) (e : But l H H') (h : RowAt pl l H v ps) : RowAt pl l H' v ps := by
  obtain ⟨rl, vs, rfl, n1, n2, h1, h2⟩ := h
  exact ⟨rl, vs, rfl, n1, n2, e _ _ n2 h1, h2.but hl e⟩
/-- rows of pairs that are near (8 k, 8 r) -/
def GridAt (pl l : Addr) (g : List (List I2)) (w : Nat) (H : Hp) : Prop := ∃ rows : List V, H l = some (.lst rows) ∧ l ≠ pl ∧ rows.length = g.length ∧ ∀ (r : Nat) (v : V), rows[r]? = some v → ∃ ps : List I2, g[r]? = some ps ∧ RowAt pl l H v ps ∧ ps.length = w + 1 ∧ ∀ (k : Nat) (p : I2), ps[k]? = some p → Nr p r k
theorem GridAt.ex {pl l : Addr} {g : List (List I2)} {w : Nat} {H H' : Hp} (e : Same H H') (h : GridAt pl l g w H) : GridAt pl l g w H' := by
  obtain ⟨rows, h1, h2, h3, h4⟩ := h
  refine ⟨rows, e _ _ h1, h2, h3, fun r v hv => ?_⟩
  obtain ⟨ps, g1, g2, g3⟩ := h4 r v hv
  exact ⟨ps, g1, g2.ex e, g3⟩
theorem GridAt.butP {pl l : Addr} {g : List (List I2)} {w : Nat} {H H' : Hp} (hp : PoolAt pl H) (e : But pl H H') (h : GridAt pl l g w H) : GridAt pl l g w H' := by
  obtain ⟨rows, h1, h2, h3, h4⟩ := h
  refine ⟨rows, e _ _ h2 h1, h2, h3, fun r v hv => ?_⟩
  obtain ⟨ps, g1, g2, g3⟩ := h4 r v hv
  exact ⟨ps, g1, g2.butP hp e, g3⟩
def spCP : Sp := fun vs H Q _ => ∃ (pl : Addr) (w h : Nat), vs = [.ref pl, .int (w : Int), .int (h : Int)] ∧ PoolAt pl H ∧ w ≤ 2 ∧ h ≤ 2 ∧ ∀ l g H', But pl H H' → PoolAt pl H' → GridAt pl l g w H' → g.length = h + 1 → Q (.ref l) H'
theorem get_snoc {α : Type} {xs : List α} {y v : α} {i : Nat} (h : (xs ++ [y])[i]? = some v) : xs[i]? = some v ∨ (i = xs.length ∧ v = y) := by
  by_cases hi : i < xs.length
  · rw [List.getElem?_append_left hi] at h
    exact .inl h
  · have hl := (List.getElem?_eq_some_iff.mp h).1
    rw [List.length_append] at hl
    have e : i = xs.length := by
      simp at hl
      omega
    subst e
    rw [List.getElem?_append_right (Nat.le_refl _)] at h
    simp at h
    exact .inr ⟨rfl, h.symm⟩
section
variable {P : Program} {w : World} {K : PySem.W.Frag} {mg : Str → Option Value} {base : Heap}
abbrev cpN : List Str := ["pool", "wide", "high", "found", "row", "k"]
theorem scCP : FnScope cpN ["pool", "wide", "high"] (defScope sCP) := ⟨rfl, rfl, rfl, by decide +kernel, rfl, by decide +kernel, by decide +kernel⟩
theorem ok_cp {f fD : Addr} {fd fdD : FuncData} (F : Fun K "_law_corner_points" "_law_corner_points" sCP f fd) (T : TxtL mg) (FD : Fun K "_law_draw" "_law_draw" sDraw fD fdD) (bD : Binds K fdD ["pool", "many"] []) (mD : mg "_law_draw" = some (.ref fD)) : FnOk P w K mg base CX0 2 f fd ["pool", "wide", "high"] spCP := by
  have GD : FnOk P w K mg base CX0 1 fD fdD ["pool", "many"] spDraw := ok_draw FD T
  refine F.ok scCP (fun vs H Q E h => ?_) (fun cdv A outer s H vs Q E hr h => ?_)
  · obtain ⟨pl, w, h, rfl, _⟩ := h
    rfl
  · obtain ⟨pl, w, h, rfl, hp, w2, h2, k⟩ := h
    refine ⟨_, pss_cons (ps_set (i := 3) scCP.nd rfl (Or.inl rfl) (pe_lst pa_nil))
      (pss_cons (ps_for PassesOwn.never rfl (pi_range1 rfl T.range (pa_cons (pe_op op_add (pv 2) pe_int) pa_nil)) (pg_name (i := 4) scCP.nd rfl (Or.inr rfl))
        (pss_one (ps_expr (pe_bm PySem.F.plainAttrs_list PySem.F.slot_list_append PySem.F.type_list_append mt_append (pv 3) (pa_cons
          (pe_lc (own := [("k", 5)]) (g := gName 5) (tt := tYes) rfl scCP.nd (pi_range1 rfl T.range (pa_cons (pe_op op_add (pv 1) pe_int) pa_nil)) (blkOk_by (own := [("k", 5)]) (N := cpN) (sc := defScope sCP) (by decide +kernel)) (fun _ _ _ _ _ => pg_name (i := 5) scCP.nd rfl (Or.inl rfl)) (fun _ _ _ _ _ => pts_nil)
            (fun _ _ _ _ _ => pe_tup (pa_cons (pe_op op_sub (pe_op op_add (pe_op op_mul pe_int (pv 5)) (pe_call GD hr rfl mD FD.kp bD .nil pass0 (pa_cons (pv 0) (pa_cons pe_int pa_nil)))) pe_int)
              (pa_cons (pe_op op_sub (pe_op op_add (pe_op op_mul pe_int (pv 4)) (pe_call GD hr rfl mD FD.kp bD .nil pass0 (pa_cons (pv 0) (pa_cons pe_int pa_nil)))) pe_int) pa_nil)))) pa_nil)))))
      (pss_one (ps_ret (pv 3)))), ?_⟩
    refine ⟨(by show 0 ≤ sizeLine; decide), fun fo nfo => ?_⟩
    have g1 := same_new (o := .lst []) nfo
    have fp : fo ≠ pl := hp.ne nfo
    refine ⟨_, rfl, _, _, rfl, rfl, _, rfl, by omega, by omega, ?_⟩
    refine for_range (lo := 0) (n := ((h : Int) + 1).toNat) (fun i σ' H' => ∃ (v4 v5 : Option V) (g : List (List I2)), σ' = [some (.ref pl), some (.int (w : Int)), some (.int (h : Int)), some (.ref fo), v4, v5] ∧ But pl H H' ∧ PoolAt pl H' ∧ GridAt pl fo g w H' ∧ g.length = i)
      ⟨_, _, [], rfl, But.of g1, hp.ex g1, ⟨[], upd_same, fp, rfl, fun r v hv => by simp at hv⟩, rfl⟩ ?_ ?_
    case refine_2 =>
      rintro σ H' ⟨v4, v5, g, rfl, b1, p1, hg, gl⟩
      exact ⟨_, rfl, k fo g H' b1 p1 hg (by omega)⟩
    rintro i σ H1 hi ⟨v4, v5, g, rfl, b1, p1, hg, gl⟩
    obtain ⟨rows, hfo, _, rl, hrow⟩ := id hg
    refine ⟨_, rfl, .inl ⟨rfl, _, SqL.of hfo⟩, _, rfl, _, _, rfl, rfl, _, rfl, by omega, by omega, fun D0 nD => ?_⟩
    have pD : D0 ≠ pl := p1.ne nD
    have fD0 : D0 ≠ fo := (ne_of_none hfo nD).symm
    refine lc_range (lo := 0) (n := ((w : Int) + 1).toNat) (fun j H' => But pl H1 H' ∧ PoolAt pl H' ∧ ∃ (vs : List V) (ps : List I2), H' D0 = some (.lst vs) ∧ vs.length = j ∧ TL H' vs ps ∧ ∀ (k : Nat) (p : I2), ps[k]? = some p → Nr p i k)
      ⟨But.of (same_new nD), p1.ex (same_new nD), [], [], upd_same, rfl, .nil, fun k p h => by simp at h⟩ ?_ ?_
    · rintro j H2 hj ⟨b2, p2, vs, ps, hD, hvl, hT, hN⟩
      refine ⟨rfl, ?_⟩
      unfold tYes
      dsimp only
      rw [if_pos rfl]
      refine ⟨_, rfl, _, _, rfl, rfl, .inl ⟨by decide, by decide⟩, _, rfl, pl, 3, rfl, p2, by decide, by decide, fun r1 H3 r10 r11 b3 p3 => ?_⟩
      refine ⟨_, _, rfl, rfl, _, _, rfl, rfl, _, rfl, _, _, rfl, rfl, .inl ⟨by decide, by decide⟩, _, rfl, pl, 3, rfl, p3, by decide, by decide, fun r2 H4 r20 r21 b4 p4 => ?_⟩
      refine ⟨_, _, rfl, rfl, _, _, rfl, rfl, (by show 2 ≤ sizeLine; decide), fun tq ntq => ?_⟩
      have g5 := same_new (o := .tup [V.int (8 * (0 + (j : Int)) + r1 - 1), V.int (8 * (0 + (i : Int)) + r2 - 1)]) ntq
      have b5 := (b3.trans b4).trans (But.of g5)
      have hD5 := b5 _ _ pD hD
      have hT5 := ((hT.butP p2 b3).butP p3 b4).ex g5
      have hl := hT.length
      refine ⟨vs, hD5, Nat.lt_of_lt_of_le (by omega : vs.length < 100) (by decide), fun b' o nb hb' => ?_, ?_, vs ++ [.ref tq], ps ++ [(8 * (0 + (j : Int)) + r1 - 1, 8 * (0 + (i : Int)) + r2 - 1)], upd_same, by rw [List.length_append, hvl]; rfl, (hT5.append (.cons upd_same .nil)).but hD5 But.upd, fun k p hk => ?_⟩
      · rw [upd_ne (ne_of_none hb' nD)]
        exact b5 _ _ nb (b2 _ _ nb hb')
      · obtain ⟨i6, j6, h6, r6⟩ := p4.ex g5
        exact ⟨i6, j6, by rw [upd_ne pD.symm]; exact h6, r6⟩
      · rcases get_snoc hk with hk | ⟨rfl, rfl⟩
        · exact hN k p hk
        · exact ⟨by show 8 * (ps.length : Int) - 1 ≤ 8 * (0 + (j : Int)) + r1 - 1; omega, by show 8 * (0 + (j : Int)) + r1 - 1 ≤ 8 * (ps.length : Int) + 1; omega, by show 8 * (i : Int) - 1 ≤ 8 * (0 + (i : Int)) + r2 - 1; omega, by show 8 * (0 + (i : Int)) + r2 - 1 ≤ 8 * (i : Int) + 1; omega⟩
    · rintro H2 ⟨b2, p2, vs, ps, hD, hvl, hT, hN⟩
      have hfo2 := b2 _ _ fp hfo
      have hlp := hT.length
      refine ⟨fo, rows, .ref D0, rfl, rfl, hfo2, Nat.lt_of_lt_of_le (by omega : rows.length < 100) (by decide), ?_⟩
      have bF : But fo H2 (upd H2 fo (.lst (rows ++ [.ref D0]))) := But.upd
      refine ⟨_, _, g ++ [ps], rfl, fun b' o nb hb' => ?_, ?_, ⟨rows ++ [.ref D0], upd_same, fp, by rw [List.length_append, List.length_append, rl]; rfl, fun r v hv => ?_⟩, by rw [List.length_append, gl]; rfl⟩
      · rw [upd_ne (ne_of_none hb' nfo)]
        exact b2 _ _ nb (b1 _ _ nb hb')
      · obtain ⟨i6, j6, h6, r6⟩ := p2
        exact ⟨i6, j6, by rw [upd_ne fp.symm]; exact h6, r6⟩
      · rcases get_snoc hv with hv | ⟨rfl, rfl⟩
        · obtain ⟨qs, q1, q2, q3⟩ := hrow r v hv
          have hr' : r < g.length := (List.getElem?_eq_some_iff.mp q1).1
          exact ⟨qs, by rw [List.getElem?_append_left hr']; exact q1, (q2.butP p1 b2).but hfo2 bF, q3⟩
        · refine ⟨ps, by rw [List.getElem?_append_right (by omega), rl]; simp, ⟨D0, vs, rfl, pD, fD0, by rw [upd_ne fD0]; exact hD, hT.but hfo2 bF⟩, by omega, ?_⟩
          rw [rl, gl]
          exact hN
end
end Fo
set_option Elab.async false
set_option linter.all false
set_option maxRecDepth 100000
set_option maxHeartbeats 2000000
namespace Fo
open PySem L2
abbrev sSplit : Stmt := top 38
theorem T3.butP {H H' : Hp} {pl qa qb qc : Addr} {a b c : I2} (hp : PoolAt pl H) (e : But pl H H') (h : T3 H qa qb qc a b c) : T3 H' qa qb qc a b c := ⟨e _ _ (tup_ne hp h.a) h.a, e _ _ (tup_ne hp h.b) h.b, e _ _ (tup_ne hp h.c) h.c⟩
/-- three corners in a list -/
def IsTh (H : Hp) (v : V) (t : T9) : Prop := ∃ l q1 q2 q3 : Addr, v = .ref l ∧ H l = some (.lst [.ref q1, .ref q2, .ref q3]) ∧ T3 H q1 q2 q3 t.1 t.2.1 t.2.2
theorem IsTh.ex {H H' : Hp} {v : V} {t : T9} (e : Same H H') (h : IsTh H v t) : IsTh H' v t := by
  obtain ⟨l, q1, q2, q3, rfl, h1, h2⟩ := h
  exact ⟨l, q1, q2, q3, rfl, e _ _ h1, h2.ex e⟩
theorem IsTh.butP {pl : Addr} {H H' : Hp} {v : V} {t : T9} (hp : PoolAt pl H) (e : But pl H H') (h : IsTh H v t) : IsTh H' v t := by
  obtain ⟨l, q1, q2, q3, rfl, h1, h2⟩ := h
  obtain ⟨i, j, p1, _⟩ := id hp
  exact ⟨l, q1, q2, q3, rfl, e _ _ (ne_of h1 p1 (by intro z; cases z)) h1, h2.butP hp e⟩
def EachTh (H : Hp) (xs : List V) (ts : List T9) : Prop := xs.length = ts.length ∧ ∀ (i : Nat) (v : V), xs[i]? = some v → ∃ t : T9, ts[i]? = some t ∧ IsTh H v t
theorem EachTh.ex {H H' : Hp} {xs : List V} {ts : List T9} (e : Same H H') (h : EachTh H xs ts) : EachTh H' xs ts := ⟨h.1, fun i v hv => by
  obtain ⟨t, h1, h2⟩ := h.2 i v hv
  exact ⟨t, h1, h2.ex e⟩⟩
theorem EachTh.butP {pl : Addr} {H H' : Hp} {xs : List V} {ts : List T9} (hp : PoolAt pl H) (e : But pl H H') (h : EachTh H xs ts) : EachTh H' xs ts := ⟨h.1, fun i v hv => by
  obtain ⟨t, h1, h2⟩ := h.2 i v hv
  exact ⟨t, h1, h2.butP hp e⟩⟩
theorem EachTh.nil {H : Hp} : EachTh H [] [] := ⟨rfl, fun i v h => by simp at h⟩
theorem EachTh.snoc {H : Hp} {xs : List V} {ts : List T9} {v : V} {t : T9} (h : EachTh H xs ts) (hv : IsTh H v t) : EachTh H (xs ++ [v]) (ts ++ [t]) := by
  refine ⟨by rw [List.length_append, List.length_append, h.1]; rfl, fun i u hu => ?_⟩
  rcases get_snoc hu with hu | ⟨rfl, rfl⟩
  · obtain ⟨t', h1, h2⟩ := h.2 i u hu
    exact ⟨t', by rw [List.getElem?_append_left (List.getElem?_eq_some_iff.mp h1).1]; exact h1, h2⟩
  · exact ⟨t, by rw [h.1]; simp, hv⟩
theorem EachTh.append {H : Hp} {xs ys : List V} {ts us : List T9} (h : EachTh H xs ts) (h' : EachTh H ys us) : EachTh H (xs ++ ys) (ts ++ us) := by
  refine ⟨by rw [List.length_append, List.length_append, h.1, h'.1], fun i u hu => ?_⟩
  by_cases hi : i < xs.length
  · rw [List.getElem?_append_left hi] at hu
    obtain ⟨t', h1, h2⟩ := h.2 i u hu
    exact ⟨t', by rw [List.getElem?_append_left (List.getElem?_eq_some_iff.mp h1).1]; exact h1, h2⟩
  · rw [List.getElem?_append_right (by omega)] at hu
    obtain ⟨t', h1, h2⟩ := h'.2 _ u hu
    exact ⟨t', by rw [List.getElem?_append_right (by rw [← h.1]; omega), ← h.1]; exact h1, h2⟩
def spSplit : Sp := fun vs H Q _ => ∃ (pl : Addr) (v : V) (x y z : I2), vs = [.ref pl, v] ∧ PoolAt pl H ∧ IsTh H v (x, y, z) ∧ 0 < sd x y z ∧ Sm2 6 x ∧ Sm2 6 y ∧ Sm2 6 z ∧
  ∀ l xs ts H', But pl H H' → PoolAt pl H' → H' l = some (.lst xs) → EachTh H' xs ts → Parts [x, y, z] ts → 1 ≤ ts.length → ts.length ≤ 2 → Q (.ref l) H'
section
variable {P : Program} {w : World} {K : PySem.W.Frag} {mg : Str → Option Value} {base : Heap}
abbrev spN : List Str := ["pool", "three", "at", "a", "b", "c", "middle"]
theorem scSplit : FnScope spN ["pool", "three"] (defScope sSplit) := ⟨rfl, rfl, rfl, by decide +kernel, rfl, by decide +kernel, by decide +kernel⟩
theorem ok_split {f fD : Addr} {fd fdD : FuncData} (F : Fun K "_law_split" "_law_split" sSplit f fd) (T : TxtL mg) (FD : Fun K "_law_draw" "_law_draw" sDraw fD fdD) (bD : Binds K fdD ["pool", "many"] []) (mD : mg "_law_draw" = some (.ref fD)) : FnOk P w K mg base CX0 2 f fd ["pool", "three"] spSplit := by
  have GD : FnOk P w K mg base CX0 1 fD fdD ["pool", "many"] spDraw := ok_draw FD T
  refine F.ok scSplit (fun vs H Q E h => ?_) (fun cdv A outer s H vs Q E hr h => ?_)
  · obtain ⟨pl, v, x, y, z, rfl, _⟩ := h
    rfl
  · obtain ⟨pl, v, x, y, z, rfl, hp, hv, pos, sx, sy, sz, k⟩ := h
    refine ⟨_, pss_cons (ps_set (i := 2) scSplit.nd rfl (Or.inl rfl) (pe_call GD hr rfl mD FD.kp bD .nil pass0 (pa_cons (pv 0) (pa_cons pe_int pa_nil))))
      (pss_cons (ps_par3 (i := 3) (j := 4) (l := 5) (by rfl) scSplit.nd rfl rfl rfl (by decide) (by decide) (by decide) rfl rfl rfl (pa_cons (pe_ix ix_list (pv 1) (pv 2) (fun _ _ => rfl)) (pa_cons (pe_ix ix_list (pv 1) (pe_op op_mod (pe_op op_add (pv 2) pe_int) pe_int) (fun _ _ => rfl)) (pa_cons (pe_ix ix_list (pv 1) (pe_op op_mod (pe_op op_add (pv 2) pe_int) pe_int) (fun _ _ => rfl)) pa_nil))) (by rfl))
      (pss_cons (ps_if (PW.pt (pw_and (pt_cmpR op_eq (pe_op op_mod (pe_op op_add (pe_ix ix_tup (pv 3) pe_int (fun _ _ => rfl)) (pe_ix ix_tup (pv 4) pe_int (fun _ _ => rfl))) pe_int) pe_int (nomark _))
          (pw_and (pt_cmpR op_eq (pe_op op_mod (pe_op op_add (pe_ix ix_tup (pv 3) pe_int (fun _ _ => rfl)) (pe_ix ix_tup (pv 4) pe_int (fun _ _ => rfl))) pe_int) pe_int (nomark _))
            (pw_and1 (pt_cmpR op_eq (pe_call GD hr rfl mD FD.kp bD .nil pass0 (pa_cons (pv 0) (pa_cons pe_int pa_nil))) pe_int (nomark _))))))
        (pss_cons (ps_set (i := 6) scSplit.nd rfl (Or.inl rfl) (pe_tup (pa_cons (pe_op op_fdiv (pe_op op_add (pe_ix ix_tup (pv 3) pe_int (fun _ _ => rfl)) (pe_ix ix_tup (pv 4) pe_int (fun _ _ => rfl))) pe_int) (pa_cons (pe_op op_fdiv (pe_op op_add (pe_ix ix_tup (pv 3) pe_int (fun _ _ => rfl)) (pe_ix ix_tup (pv 4) pe_int (fun _ _ => rfl))) pe_int) pa_nil))))
          (pss_one (ps_ret (pe_lst (pa_cons (pe_lst (pa_cons (pv 3) (pa_cons (pv 6) (pa_cons (pv 5) pa_nil)))) (pa_cons (pe_lst (pa_cons (pv 6) (pa_cons (pv 4) (pa_cons (pv 5) pa_nil)))) pa_nil)))))) pss_nil)
      (pss_one (ps_ret (pe_lst (pa_cons (pv 1) pa_nil)))))), ?_⟩
    refine ⟨_, rfl, pl, 3, rfl, hp, by decide, by decide, fun r H1 r0 r1 b1 p1 => ?_⟩
    have hv1 := hv.butP hp b1
    obtain ⟨l, q1, q2, q3, rfl, hl, t3⟩ := id hv1
    dsimp only
    refine seq_gen (fun σ' H' => ∃ (v6 : Option V) (qa qb qc : Addr) (a b c : I2), σ' = [some (.ref pl), some (.ref l), some (.int r), some (.ref qa), some (.ref qb), some (.ref qc), v6] ∧ Same H1 H' ∧ T3 H' qa qb qc a b c ∧ 0 < sd a b c ∧ Sm2 6 a ∧ Sm2 6 b ∧ Sm2 6 c ∧ ∀ v ∈ [a, b, c], v ∈ [x, y, z]) (fun N hN => ?_) ?_
    · have rc : r = 0 ∨ r = 1 ∨ r = 2 := by omega
      rcases rc with rfl | rfl | rfl
      · refine ⟨_, rfl, _, rfl, l, _, _, _, rfl, rfl, SqL.of hl, atI_nat (j := 0) rfl, _, rfl, _, rfl, _, _, rfl, rfl, _, _, rfl, rfl, (by decide : (0 : Int) < 3), l, _, _, _, rfl, rfl, SqL.of hl, (show atI [V.ref q1, V.ref q2, V.ref q3] (1 : Int) = some (.ref q2) from atI_nat (j := 1) rfl), _, rfl, _, rfl, _, _, rfl, rfl, _, _, rfl, rfl, (by decide : (0 : Int) < 3), l, _, _, _, rfl, rfl, SqL.of hl, (show atI [V.ref q1, V.ref q2, V.ref q3] (2 : Int) = some (.ref q3) from atI_nat (j := 2) rfl), _, _, _, rfl, ?_⟩
        exact hN _ _ ⟨_, q1, q2, q3, x, y, z, rfl, Same.refl _, t3, pos, sx, sy, sz, by simp⟩
      · refine ⟨_, rfl, _, rfl, l, _, _, _, rfl, rfl, SqL.of hl, atI_nat (j := 1) rfl, _, rfl, _, rfl, _, _, rfl, rfl, _, _, rfl, rfl, (by decide : (0 : Int) < 3), l, _, _, _, rfl, rfl, SqL.of hl, (show atI [V.ref q1, V.ref q2, V.ref q3] (2 : Int) = some (.ref q3) from atI_nat (j := 2) rfl), _, rfl, _, rfl, _, _, rfl, rfl, _, _, rfl, rfl, (by decide : (0 : Int) < 3), l, _, _, _, rfl, rfl, SqL.of hl, (show atI [V.ref q1, V.ref q2, V.ref q3] (0 : Int) = some (.ref q1) from atI_nat (j := 0) rfl), _, _, _, rfl, ?_⟩
        exact hN _ _ ⟨_, q2, q3, q1, y, z, x, rfl, Same.refl _, ⟨t3.b, t3.c, t3.a⟩, by rw [sd_rot]; exact pos, sy, sz, sx, by simp⟩
      · refine ⟨_, rfl, _, rfl, l, _, _, _, rfl, rfl, SqL.of hl, atI_nat (j := 2) rfl, _, rfl, _, rfl, _, _, rfl, rfl, _, _, rfl, rfl, (by decide : (0 : Int) < 3), l, _, _, _, rfl, rfl, SqL.of hl, (show atI [V.ref q1, V.ref q2, V.ref q3] (0 : Int) = some (.ref q1) from atI_nat (j := 0) rfl), _, rfl, _, rfl, _, _, rfl, rfl, _, _, rfl, rfl, (by decide : (0 : Int) < 3), l, _, _, _, rfl, rfl, SqL.of hl, (show atI [V.ref q1, V.ref q2, V.ref q3] (1 : Int) = some (.ref q2) from atI_nat (j := 1) rfl), _, _, _, rfl, ?_⟩
        exact hN _ _ ⟨_, q3, q1, q2, z, x, y, rfl, Same.refl _, ⟨t3.c, t3.a, t3.b⟩, by rw [sd_rot, sd_rot]; exact pos, sz, sx, sy, by simp⟩
    rintro σ H1' ⟨v6, qa, qb, qc, a, b, c, rfl, e1', tt, pos', sa, sb, sc, mem⟩
    have b1 := b1.trans (But.of e1')
    have p1 := p1.ex e1'
    have hv1 := hv1.ex e1'
    -- the parts, or the whole
    have whole : ∀ (H2 : Hp), But pl H1' H2 → PoolAt pl H2 → ∀ (l2 : Addr), H2 l2 = none → Q (.ref l2) (upd H2 l2 (.lst [.ref l])) := fun H2 b2 p2 l2 n2 => by
      have g := same_new (o := .lst [V.ref l]) n2
      exact k l2 [.ref l] [(x, y, z)] _ (b1.trans (b2.trans (But.of g))) (p2.ex g) upd_same (EachTh.nil.snoc ((hv1.butP p1 b2).ex g)) (parts_one pos sx sy sz) (by simp) (by simp)
    refine seq_gen (fun σ' H' => (∃ v6, σ' = [some (.ref pl), some (.ref l), some (.int r), some (.ref qa), some (.ref qb), some (.ref qc), v6]) ∧ But pl H1' H' ∧ PoolAt pl H') (fun N hN => ?_) ?_
    · refine ⟨_, rfl, qa, _, _, _, rfl, rfl, SqT.of tt.a, atI_nat (j := 0) rfl, _, rfl, qb, _, _, _, rfl, rfl, SqT.of tt.b, atI_nat (j := 0) rfl, _, _, rfl, rfl, _, _, rfl, rfl, (by decide : (0 : Int) < 2), rfl, _, rfl, ?_⟩
      by_cases e1 : (a.1 + b.1) % 2 = 0
      · rw [int_eqT e1]
        refine iteT ?_
        refine ⟨_, rfl, qa, _, _, _, rfl, rfl, SqT.of tt.a, atI_nat (j := 1) rfl, _, rfl, qb, _, _, _, rfl, rfl, SqT.of tt.b, atI_nat (j := 1) rfl, _, _, rfl, rfl, _, _, rfl, rfl, (by decide : (0 : Int) < 2), rfl, _, rfl, ?_⟩
        by_cases e2 : (a.2 + b.2) % 2 = 0
        · rw [int_eqT e2]
          refine iteT ?_
          refine ⟨_, rfl, pl, 3, rfl, p1, by decide, by decide, fun r2 H2 r20 r21 b2 p2 => ⟨rfl, _, rfl, ?_⟩⟩
          refine ite2 (fun _ => ?_) (fun _ => hN _ _ ⟨⟨_, rfl⟩, b2, p2⟩)
          have t4 := tt.butP p1 b2
          refine ⟨_, rfl, qa, _, _, _, rfl, rfl, SqT.of t4.a, atI_nat (j := 0) rfl, _, rfl, qb, _, _, _, rfl, rfl, SqT.of t4.b, atI_nat (j := 0) rfl, _, _, rfl, rfl, _, _, rfl, rfl, ⟨by decide, by decide⟩, ?_⟩
          refine ⟨_, rfl, qa, _, _, _, rfl, rfl, SqT.of t4.a, atI_nat (j := 1) rfl, _, rfl, qb, _, _, _, rfl, rfl, SqT.of t4.b, atI_nat (j := 1) rfl, _, _, rfl, rfl, _, _, rfl, rfl, ⟨by decide, by decide⟩, (by show 2 ≤ sizeLine; decide), fun m nm => ?_⟩
          have g1 := same_new (o := .tup [V.int ((a.1 + b.1) / 2), V.int ((a.2 + b.2) / 2)]) nm
          refine ⟨_, rfl, _, rfl, _, rfl, (by show 3 ≤ sizeLine; decide), fun l1 n1 => ⟨_, rfl, _, rfl, _, rfl, (by show 3 ≤ sizeLine; decide), fun l2 n2 => ⟨(by show 2 ≤ sizeLine; decide), fun l3 n3 => ?_⟩⟩⟩
          have g2 := same_new (o := .lst [V.ref qa, V.ref m, V.ref qc]) n1
          have g3 := same_new (o := .lst [V.ref m, V.ref qb, V.ref qc]) n2
          have g4 := same_new (o := .lst [V.ref l1, V.ref l2]) n3
          have g34 := g3.trans g4
          have g24 := g2.trans g34
          have gA := g1.trans g24
          have t5 := t4.ex gA
          have hm := g24 _ _ (upd_same (H := H2) (a := m) (o := .tup [V.int ((a.1 + b.1) / 2), V.int ((a.2 + b.2) / 2)]))
          have ph := Parts.up (vs := [x, y, z]) (fun v h => In.mem (mem v h)) (parts_two (m := ((a.1 + b.1) / 2, (a.2 + b.2) / 2)) pos' sa sb sc (by show 2 * ((a.1 + b.1) / 2) = a.1 + b.1; omega) (by show 2 * ((a.2 + b.2) / 2) = a.2 + b.2; omega))
          exact k l3 [.ref l1, .ref l2] _ _ (b1.trans (b2.trans (But.of gA))) (p2.ex gA) upd_same ((EachTh.nil.snoc ⟨l1, qa, m, qc, rfl, g34 _ _ upd_same, ⟨t5.a, hm, t5.c⟩⟩).snoc ⟨l2, m, qb, qc, rfl, g4 _ _ upd_same, ⟨hm, t5.b, t5.c⟩⟩) ph (by simp) (by simp)
        · rw [int_eqF e2]
          exact iteF (hN _ _ ⟨⟨_, rfl⟩, But.refl _ _, p1⟩)
      · rw [int_eqF e1]
        exact iteF (hN _ _ ⟨⟨_, rfl⟩, But.refl _ _, p1⟩)
    rintro σ H2 ⟨⟨v6', rfl⟩, b2, p2⟩
    exact ⟨_, rfl, (by show 1 ≤ sizeLine; decide), fun l2 n2 => whole H2 b2 p2 l2 n2⟩
end
end Fo
set_option Elab.async false
set_option linter.all false
set_option maxRecDepth 100000
set_option maxHeartbeats 2000000
namespace Fo
open PySem L2
abbrev sLMesh : Stmt := top 39
def gf (g : List (List I2)) (r k : Nat) : I2 := (g.getD r []).getD k (0, 0)
/-- what stands of the mesh before the cell (row, k) -/
def MInv (g : List (List I2)) (w row k : Nat) (ts : List T9) : Prop := (∀ t ∈ ts, ∃ r' k' : Nat, (r' < row ∨ (r' = row ∧ k' < k)) ∧ k' < w ∧ Good (corn (gf g) r' k') t) ∧ ts.Pairwise Ap
theorem MInv.step {g : List (List I2)} {w h row k : Nat} {ts ps : List T9} (hG : ∀ r k, r ≤ h → k ≤ w → Nr (gf g r k) r k) (hr : row < h) (hk : k < w) (h2 : h ≤ 2) (w2 : w ≤ 2) (m : MInv g w row k ts) (p : Parts (corn (gf g) row k) ps) : MInv g w row (k + 1) (ts ++ ps) := by
  refine ⟨fun t ht => ?_, List.pairwise_append.mpr ⟨m.2, p.2, fun t ht u hu => ?_⟩⟩
  · rcases List.mem_append.mp ht with ht | ht
    · obtain ⟨r', k', h1, h2, h3⟩ := m.1 t ht
      exact ⟨r', k', by omega, h2, h3⟩
    · exact ⟨row, k, .inr ⟨rfl, Nat.lt_succ_self _⟩, hk, p.1 t ht⟩
  · obtain ⟨r', k', h1, h3, h4⟩ := m.1 t ht
    exact cells_apart hG (by omega) h3 hr hk h2 w2 (by omega) h4 (p.1 u hu)
theorem MInv.row {g : List (List I2)} {w row : Nat} {ts : List T9} (m : MInv g w row w ts) : MInv g w (row + 1) 0 ts := ⟨fun t ht => by
  obtain ⟨r', k', h1, h2, h3⟩ := m.1 t ht
  exact ⟨r', k', by omega, h2, h3⟩, m.2⟩
theorem MInv.nil {g : List (List I2)} {w : Nat} : MInv g w 0 0 [] := ⟨fun t h => by simp at h, .nil⟩
theorem gf_of {g : List (List I2)} {ps : List I2} {p : I2} {r k : Nat} (h1 : g[r]? = some ps) (h2 : ps[k]? = some p) : gf g r k = p := by
  simp [gf, List.getD_eq_getElem?_getD, h1, h2]
/-- a row's pairs -/
theorem GridAt.row {pl l : Addr} {g : List (List I2)} {w : Nat} {H : Hp} (h : GridAt pl l g w H) {r : Nat} (hr : r < g.length) : ∃ (rows : List V) (rl : Addr) (vs : List V), H l = some (.lst rows) ∧ rows[r]? = some (.ref rl) ∧ H rl = some (.lst vs) ∧
    ∀ k, k ≤ w → ∃ q : Addr, vs[k]? = some (.ref q) ∧ Tp H q (gf g r k) ∧ Nr (gf g r k) r k := by
  obtain ⟨rows, h1, h2, h3, h4⟩ := h
  obtain ⟨v, hv⟩ : ∃ v, rows[r]? = some v := ⟨_, List.getElem?_eq_getElem (by omega)⟩
  obtain ⟨ps, p1, ⟨rl, vs, rfl, n1, n2, p2, p3⟩, p4, p5⟩ := h4 r v hv
  refine ⟨rows, rl, vs, h1, hv, p2, fun k hk => ?_⟩
  have hl := p3.length
  obtain ⟨x, hx⟩ : ∃ x, vs[k]? = some x := ⟨_, List.getElem?_eq_getElem (by omega)⟩
  obtain ⟨q, p, rfl, e1, e2⟩ := p3.get hx
  rw [gf_of p1 e1]
  exact ⟨q, hx, e2, p5 k p e1⟩
theorem nr_sm {p : I2} {r k : Nat} (h : Nr p r k) (hr : r ≤ 2) (hk : k ≤ 2) : Sm2 6 p := by
  obtain ⟨a, b, c, d⟩ := h
  exact ⟨by show Sm 6 _; unfold Sm; omega, by show Sm 6 _; unfold Sm; omega⟩
def OkTs (ts : List T9) : Prop := (∀ t ∈ ts, 0 < sd t.1 t.2.1 t.2.2 ∧ SmT t) ∧ ts.Pairwise Ap
theorem MInv.ok {g : List (List I2)} {w row k : Nat} {ts : List T9} (m : MInv g w row k ts) : OkTs ts := ⟨fun t ht => by
  obtain ⟨r', k', h1, h2, h3⟩ := m.1 t ht
  exact ⟨h3.pos, h3.sa, h3.sb, h3.sc⟩, m.2⟩
theorem OkTs.sub {ts us : List T9} (h : OkTs ts) (s : us.Sublist ts) : OkTs us := ⟨fun t ht => h.1 t (s.subset ht), h.2.sublist s⟩
def spLMesh : Sp := fun vs H Q _ => ∃ pl : Addr, vs = [.ref pl] ∧ PoolAt pl H ∧ ∀ l xs ts H', But pl H H' → PoolAt pl H' → H' l = some (.lst xs) → l ≠ pl → EachTh H' xs ts → OkTs ts → ts.length ≤ 16 → Q (.ref l) H'
section
variable {P : Program} {w : World} {K : PySem.W.Frag} {mg : Str → Option Value} {base : Heap}
abbrev lmN : List Str := ["pool", "wide", "high", "rows", "found", "row", "k", "low", "up", "a", "b", "c", "d", "two", "gone"]
theorem scLMesh : FnScope lmN ["pool"] (defScope sLMesh) := ⟨rfl, rfl, rfl, by decide +kernel, rfl, by decide +kernel, by decide +kernel⟩
theorem ok_lmesh {f fD fCp fSp : Addr} {fd fdD fdCp fdSp : FuncData} (F : Fun K "_law_mesh" "_law_mesh" sLMesh f fd) (T : TxtL mg) (FD : Fun K "_law_draw" "_law_draw" sDraw fD fdD) (bD : Binds K fdD ["pool", "many"] []) (mD : mg "_law_draw" = some (.ref fD))
    (FCp : Fun K "_law_corner_points" "_law_corner_points" sCP fCp fdCp) (bCp : Binds K fdCp ["pool", "wide", "high"] []) (mCp : mg "_law_corner_points" = some (.ref fCp)) (FSp : Fun K "_law_split" "_law_split" sSplit fSp fdSp) (bSp : Binds K fdSp ["pool", "three"] []) (mSp : mg "_law_split" = some (.ref fSp)) :
    FnOk P w K mg base CX0 3 f fd ["pool"] spLMesh := by
  have GD : FnOk P w K mg base CX0 1 fD fdD ["pool", "many"] spDraw := ok_draw FD T
  have GC : FnOk P w K mg base CX0 2 fCp fdCp ["pool", "wide", "high"] spCP := ok_cp FCp T FD bD mD
  have GS : FnOk P w K mg base CX0 2 fSp fdSp ["pool", "three"] spSplit := ok_split FSp T FD bD mD
  refine F.ok scLMesh (fun vs H Q E h => ?_) (fun cdv A outer s H vs Q E hr h => ?_)
  · obtain ⟨pl, rfl, _⟩ := h
    rfl
  · obtain ⟨pl, rfl, hp, k⟩ := h
    have hr1 : Room 1 _ := hr.mono (by decide)
    refine ⟨_, pss_cons (ps_par (i := 1) (j := 2) (by rfl) scLMesh.nd rfl rfl (by decide) rfl rfl (pa_cons (pe_op op_add pe_int (pe_call GD hr1 rfl mD FD.kp bD .nil pass0 (pa_cons (pv 0) (pa_cons pe_int pa_nil)))) (pa_cons (pe_op op_add pe_int (pe_call GD hr1 rfl mD FD.kp bD .nil pass0 (pa_cons (pv 0) (pa_cons pe_int pa_nil)))) pa_nil)) (by rfl))
      (pss_cons (ps_set (i := 3) scLMesh.nd rfl (Or.inl rfl) (pe_call GC hr rfl mCp FCp.kp bCp .nil pass0 (pa_cons (pv 0) (pa_cons (pv 1) (pa_cons (pv 2) pa_nil)))))
      (pss_cons (ps_set (i := 4) scLMesh.nd rfl (Or.inr rfl) (pe_lst pa_nil))
      (pss_cons (ps_for PassesOwn.never rfl (pi_range1 rfl T.range (pa_cons (pv 2) pa_nil)) (pg_name (i := 5) scLMesh.nd rfl (Or.inl rfl))
        (pss_one (ps_for PassesOwn.never rfl (pi_range1 rfl T.range (pa_cons (pv 1) pa_nil)) (pg_name (i := 6) scLMesh.nd rfl (Or.inl rfl))
        (pss_cons (ps_par (i := 7) (j := 8) (by rfl) scLMesh.nd rfl rfl (by decide) rfl rfl (pa_cons (pe_ix (r := rIxL K) ix_list (pv 3) (pv 5) (fun _ _ => rfl)) (pa_cons (pe_ix (r := rIxL K) ix_list (pv 3) (pe_op op_add (pv 5) pe_int) (fun _ _ => rfl)) pa_nil)) (by rfl))
        (pss_cons (ps_par (i := 9) (j := 10) (by rfl) scLMesh.nd rfl rfl (by decide) rfl rfl (pa_cons (pe_ix (r := rIxL K) ix_list (pv 7) (pv 6) (fun _ _ => rfl)) (pa_cons (pe_ix (r := rIxL K) ix_list (pv 7) (pe_op op_add (pv 6) pe_int) (fun _ _ => rfl)) pa_nil)) (by rfl))
        (pss_cons (ps_par (i := 11) (j := 12) (by rfl) scLMesh.nd rfl rfl (by decide) rfl rfl (pa_cons (pe_ix (r := rIxL K) ix_list (pv 8) (pe_op op_add (pv 6) pe_int) (fun _ _ => rfl)) (pa_cons (pe_ix (r := rIxL K) ix_list (pv 8) (pv 6) (fun _ _ => rfl)) pa_nil)) (by rfl))
        (pss_cons (ps_set (i := 13) scLMesh.nd rfl (Or.inl rfl) (pe_lst (pa_cons (pe_lst (pa_cons (pv 9) (pa_cons (pv 10) (pa_cons (pv 11) pa_nil)))) (pa_cons (pe_lst (pa_cons (pv 9) (pa_cons (pv 11) (pa_cons (pv 12) pa_nil)))) pa_nil))))
        (pss_cons (ps_if (pt_cmpR op_eq (pe_call GD hr1 rfl mD FD.kp bD .nil pass0 (pa_cons (pv 0) (pa_cons pe_int pa_nil))) pe_int (nomark _)) (pss_one (ps_set (i := 13) scLMesh.nd rfl (Or.inl rfl) (pe_lst (pa_cons (pe_lst (pa_cons (pv 9) (pa_cons (pv 10) (pa_cons (pv 12) pa_nil)))) (pa_cons (pe_lst (pa_cons (pv 10) (pa_cons (pv 11) (pa_cons (pv 12) pa_nil)))) pa_nil))))) pss_nil)
        (pss_one (ps_set (i := 4) scLMesh.nd rfl (Or.inr rfl) (pe_op op_cat (pe_op op_cat (pv 4) (pe_call GS hr rfl mSp FSp.kp bSp .nil pass0 (pa_cons (pv 0) (pa_cons (pe_ix (r := rIxL K) ix_list (pv 13) pe_int (fun _ _ => rfl)) pa_nil)))) (pe_call GS hr rfl mSp FSp.kp bSp .nil pass0 (pa_cons (pv 0) (pa_cons (pe_ix (r := rIxL K) ix_list (pv 13) pe_int (fun _ _ => rfl)) pa_nil))))))))))))))
      (pss_cons (ps_set (i := 14) scLMesh.nd rfl (Or.inr rfl) (pe_call GD hr1 rfl mD FD.kp bD .nil pass0 (pa_cons (pv 0) (pa_cons (pe_op op_mul pe_int (pe_callB call_len_seq (by rfl) T.len PySem.boot_len (pa_cons (pv 4) pa_nil))) pa_nil))))
      (pss_one (ps_ret (pe_lc (own := [("k", 6)]) (g := gName 6) rfl scLMesh.nd (pi_range1 rfl T.range (pa_cons (pe_callB call_len_seq (by rfl) T.len PySem.boot_len (pa_cons (pv 4) pa_nil)) pa_nil)) (blkOk_by (own := [("k", 6)]) (N := lmN) (sc := defScope sLMesh) (by decide +kernel)) (fun _ _ _ _ _ => (pg_name (i := 6) scLMesh.nd rfl (Or.inl rfl))) (fun _ _ _ _ _ => pts_one (pt_cmpR op_ne (pv 6) (pv 14) (nomark _))) (fun _ _ _ _ _ => (pe_ix (r := rIxL K) ix_list (pv 4) (pv 6) (fun _ _ => rfl)))))))))), ?_⟩
    refine seq_gen (fun σ' H' => ∃ (w h : Nat) (v3 v4 v5 v6 v7 v8 v9 v10 v11 v12 v13 v14 : Option V), σ' = [some (.ref pl), some (.int (w : Int)), some (.int (h : Int)), v3, v4, v5, v6, v7, v8, v9, v10, v11, v12, v13, v14] ∧ But pl H H' ∧ PoolAt pl H' ∧ 1 ≤ w ∧ w ≤ 2 ∧ 1 ≤ h ∧ h ≤ 2) (fun N hN => ?_) ?_
    · refine ⟨_, rfl, pl, 2, rfl, hp, by decide, by decide, fun r1 H1 r10 r11 b1 p1 => ⟨_, _, rfl, rfl, ?_⟩⟩
      refine ⟨_, rfl, pl, 2, rfl, p1, by decide, by decide, fun r2 H2 r20 r21 b2 p2 => ⟨_, _, rfl, rfl, _, _, rfl, ?_⟩⟩
      refine hN _ _ ⟨(1 + r1).toNat, (1 + r2).toNat, none, none, none, none, none, none, none, none, none, none, none, none, ?_, b1.trans b2, p2, by omega, by omega, by omega, by omega⟩
      rw [show ((1 + r1).toNat : Int) = 1 + r1 by omega, show ((1 + r2).toNat : Int) = 1 + r2 by omega]
      rfl
    rintro σ H1 ⟨w, h, v3, v4, v5, v6, v7, v8, v9, v10, v11, v12, v13, v14, rfl, b1, p1, w1, w2, h1, h2⟩
    refine ⟨_, rfl, _, rfl, _, rfl, pl, w, h, rfl, p1, w2, h2, fun rl g H2 b2 p2 hg gl => ?_⟩
    refine ⟨(by show 0 ≤ sizeLine; decide), fun fl nfl => ?_⟩
    have g3 := same_new (o := .lst []) nfl
    have b3 := (b1.trans b2).trans (But.of g3)
    have p3 := p2.ex g3
    have hg3 := hg.ex g3
    have nf := p2.ne nfl
    have hfl := upd_same (H := H2) (a := fl) (o := .lst [])
    generalize upd H2 fl (.lst []) = H3 at *
    clear b1 b2 p1 p2 hg nfl g3
    have hG : ∀ r k, r ≤ h → k ≤ w → Nr (gf g r k) r k := fun r k hr hk => by
      obtain ⟨_, _, _, _, _, _, z⟩ := hg3.row (r := r) (by omega)
      obtain ⟨_, _, _, z⟩ := z k hk
      exact z
    -- the cells
    dsimp only
    refine seq_gen (fun σ' H' => ∃ (fl : Addr) (xs : List V) (ts : List T9) (v5 v6 v7 v8 v9 v10 v11 v12 v13 v14 : Option V), σ' = [some (.ref pl), some (.int (w : Int)), some (.int (h : Int)), some (.ref rl), some (.ref fl), v5, v6, v7, v8, v9, v10, v11, v12, v13, v14] ∧ But pl H H' ∧ PoolAt pl H' ∧ H' fl = some (.lst xs) ∧ fl ≠ pl ∧ EachTh H' xs ts ∧ OkTs ts ∧ 2 ≤ ts.length ∧ ts.length ≤ 16) (fun N hN => ?_) ?_
    · refine ⟨_, rfl, _, rfl, by omega, by omega, ?_⟩
      refine for_range (lo := 0) (n := (h : Int).toNat) (fun i σ' H' => ∃ (fl : Addr) (xs : List V) (ts : List T9) (v5 v6 v7 v8 v9 v10 v11 v12 v13 v14 : Option V), σ' = [some (.ref pl), some (.int (w : Int)), some (.int (h : Int)), some (.ref rl), some (.ref fl), v5, v6, v7, v8, v9, v10, v11, v12, v13, v14] ∧ But pl H H' ∧ PoolAt pl H' ∧ GridAt pl rl g w H' ∧ H' fl = some (.lst xs) ∧ fl ≠ pl ∧ EachTh H' xs ts ∧ MInv g w i 0 ts ∧ 2 * i ≤ ts.length ∧ ts.length ≤ 8 * i)
        ⟨fl, [], [], _, _, _, _, _, _, _, _, _, _, rfl, b3, p3, hg3, hfl, nf, EachTh.nil, MInv.nil, by simp, by simp⟩ ?_ ?_
      case refine_2 =>
        rintro σ H' ⟨fl, xs, ts, v5, v6, v7, v8, v9, v10, v11, v12, v13, v14, rfl, b4, p4, hg4, hf4, nf4, hE, hM, l1, l2⟩
        exact hN _ _ ⟨fl, xs, ts, _, _, _, _, _, _, _, _, _, _, rfl, b4, p4, hf4, nf4, hE, hM.ok, by omega, by omega⟩
      rintro i σ H4 hi ⟨fl0, xs0, ts0, v5, v6, v7, v8, v9, v10, v11, v12, v13, v14, rfl, b4, p4, hg4, hf4, nf4, hE4, hM4, l1, l2⟩
      refine ⟨_, rfl, _, rfl, by omega, by omega, ?_⟩
      refine for_range (lo := 0) (n := (w : Int).toNat) (fun j σ' H' => ∃ (fl : Addr) (xs : List V) (ts : List T9) (v6 v7 v8 v9 v10 v11 v12 v13 v14 : Option V), σ' = [some (.ref pl), some (.int (w : Int)), some (.int (h : Int)), some (.ref rl), some (.ref fl), some (.int (0 + (i : Int))), v6, v7, v8, v9, v10, v11, v12, v13, v14] ∧ But pl H H' ∧ PoolAt pl H' ∧ GridAt pl rl g w H' ∧ H' fl = some (.lst xs) ∧ fl ≠ pl ∧ EachTh H' xs ts ∧ MInv g w i j ts ∧ 2 * i + 2 * j ≤ ts.length ∧ ts.length ≤ 8 * i + 4 * j)
        ⟨fl0, xs0, ts0, _, _, _, _, _, _, _, _, _, rfl, b4, p4, hg4, hf4, nf4, hE4, hM4, by omega, by omega⟩ ?_ ?_
      case refine_2 =>
        rintro σ H' ⟨fl, xs, ts, v6, v7, v8, v9, v10, v11, v12, v13, v14, rfl, b5, p5, hg5, hf5, nf5, hE5, hM5, l1, l2⟩
        have ew : ((w : Int).toNat) = w := by omega
        rw [ew] at hM5 l1 l2
        exact ⟨fl, xs, ts, _, _, _, _, _, _, _, _, _, _, rfl, b5, p5, hg5, hf5, nf5, hE5, hM5.row, by omega, by omega⟩
      rintro j σ H5 hj ⟨fl, xs, ts, v6, v7, v8, v9, v10, v11, v12, v13, v14, rfl, b5, p5, hg5, hf5, nf5, hE5, hM5, l1, l2⟩
      obtain ⟨rows, lo, vlo, hrl, hlo, hvlo, klo⟩ := hg5.row (r := i) (by omega)
      obtain ⟨rows', up, vup, hrl', hup, hvup, kup⟩ := hg5.row (r := i + 1) (by omega)
      have er : rows' = rows := by
        rw [hrl] at hrl'
        injection hrl' with z
        injection z with z
        exact z.symm
      subst er
      obtain ⟨qa, ka, ta, na⟩ := klo j (by omega)
      obtain ⟨qb, kb, tb, nb⟩ := klo (j + 1) (by omega)
      obtain ⟨qc, kc, tc, nc⟩ := kup (j + 1) (by omega)
      obtain ⟨qd, kd, td, nd⟩ := kup j (by omega)
      -- low, up
      refine ⟨_, rfl, _, rfl, rl, _, _, _, rfl, rfl, SqL.of hrl, (show atI rows' (0 + (i : Int)) = some (.ref lo) by rw [Int.zero_add]; exact atI_nat hlo), _, rfl, _, rfl, _, _, rfl, rfl, rl, _, _, _, rfl, rfl, SqL.of hrl, (show atI rows' (0 + (i : Int) + 1) = some (.ref up) by rw [Int.zero_add]; exact atI_nat (j := i + 1) hup), _, _, rfl, ?_⟩
      -- a, b
      refine ⟨_, rfl, _, rfl, lo, _, _, _, rfl, rfl, SqL.of hvlo, (show atI vlo (0 + (j : Int)) = some (.ref qa) by rw [Int.zero_add]; exact atI_nat ka), _, rfl, _, rfl, _, _, rfl, rfl, lo, _, _, _, rfl, rfl, SqL.of hvlo, (show atI vlo (0 + (j : Int) + 1) = some (.ref qb) by rw [Int.zero_add]; exact atI_nat (j := j + 1) kb), _, _, rfl, ?_⟩
      -- c, d
      refine ⟨_, rfl, _, rfl, _, _, rfl, rfl, up, _, _, _, rfl, rfl, SqL.of hvup, (show atI vup (0 + (j : Int) + 1) = some (.ref qc) by rw [Int.zero_add]; exact atI_nat (j := j + 1) kc), _, rfl, _, rfl, up, _, _, _, rfl, rfl, SqL.of hvup, (show atI vup (0 + (j : Int)) = some (.ref qd) by rw [Int.zero_add]; exact atI_nat kd), _, _, rfl, ?_⟩
      have sA := nr_sm na (by omega) (by omega)
      have sB := nr_sm nb (by omega) (by omega)
      have sC := nr_sm nc (by omega) (by omega)
      have sD := nr_sm nd (by omega) (by omega)
      have o1 : 0 < sd (gf g i j) (gf g i (j + 1)) (gf g (i + 1) (j + 1)) := riU na nb nc (.inr rfl)
      have o2 : 0 < sd (gf g i j) (gf g (i + 1) (j + 1)) (gf g (i + 1) j) := by
        have := upR na nd nc (.inr rfl)
        rw [sd_flip]
        omega
      have o3 : 0 < sd (gf g i j) (gf g i (j + 1)) (gf g (i + 1) j) := riU na nb nd (.inl rfl)
      have o4 : 0 < sd (gf g i (j + 1)) (gf g (i + 1) (j + 1)) (gf g (i + 1) j) := upL nb nc nd (.inr rfl)
      -- two
      dsimp only
      refine seq_gen (fun σ' H' => ∃ (tw l1 l2 : Addr) (t1 t2 : T9), σ' = [some (.ref pl), some (.int (w : Int)), some (.int (h : Int)), some (.ref rl), some (.ref fl), some (.int (0 + (i : Int))), some (.int (0 + (j : Int))), some (.ref lo), some (.ref up), some (.ref qa), some (.ref qb), some (.ref qc), some (.ref qd), some (.ref tw), v14] ∧ Same H5 H' ∧ H' tw = some (.lst [.ref l1, .ref l2]) ∧ IsTh H' (.ref l1) t1 ∧ IsTh H' (.ref l2) t2 ∧ (0 < sd t1.1 t1.2.1 t1.2.2 ∧ SmT t1) ∧ (0 < sd t2.1 t2.2.1 t2.2.2 ∧ SmT t2) ∧ ∀ ts us, Parts [t1.1, t1.2.1, t1.2.2] ts → Parts [t2.1, t2.2.1, t2.2.2] us → Parts (corn (gf g) i j) (ts ++ us)) (fun N hN => ?_) ?_
      · refine ⟨_, rfl, _, rfl, _, rfl, (by show 3 ≤ sizeLine; decide), fun m1 n1 => ⟨_, rfl, _, rfl, _, rfl, (by show 3 ≤ sizeLine; decide), fun m2 n2 => ⟨(by show 2 ≤ sizeLine; decide), fun tw ntw => ?_⟩⟩⟩
        have g1 := same_new (o := .lst [V.ref qa, V.ref qb, V.ref qc]) n1
        have g2 := same_new (o := .lst [V.ref qa, V.ref qc, V.ref qd]) n2
        have g3 := same_new (o := .lst [V.ref m1, V.ref m2]) ntw
        have g23 := g2.trans g3
        have gA := g1.trans g23
        exact hN _ _ ⟨tw, m1, m2, (gf g i j, gf g i (j + 1), gf g (i + 1) (j + 1)), (gf g i j, gf g (i + 1) (j + 1), gf g (i + 1) j), rfl, gA, upd_same, ⟨m1, qa, qb, qc, rfl, g23 _ _ upd_same, ⟨gA _ _ ta, gA _ _ tb, gA _ _ tc⟩⟩, ⟨m2, qa, qc, qd, rfl, g3 _ _ upd_same, ⟨gA _ _ ta, gA _ _ tc, gA _ _ td⟩⟩, ⟨o1, sA, sB, sC⟩, ⟨o2, sA, sC, sD⟩, fun ts us h1 h2 => cell1 na nb nc nd h1 h2⟩
      rintro σ H6 ⟨tw0, k1, k2, t10, t20, rfl, e6, htw0, i10, i20, o10, o20, pt0⟩
      refine seq_gen (fun σ' H' => ∃ (tw l1 l2 : Addr) (t1 t2 : T9), σ' = [some (.ref pl), some (.int (w : Int)), some (.int (h : Int)), some (.ref rl), some (.ref fl), some (.int (0 + (i : Int))), some (.int (0 + (j : Int))), some (.ref lo), some (.ref up), some (.ref qa), some (.ref qb), some (.ref qc), some (.ref qd), some (.ref tw), v14] ∧ But pl H5 H' ∧ PoolAt pl H' ∧ H' tw = some (.lst [.ref l1, .ref l2]) ∧ IsTh H' (.ref l1) t1 ∧ IsTh H' (.ref l2) t2 ∧ (0 < sd t1.1 t1.2.1 t1.2.2 ∧ SmT t1) ∧ (0 < sd t2.1 t2.2.1 t2.2.2 ∧ SmT t2) ∧ ∀ ts us, Parts [t1.1, t1.2.1, t1.2.2] ts → Parts [t2.1, t2.2.1, t2.2.2] us → Parts (corn (gf g) i j) (ts ++ us)) (fun N hN => ?_) ?_
      · refine ⟨_, rfl, pl, 2, rfl, p5.ex e6, by decide, by decide, fun r H7 r0 r1 b7 p7 => ⟨rfl, _, rfl, ?_⟩⟩
        have b67 := (But.of (p := pl) e6).trans b7
        refine ite2 (fun _ => ?_) (fun _ => ?_)
        · have ta7 := b67 _ _ (tup_ne p5 ta) ta
          have tb7 := b67 _ _ (tup_ne p5 tb) tb
          have tc7 := b67 _ _ (tup_ne p5 tc) tc
          have td7 := b67 _ _ (tup_ne p5 td) td
          refine ⟨_, rfl, _, rfl, _, rfl, (by show 3 ≤ sizeLine; decide), fun m1 n1 => ⟨_, rfl, _, rfl, _, rfl, (by show 3 ≤ sizeLine; decide), fun m2 n2 => ⟨(by show 2 ≤ sizeLine; decide), fun tw ntw => ?_⟩⟩⟩
          have g1 := same_new (o := .lst [V.ref qa, V.ref qb, V.ref qd]) n1
          have g2 := same_new (o := .lst [V.ref qb, V.ref qc, V.ref qd]) n2
          have g3 := same_new (o := .lst [V.ref m1, V.ref m2]) ntw
          have g23 := g2.trans g3
          have gA := g1.trans g23
          exact hN _ _ ⟨tw, m1, m2, (gf g i j, gf g i (j + 1), gf g (i + 1) j), (gf g i (j + 1), gf g (i + 1) (j + 1), gf g (i + 1) j), rfl, b67.trans (But.of gA), p7.ex gA, upd_same, ⟨m1, qa, qb, qd, rfl, g23 _ _ upd_same, ⟨gA _ _ ta7, gA _ _ tb7, gA _ _ td7⟩⟩, ⟨m2, qb, qc, qd, rfl, g3 _ _ upd_same, ⟨gA _ _ tb7, gA _ _ tc7, gA _ _ td7⟩⟩, ⟨o3, sA, sB, sD⟩, ⟨o4, sB, sC, sD⟩, fun ts us h1 h2 => cell2 na nb nc nd h1 h2⟩
        · obtain ⟨pi, pj, hpp, _⟩ := id (p5.ex e6)
          exact hN _ _ ⟨tw0, k1, k2, t10, t20, rfl, b67, p7, b7 _ _ (ne_of htw0 hpp (by intro z; cases z)) htw0, i10.butP (p5.ex e6) b7, i20.butP (p5.ex e6) b7, o10, o20, pt0⟩
      rintro σ H7 ⟨tw, m1, m2, t1, t2, rfl, b7, p7, htw, i1, i2, o1', o2', pt⟩
      have hf7 := b7 _ _ nf5 hf5
      have hE7 := hE5.butP p5 b7
      have hg7 := hg5.butP p5 b7
      have tp : tw ≠ pl := by
        obtain ⟨pi, pj, hpp, _⟩ := id p7
        exact ne_of htw hpp (by intro z; cases z)
      -- found
      refine ⟨_, rfl, _, rfl, _, rfl, tw, _, _, _, rfl, rfl, SqL.of htw, atI_nat (j := 0) rfl, pl, .ref m1, t1.1, t1.2.1, t1.2.2, rfl, p7, i1, o1'.1, o1'.2.1, o1'.2.2.1, o1'.2.2.2, fun s1 xs1 ts1 H8 b8 p8 hs1 hE1 P1 n11 n12 => ?_⟩
      have hx7 := hE7.1
      have hx1 := hE1.1
      refine ⟨fl, s1, _, _, rfl, rfl, b8 _ _ nf5 hf7, hs1, Nat.le_trans (by omega : _ ≤ 100) (by decide), fun c1 nc1 => ?_⟩
      have g9 := same_new (o := .lst (xs ++ xs1)) nc1
      have p9 := p8.ex g9
      have b9 := b8.trans (But.of g9)
      have hE9 := ((hE7.butP p7 b8).append hE1).ex g9
      have cp := p8.ne nc1
      refine ⟨_, rfl, _, rfl, tw, _, _, _, rfl, rfl, SqL.of (b9 _ _ tp htw), atI_nat (j := 1) rfl, pl, .ref m2, t2.1, t2.2.1, t2.2.2, rfl, p9, i2.butP p7 b9, o2'.1, o2'.2.1, o2'.2.2.1, o2'.2.2.2, fun s2 xs2 ts2 H10 b10 p10 hs2 hE2 P2 n21 n22 => ?_⟩
      have hx2 := hE2.1
      refine ⟨c1, s2, _, _, rfl, rfl, b10 _ _ cp upd_same, hs2, Nat.le_trans (by rw [List.length_append]; omega : _ ≤ 100) (by decide), fun c2 nc2 => ?_⟩
      have g11 := same_new (o := .lst (xs ++ xs1 ++ xs2)) nc2
      have b11 := b9.trans (b10.trans (But.of g11))
      have hEE := ((hE9.butP p9 b10).append hE2).ex g11
      rw [List.append_assoc ts] at hEE
      have M' := hM5.step hG (by omega) (by omega) h2 w2 (pt ts1 ts2 P1 P2)
      refine ⟨c2, _, ts ++ (ts1 ++ ts2), _, _, _, _, _, _, _, _, _, rfl, b5.trans (b7.trans b11), p10.ex g11, hg7.butP p7 b11, upd_same, p10.ne nc2, hEE, M', ?_, ?_⟩
      · rw [List.length_append, List.length_append]
        omega
      · rw [List.length_append, List.length_append]
        omega
    rintro σ H4 ⟨fl4, xs, ts, v5, v6, v7, v8, v9, v10, v11, v12, v13, v14, rfl, b4, p4, hf4, nf4, hE4, hO4, l1, l2⟩
    -- gone
    have hx := hE4.1
    refine ⟨_, rfl, _, rfl, fl4, _, rfl, .inl (SqL.of hf4), _, _, rfl, rfl, .inl ⟨by decide, by decide⟩, pl, 3 * (xs.length : Int), rfl, p4, by omega, by omega, fun gn H5 g0 g1 b5 p5 => ?_⟩
    have hf5 := b5 _ _ nf4 hf4
    have hE5 := hE4.butP p4 b5
    refine ⟨_, rfl, fl4, _, rfl, .inl (SqL.of hf5), _, rfl, by omega, by omega, fun D0 nD => ?_⟩
    refine lc_range (lo := 0) (n := ((xs.length : Int)).toNat) (fun j H' => Same H5 H' ∧ ∃ (ys : List V) (us : List T9), H' D0 = some (.lst ys) ∧ ys.length ≤ j ∧ EachTh H5 ys us ∧ us.Sublist (ts.take j))
      ⟨same_new nD, [], [], upd_same, Nat.le_refl _, EachTh.nil, List.nil_sublist _⟩ ?_ ?_
    · rintro j H6 hj ⟨e6, ys, us, hD, yl, hEy, sb⟩
      have hj' : j < xs.length := by omega
      obtain ⟨y, hy⟩ : ∃ y, xs[j]? = some y := ⟨_, List.getElem?_eq_getElem hj'⟩
      obtain ⟨t, ht, iy⟩ := hE5.2 j y hy
      have htk : ts.take (j + 1) = ts.take j ++ [t] := by
        rw [List.take_add_one, ht]
        rfl
      refine ⟨rfl, ?_⟩
      refine ⟨_, rfl, _, rfl, rfl, _, rfl, ?_⟩
      refine ite2 (fun _ => ?_) (fun _ => ?_)
      · refine ⟨_, rfl, _, rfl, fl4, _, _, _, rfl, rfl, SqL.of (e6 _ _ hf5), (show atI xs (0 + (j : Int)) = some y by rw [Int.zero_add]; exact atI_nat hy), ?_⟩
        refine ⟨ys, hD, Nat.lt_of_lt_of_le (by omega : ys.length < 100) (by decide), But.upd.same nD e6, ys ++ [y], us ++ [t], upd_same, by rw [List.length_append]; simp; exact yl, hEy.snoc iy, ?_⟩
        rw [htk]
        exact sb.append (List.Sublist.refl _)
      · refine ⟨e6, ys, us, hD, by omega, hEy, ?_⟩
        rw [htk]
        exact sb.trans (List.sublist_append_left _ _)
    · rintro H6 ⟨e6, ys, us, hD, yl, hEy, sb⟩
      have sb' : us.Sublist ts := sb.trans (List.take_sublist _ _)
      exact k D0 ys us H6 (b4.trans (b5.trans (But.of e6))) (p5.ex e6) hD (p5.ne nD) (hEy.ex e6) (hO4.sub sb') (Nat.le_trans sb'.length_le l2)
end
end Fo
set_option Elab.async false
set_option linter.all false
set_option maxRecDepth 100000
set_option maxHeartbeats 2000000
namespace Fo
open PySem L2
abbrev sLaid : Stmt := top 40
abbrev sLSum : Stmt := top 41
abbrev sLSame : Stmt := top 42
/-- a Triangle whose tips are not the list D -/
def IsTD (C CT D : Addr) (v : V) (t : T9) (H : Hp) : Prop := ∃ q dx l v1 v2 v3, v = .ref q ∧ H q = some (.ins CT dx (tipF l)) ∧ H l = some (.lst [v1, v2, v3]) ∧ l ≠ D ∧ Three C v1 v2 v3 t.1 t.2.1 t.2.2 H
theorem IsTD.ex {C CT D : Addr} {v : V} {t : T9} {H H' : Hp} (e : Same H H') (h : IsTD C CT D v t H) : IsTD C CT D v t H' := by
  obtain ⟨q, dx, l, v1, v2, v3, rfl, h1, h2, n, h3⟩ := h
  exact ⟨q, dx, l, v1, v2, v3, rfl, e _ _ h1, e _ _ h2, n, h3.ex e⟩
theorem IsTD.but {C CT D : Addr} {v : V} {t : T9} {H H' : Hp} {ys : List V} (hD : H D = some (.lst ys)) (e : But D H H') (h : IsTD C CT D v t H) : IsTD C CT D v t H' := by
  obtain ⟨q, dx, l, v1, v2, v3, rfl, h1, h2, n, h3⟩ := h
  exact ⟨q, dx, l, v1, v2, v3, rfl, e _ _ (ne_of h1 hD (by intro z; cases z)) h1, e _ _ n h2, n, h3.1.but hD e, h3.2.1.but hD e, h3.2.2.but hD e⟩
theorem IsTD.t {C CT D : Addr} {v : V} {t : T9} {H : Hp} (h : IsTD C CT D v t H) : IsT C CT v t.1 t.2.1 t.2.2 H := by
  obtain ⟨q, dx, l, v1, v2, v3, rfl, h1, h2, n, h3⟩ := h
  exact ⟨q, dx, l, v1, v2, v3, rfl, h1, h2, h3⟩
/-- no Triangle is a Point -/
theorem tri_pt {C CT D : Addr} {v : V} {t : T9} {x y : Int} {H : Hp} (h : IsTD C CT D v t H) (h' : IsP C v x y H) : False := by
  obtain ⟨q, dx, l, v1, v2, v3, rfl, h1, _⟩ := h
  obtain ⟨a, da, e, h2⟩ := h'
  cases e
  rw [h1] at h2
  injection h2 with h2
  injection h2 with _ _ h3
  have h4 := congrArg (List.lookup ("tips" : Str)) h3
  rw [tipF_tips, ptF_no _ _ (by decide +kernel) (by decide +kernel)] at h4
  cases h4
def spLaid (C CT CM : Addr) : Sp := fun vs H Q _ => ∃ (l : Addr) (xs : List V) (ts : List T9), vs = [.ref l] ∧ H l = some (.lst xs) ∧ EachTh H xs ts ∧ OkTs ts ∧ ts.length ≤ 16 ∧ ∀ v H', Same H H' → IsM C CT CM v ts H' → Q v H'
def spLSum : Sp := fun vs H Q _ => ∃ (q1 q2 : Addr) (p1 p2 : I2), vs = [.ref q1, .ref q2] ∧ Tp H q1 p1 ∧ Tp H q2 p2 ∧ Sm2 1000 p1 ∧ Sm2 1000 p2 ∧ ∀ q H', Same H H' → Tp H' q (p1.1 * p2.2 + p2.1 * p1.2, p1.2 * p2.2) → Q (.ref q) H'
def spLSame : Sp := fun vs H Q _ => ∃ (q1 q2 : Addr) (p1 p2 : I2), vs = [.ref q1, .ref q2] ∧ Tp H q1 p1 ∧ Tp H q2 p2 ∧ Sm2 3000 p1 ∧ Sm2 3000 p2 ∧ Q (.bl (decide (V.int (p1.1 * p2.2) = V.int (p2.1 * p1.2)))) H
section
variable {P : Program} {w : World} {K : PySem.W.Frag} {mg : Str → Option Value} {base : Heap}
variable {C fW fI fP fA fO CT fS fTI fCo fEd fAr fEq fAd pAr CM fCu fAp fMI fMT : Addr} {fdW fdI fdP fdA fdO fdS fdTI fdCo fdEd fdAr fdEq fdAd fdCu fdAp fdMI fdMT : FuncData}
theorem scLaid : FnScope ["threes", "three"] ["threes"] (defScope sLaid) := ⟨rfl, rfl, rfl, by decide +kernel, rfl, by decide +kernel, by decide +kernel⟩
theorem ok_laid {f : Addr} {fd : FuncData} (F : Fun K "_law_laid" "_law_laid" sLaid f fd) (M : MDefs K mg CM fCu fAp fMI fMT fdCu fdAp fdMI fdMT) (d' : TDefs K mg C CT fS fTI fCo fEd fAr fEq fAd pAr fdS fdTI fdCo fdEd fdAr fdEq fdAd) (D : Defs K mg C fW fI fP fA fO fdW fdI fdP fdA fdO) :
    FnOk P w K mg base CX0 12 f fd ["threes"] (spLaid C CT CM) := by
  have GTI : FnOk P w K mg base CX0 8 fTI fdTI ["self", "a", "b", "c"] (spTInit C CT) := d'.GTI D
  have GMI : FnOk P w K mg base CX0 10 fMI fdMI ["self", "triangles"] (spMInit C CT CM) := ok_mInit M d' D
  refine F.ok scLaid (fun vs H Q E h => ?_) (fun cdv A outer s H vs Q E hr h => ?_)
  · obtain ⟨l, xs, ts, rfl, _⟩ := h
    rfl
  · obtain ⟨l, xs, ts, rfl, hl, hE, hO, hn, k⟩ := h
    have hr9 : Room 9 _ := hr.mono (by decide)
    refine ⟨_, pss_one (ps_ret (pe_make M.MM GMI hr rfl M.mgM M.bMI .nil pass0 (pa_cons
      (pe_lc (own := [("three", 1)]) (g := gName 1) (tt := tYes) rfl scLaid.nd (pi_list (pv 0)) (blkOk_by (own := [("three", 1)]) (N := ["threes", "three"]) (sc := defScope sLaid) (by decide +kernel)) (fun _ _ _ _ _ => pg_name (i := 1) scLaid.nd rfl (Or.inl rfl)) (fun _ _ _ _ _ => pts_nil)
        (fun _ _ _ _ _ => pe_make d'.MT GTI hr9 rfl d'.TT.mgT d'.bTI .nil pass0 (pa_cons (pe_ix (r := rIxL K) ix_list (pv 1) pe_int (fun _ _ => rfl)) (pa_cons (pe_ix (r := rIxL K) ix_list (pv 1) pe_int (fun _ _ => rfl)) (pa_cons (pe_ix (r := rIxL K) ix_list (pv 1) pe_int (fun _ _ => rfl)) pa_nil))))) pa_nil))), ?_⟩
    refine ⟨_, rfl, l, rfl, ⟨_, SqL.of hl⟩, fun D0 nD => ?_⟩
    refine lc_list (K := K) (a := l) (xs := xs) (fun i H' => Same H H' ∧ ∃ vs : List V, H' D0 = some (.lst vs) ∧ vs.length = i ∧ ∀ (j : Nat) (v : V), vs[j]? = some v → ∃ t : T9, ts[j]? = some t ∧ IsTD C CT D0 v t H') ?_ ?_ ?_ ?_
    · exact ⟨same_new nD, [], upd_same, rfl, fun j v h => by simp at h⟩
    · rintro i H' _ ⟨e, _⟩
      exact e.seq (SqL.of hl)
    · rintro i x H' hx ⟨e, vs, hv, hlen, hR⟩
      have hi : i < xs.length := (List.getElem?_eq_some_iff.mp hx).1
      obtain ⟨t, ht, lq, q1, q2, q3, rfl, hlq, t3⟩ := hE.2 i x hx
      have hlq' := e _ _ hlq
      have t3' := t3.ex e
      have ot := hO.1 t (List.mem_of_getElem? ht)
      refine ⟨rfl, ?_⟩
      unfold tYes
      dsimp only
      rw [if_pos rfl]
      refine ⟨_, rfl, lq, _, _, _, rfl, rfl, SqL.of hlq', atI_nat (j := 0) rfl, _, rfl, lq, _, _, _, rfl, rfl, SqL.of hlq', atI_nat (j := 1) rfl, _, rfl, lq, _, _, _, rfl, rfl, SqL.of hlq', atI_nat (j := 2) rfl, fun tx dx nx nd ne => ?_⟩
      have g1 : Same H' (upd (upd H' dx (.own tx)) tx (.ins CT dx [])) := (same_new nd).trans (same_new (by rw [upd_ne ne.symm]; exact nx))
      have hT0 := ot.1
      refine ⟨6, tx, dx, .ref q1, .ref q2, .ref q3, t.1, t.2.1, t.2.2, rfl, upd_same, ⟨q1, rfl, .inr (g1 _ _ t3'.a)⟩, ⟨q2, rfl, .inr (g1 _ _ t3'.b)⟩, ⟨q3, rfl, .inr (g1 _ _ t3'.c)⟩, by decide, ot.2.1, ot.2.2.1, ot.2.2.2, by omega, fun l' v1 v2 v3 H2 bt hx' hl' ht' => ⟨rfl, ?_⟩⟩
      have eb : onB t.1 t.2.1 t.2.2 = t.2.1 := by unfold onB; rw [if_pos hT0]
      have ec : onC t.1 t.2.1 t.2.2 = t.2.2 := by unfold onC; rw [if_pos hT0]
      rw [eb, ec] at ht'
      have e2 := But.same nx g1 bt
      have hv2 := e2 _ _ hv
      have nl : l' ≠ D0 := fun z => by
        rw [z, hv2] at hl'
        injection hl' with hl'
        injection hl' with hl'
        subst hl'
        obtain ⟨t', _, h'⟩ := hR 0 v1 rfl
        exact tri_pt (h'.ex e2) ht'.1
      have hNew : IsTD C CT D0 (.ref tx) t H2 := ⟨tx, dx, l', v1, v2, v3, rfl, hx', hl', nl, ht'⟩
      refine ⟨vs, hv2, Nat.lt_of_lt_of_le (by rw [hE.1] at hi; omega : vs.length < 100) (by decide), But.upd.same nD (e.trans e2), vs ++ [.ref tx], upd_same, by rw [List.length_append, hlen]; rfl, fun j v hj => ?_⟩
      rcases get_snoc hj with hj | ⟨rfl, rfl⟩
      · obtain ⟨t', h1, h2⟩ := hR j v hj
        exact ⟨t', h1, (h2.ex e2).but hv2 But.upd⟩
      · exact ⟨t, by rw [hlen]; exact ht, hNew.but hv2 But.upd⟩
    · rintro H1 ⟨e, vs, hv, hlen, hR⟩
      refine fun mx dx nx nd ne => ?_
      have g1 : Same H1 (upd (upd H1 dx (.own mx)) mx (.ins CM dx [])) := (same_new nd).trans (same_new (by rw [upd_ne ne.symm]; exact nx))
      have hEE : EachT C CT H1 vs ts := ⟨by rw [hlen]; exact hE.1, fun i v hv' => by
        obtain ⟨t, h1, h2⟩ := hR i v hv'
        exact ⟨t, h1, h2.t⟩⟩
      refine ⟨mx, dx, D0, vs, ts, rfl, upd_same, g1 _ _ hv, hEE.ex g1, by omega, fun t ht => (hO.1 t ht).2, hO.2, fun l' H2 bt hm hl' => ⟨rfl, ?_⟩⟩
      have e2 := But.same nx g1 bt
      exact k _ _ (e.trans e2) ⟨mx, dx, l', vs, rfl, hm, hl', hEE.ex e2⟩
theorem scLSum : FnScope ["one", "other"] ["one", "other"] (defScope sLSum) := ⟨rfl, rfl, rfl, by decide +kernel, rfl, by decide +kernel, by decide +kernel⟩
theorem ok_lsum {f : Addr} {fd : FuncData} (F : Fun K "_law_sum" "_law_sum" sLSum f fd) : FnOk P w K mg base CX0 1 f fd ["one", "other"] spLSum := by
  refine F.ok scLSum (fun vs H Q E h => ?_) (fun cdv A outer s H vs Q E hr h => ?_)
  · obtain ⟨q1, q2, p1, p2, rfl, _⟩ := h
    rfl
  · obtain ⟨q1, q2, p1, p2, rfl, h1, h2, s1, s2, k⟩ := h
    refine ⟨_, pss_one (ps_ret (pe_tup (pa_cons (pe_op op_add (pe_op op_mulW (pe_ix ix_tup (pv 0) pe_int (fun _ _ => rfl)) (pe_ix ix_tup (pv 1) pe_int (fun _ _ => rfl))) (pe_op op_mulW (pe_ix ix_tup (pv 1) pe_int (fun _ _ => rfl)) (pe_ix ix_tup (pv 0) pe_int (fun _ _ => rfl))))
      (pa_cons (pe_op op_mulW (pe_ix ix_tup (pv 0) pe_int (fun _ _ => rfl)) (pe_ix ix_tup (pv 1) pe_int (fun _ _ => rfl))) pa_nil)))), ?_⟩
    refine ⟨_, rfl, q1, _, _, _, rfl, rfl, SqT.of h1, atI_nat (j := 0) rfl, _, rfl, q2, _, _, _, rfl, rfl, SqT.of h2, atI_nat (j := 1) rfl, _, _, rfl, rfl, wide_mul s1.1 s2.2 (by decide) (by decide) (by decide), ?_⟩
    refine ⟨_, rfl, q2, _, _, _, rfl, rfl, SqT.of h2, atI_nat (j := 0) rfl, _, rfl, q1, _, _, _, rfl, rfl, SqT.of h1, atI_nat (j := 1) rfl, _, _, rfl, rfl, wide_mul s2.1 s1.2 (by decide) (by decide) (by decide), _, _, rfl, rfl, ?_⟩
    refine ⟨_, rfl, q1, _, _, _, rfl, rfl, SqT.of h1, atI_nat (j := 1) rfl, _, rfl, q2, _, _, _, rfl, rfl, SqT.of h2, atI_nat (j := 1) rfl, _, _, rfl, rfl, wide_mul s1.2 s2.2 (by decide) (by decide) (by decide), (by show 2 ≤ sizeLine; decide), fun q nq => ?_⟩
    exact k q _ (same_new nq) upd_same
theorem scLSame : FnScope ["one", "other"] ["one", "other"] (defScope sLSame) := ⟨rfl, rfl, rfl, by decide +kernel, rfl, by decide +kernel, by decide +kernel⟩
theorem ok_lsame {f : Addr} {fd : FuncData} (F : Fun K "_law_same" "_law_same" sLSame f fd) : FnOk P w K mg base CX0 1 f fd ["one", "other"] spLSame := by
  refine F.ok scLSame (fun vs H Q E h => ?_) (fun cdv A outer s H vs Q E hr h => ?_)
  · obtain ⟨q1, q2, p1, p2, rfl, _⟩ := h
    rfl
  · obtain ⟨q1, q2, p1, p2, rfl, h1, h2, s1, s2, k⟩ := h
    refine ⟨_, pss_one (ps_ret (pe_cmpR op_eq (pe_op op_mulW (pe_ix ix_tup (pv 0) pe_int (fun _ _ => rfl)) (pe_ix ix_tup (pv 1) pe_int (fun _ _ => rfl))) (pe_op op_mulW (pe_ix ix_tup (pv 1) pe_int (fun _ _ => rfl)) (pe_ix ix_tup (pv 0) pe_int (fun _ _ => rfl))) (nomark _))), ?_⟩
    refine ⟨_, rfl, q1, _, _, _, rfl, rfl, SqT.of h1, atI_nat (j := 0) rfl, _, rfl, q2, _, _, _, rfl, rfl, SqT.of h2, atI_nat (j := 1) rfl, _, _, rfl, rfl, wide_mul s1.1 s2.2 (by decide) (by decide) (by decide), ?_⟩
    refine ⟨_, rfl, q2, _, _, _, rfl, rfl, SqT.of h2, atI_nat (j := 0) rfl, _, rfl, q1, _, _, _, rfl, rfl, SqT.of h1, atI_nat (j := 1) rfl, _, _, rfl, rfl, wide_mul s2.1 s1.2 (by decide) (by decide) (by decide), rfl, ?_⟩
    exact k
end
end Fo
set_option Elab.async false
set_option linter.all false
set_option maxRecDepth 100000
set_option maxHeartbeats 2000000
namespace Fo
open PySem L2
/-! ### the mathematics of values -/
theorem gcd_facts {T A : Int} (hA : 0 < A) : 0 < A / (Int.gcd T A : Int) ∧ T / (Int.gcd T A : Int) * A = T * (A / (Int.gcd T A : Int)) ∧ ∀ m : Int, 2 ≤ m → ¬ (T / (Int.gcd T A : Int) % m = 0 ∧ A / (Int.gcd T A : Int) % m = 0) := by
  have h0 : 0 < Int.gcd T A := Int.gcd_pos_of_ne_zero_right _ (by omega)
  have hg : (0 : Int) < (Int.gcd T A : Int) := by omega
  obtain ⟨t, ht⟩ : (Int.gcd T A : Int) ∣ T := Int.gcd_dvd_left ..
  obtain ⟨a, ha⟩ : (Int.gcd T A : Int) ∣ A := Int.gcd_dvd_right ..
  have e1 : T / (Int.gcd T A : Int) = t := by
    conv => lhs; arg 1; rw [ht]
    exact Int.mul_ediv_cancel_left _ (by omega)
  have e2 : A / (Int.gcd T A : Int) = a := by
    conv => lhs; arg 1; rw [ha]
    exact Int.mul_ediv_cancel_left _ (by omega)
  rw [e1, e2]
  refine ⟨?_, ?_, ?_⟩
  · apply Int.not_le.mp
    intro h
    have : (Int.gcd T A : Int) * a ≤ 0 := Int.mul_nonpos_of_nonneg_of_nonpos (by omega) h
    omega
  · have h1 : t * A = t * ((Int.gcd T A : Int) * a) := congrArg (t * ·) ha
    have h2 : T * a = (Int.gcd T A : Int) * t * a := congrArg (· * a) ht
    rw [h1, h2, Int.mul_left_comm, Int.mul_assoc]
  · rintro m m2 ⟨h1, h2⟩
    have d1 : m ∣ t := Int.dvd_of_emod_eq_zero h1
    have d2 : m ∣ a := Int.dvd_of_emod_eq_zero h2
    have d3 : (Int.gcd T A : Int) * m ∣ T := by
      obtain ⟨u, rfl⟩ := d1
      exact ⟨u, by rw [Int.mul_assoc]; exact ht⟩
    have d4 : (Int.gcd T A : Int) * m ∣ A := by
      obtain ⟨u, rfl⟩ := d2
      exact ⟨u, by rw [Int.mul_assoc]; exact ha⟩
    have d5 : (Int.gcd T A : Int) * m ∣ (Int.gcd T A : Int) := Int.dvd_coe_gcd d3 d4
    have d6 := Int.le_of_dvd hg d5
    have d7 : (Int.gcd T A : Int) * 2 ≤ (Int.gcd T A : Int) * m := Int.mul_le_mul_of_nonneg_left m2 (by omega)
    omega
theorem gcd_whole {A r : Int} (hA : 0 < A) : A * r / (Int.gcd (A * r) A : Int) = r ∧ A / (Int.gcd (A * r) A : Int) = 1 := by
  have e : (Int.gcd (A * r) A : Int) = A := by
    rw [Int.gcd_eq_natAbs_right ⟨r, rfl⟩]
    omega
  rw [e]
  exact ⟨Int.mul_ediv_cancel_left _ (by omega), Int.ediv_self (by omega)⟩
theorem wsum (a b c p : I2) : sd b c p + (sd c a p + (sd a b p + 0)) = sd a b c := by
  unfold sd sideI
  grind
theorem tot_a (a b c : I2) (x y z : Int) : tot a b c a x y z = sd a b c * x := by
  unfold tot sd sideI
  grind
theorem tot_b (a b c : I2) (x y z : Int) : tot a b c b x y z = sd a b c * y := by
  unfold tot sd sideI
  grind
def onL (a b : I2) (m : Int) : I2 := (a.1 + m * (b.1 - a.1), a.2 + m * (b.2 - a.2))
def opp (a b c : I2) : I2 := (a.1 + b.1 - c.1, a.2 + b.2 - c.2)
theorem tot_l (a b c : I2) (m x y z : Int) : tot a b c (onL a b m) x y z = sd a b c * (x + m * (y - x)) := by
  unfold tot sd sideI onL
  grind
theorem sd_opp (a b c : I2) : sd b a (opp a b c) = sd a b c := by
  unfold sd sideI opp
  grind
theorem tot_o (a b c : I2) (m x y z : Int) : tot b a (opp a b c) (onL a b m) y x z = sd a b c * (x + m * (y - x)) := by
  unfold tot sd sideI onL opp
  grind
theorem Sm.of {n : Nat} {x : Int} {m : Nat} (h0 : -(m : Int) ≤ x) (h1 : x ≤ m) (h : m < 2 ^ n) : Sm n x := by
  unfold Sm
  omega
theorem div_sm {n : Nat} {x g : Int} (h : Sm n x) (hg : 0 < g) (d : g ∣ x) : Sm n (x / g) := by
  unfold Sm at *
  obtain ⟨t, rfl⟩ := d
  rw [Int.mul_ediv_cancel_left _ (by omega)]
  rw [Int.natAbs_mul] at h
  have : t.natAbs ≤ g.natAbs * t.natAbs := Nat.le_mul_of_pos_left _ (by omega)
  omega
theorem tot_sm {n k : Nat} {a b c p : I2} {x y z : Int} (sa : Sm2 n a) (sb : Sm2 n b) (sc : Sm2 n c) (sp : Sm2 n p) (sx : Sm k x) (sy : Sm k y) (sz : Sm k z) : Sm ((2 * n + 3 + k) + 1 + 1) (tot a b c p x y z) := by
  have h1 : Sm (2 * n + 3 + k) (sd b c p * x) := wide_lt (sd_sm sb sc sp) sx
  have h2 : Sm (2 * n + 3 + k) (sd c a p * y) := wide_lt (sd_sm sc sa sp) sy
  have h3 : Sm (2 * n + 3 + k) (sd a b p * z) := wide_lt (sd_sm sa sb sp) sz
  unfold tot
  rw [Int.add_zero]
  exact (h1.up (Nat.le_add_right _ 1)).add (h2.add h3)
end Fo
set_option Elab.async false
set_option linter.all false
set_option maxRecDepth 100000
set_option maxHeartbeats 2000000
namespace Fo
open PySem L2
/-! ### values are even -/
/-- what value_at answers -/
def frac (T A : Int) : I2 := (T / (Int.gcd T A : Int), A / (Int.gcd T A : Int))
theorem frac_eq {T A : Int} (h : 0 < A) : (frac T A).1 * A = T * (frac T A).2 := (gcd_facts h).2.1
theorem frac_pos {T A : Int} (h : 0 < A) : 0 < (frac T A).2 := (gcd_facts h).1
theorem frac_whole {A r : Int} (h : 0 < A) : frac (A * r) A = (r, 1) := Prod.ext (gcd_whole h).1 (gcd_whole h).2
theorem frac_sm {n : Nat} {T A : Int} (h : 0 < A) (sT : Sm n T) (sA : Sm n A) : Sm2 n (frac T A) := by
  have f0 : (0 : Int) < (Int.gcd T A : Int) := by
    have := Int.gcd_pos_of_ne_zero_right T (show A ≠ 0 by omega)
    omega
  exact ⟨div_sm sT f0 (Int.gcd_dvd_left ..), div_sm sA f0 (Int.gcd_dvd_right ..)⟩
theorem cancel {A x y : Int} (h : 0 < A) (e : A * x = A * y) : x = y := Int.eq_of_mul_eq_mul_left (by omega) e
/-- the sum of two -/
theorem frac_add {A T1 T2 : Int} (h : 0 < A) : (frac (T1 + T2) A).1 * ((frac T1 A).2 * (frac T2 A).2) = ((frac T1 A).1 * (frac T2 A).2 + (frac T2 A).1 * (frac T1 A).2) * (frac (T1 + T2) A).2 := by
  have e1 := frac_eq (T := T1) h
  have e2 := frac_eq (T := T2) h
  have e3 := frac_eq (T := T1 + T2) h
  generalize (frac T1 A).1 = u1 at *
  generalize (frac T1 A).2 = v1 at *
  generalize (frac T2 A).1 = u2 at *
  generalize (frac T2 A).2 = v2 at *
  generalize (frac (T1 + T2) A).1 = u3 at *
  generalize (frac (T1 + T2) A).2 = v3 at *
  apply cancel h
  grind
/-- a multiple -/
theorem frac_mul {A T m : Int} (h : 0 < A) : (frac (T * m) A).1 * (frac T A).2 = (frac T A).1 * m * (frac (T * m) A).2 := by
  have e1 := frac_eq (T := T) h
  have e3 := frac_eq (T := T * m) h
  generalize (frac T A).1 = u1 at *
  generalize (frac T A).2 = v1 at *
  generalize (frac (T * m) A).1 = u3 at *
  generalize (frac (T * m) A).2 = v3 at *
  apply cancel h
  grind
/-- between 0 and 1 -/
theorem frac_in {A T : Int} (h : 0 < A) : (0 ≤ (frac T A).1 ∧ (frac T A).1 ≤ (frac T A).2) ↔ (0 ≤ T ∧ T ≤ A) := by
  have e1 := frac_eq (T := T) h
  have p := frac_pos (T := T) h
  generalize (frac T A).1 = u at *
  generalize (frac T A).2 = v at *
  constructor
  · rintro ⟨a, b⟩
    have h1 : 0 ≤ u * A := Int.mul_nonneg a (by omega)
    have h2 : u * A ≤ v * A := Int.mul_le_mul_of_nonneg_right b (by omega)
    constructor
    · apply Int.not_lt.mp
      intro z
      have : T * v < 0 := Int.mul_neg_of_neg_of_pos z p
      omega
    · apply Int.not_lt.mp
      intro z
      have : A * v < T * v := Int.mul_lt_mul_of_pos_right z p
      have := Int.mul_comm v A
      omega
  · rintro ⟨a, b⟩
    have h1 : 0 ≤ T * v := Int.mul_nonneg a (by omega)
    have h2 : T * v ≤ A * v := Int.mul_le_mul_of_nonneg_right b (by omega)
    constructor
    · apply Int.not_lt.mp
      intro z
      have : u * A < 0 := Int.mul_neg_of_neg_of_pos z h
      omega
    · apply Int.not_lt.mp
      intro z
      have : v * A < u * A := Int.mul_lt_mul_of_pos_right z h
      have := Int.mul_comm v A
      omega
theorem tot_add (a b c p : I2) (x y z x' y' z' : Int) : tot a b c p (x + x') (y + y') (z + z') = tot a b c p x y z + tot a b c p x' y' z' := by
  unfold tot
  grind
theorem tot_mul (a b c p : I2) (x y z m : Int) : tot a b c p (x * m) (y * m) (z * m) = tot a b c p x y z * m := by
  unfold tot
  grind
theorem tot_7 (a b c p : I2) : tot a b c p 7 7 7 = sd a b c * 7 := by
  unfold tot sd sideI
  grind
theorem tot_1 (a b c p : I2) : tot a b c p 1 0 0 = sd b c p := by unfold tot; omega
theorem tot_2 (a b c p : I2) : tot a b c p 0 1 0 = sd c a p := by unfold tot; omega
theorem tot_3 (a b c p : I2) : tot a b c p 0 0 1 = sd a b p := by unfold tot; omega
def lin (m n r : Int) (p : I2) : Int := m * p.1 + n * p.2 + r
theorem tot_lin (a b c p : I2) (m n r : Int) : tot a b c p (lin m n r a) (lin m n r b) (lin m n r c) = sd a b c * lin m n r p := by
  unfold tot lin sd sideI
  grind
/-- p lies within if and only if none of the three is outside of 0 and 1 -/
def outB (T A : Int) : Bool := !(decide (0 ≤ (frac T A).1) && decide ((frac T A).1 ≤ (frac T A).2))
theorem outB_eq {T A : Int} (h : 0 < A) : outB T A = !(decide (0 ≤ T) && decide (T ≤ A)) := by
  unfold outB
  have := frac_in (T := T) h
  by_cases h1 : 0 ≤ T ∧ T ≤ A
  · obtain ⟨a, b⟩ := this.mpr h1
    simp [a, b, h1]
  · have h2 : ¬ (0 ≤ (frac T A).1 ∧ (frac T A).1 ≤ (frac T A).2) := fun z => h1 (this.mp z)
    have e1 : (decide (0 ≤ T) && decide (T ≤ A)) = false := by
      rw [Bool.and_eq_false_iff]
      by_cases z : 0 ≤ T
      · exact .inr (decide_eq_false fun y => h1 ⟨z, y⟩)
      · exact .inl (decide_eq_false z)
    have e2 : (decide (0 ≤ (frac T A).1) && decide ((frac T A).1 ≤ (frac T A).2)) = false := by
      rw [Bool.and_eq_false_iff]
      by_cases z : 0 ≤ (frac T A).1
      · exact .inr (decide_eq_false fun y => h2 ⟨z, y⟩)
      · exact .inl (decide_eq_false z)
    rw [e1, e2]
theorem in_out {a b c p : I2} (h : 0 < sd a b c) : inT a b c p = (!(outB (sd b c p) (sd a b c)) && (!(outB (sd c a p) (sd a b c)) && !(outB (sd a b p) (sd a b c)))) := by
  rw [outB_eq h, outB_eq h, outB_eq h]
  have s := wsum a b c p
  unfold inT
  simp only [Bool.not_not]
  by_cases h1 : 0 ≤ sd a b p <;> by_cases h2 : 0 ≤ sd b c p <;> by_cases h3 : 0 ≤ sd c a p
  · have g1 : sd a b p ≤ sd a b c := by omega
    have g2 : sd b c p ≤ sd a b c := by omega
    have g3 : sd c a p ≤ sd a b c := by omega
    simp [h1, h2, h3, g1, g2, g3]
  all_goals simp [h1, h2, h3]
end Fo
set_option Elab.async false
set_option linter.all false
set_option maxRecDepth 100000
set_option maxHeartbeats 2000000
namespace Fo
open PySem L2
abbrev sLaw : Stmt := top 43
abbrev lawN : List Str := ["script", "k", "pool", "mesh", "m", "n", "rest", "triangle", "values", "p", "a", "b", "c", "turn", "first", "second", "many", "one", "other", "both", "lone", "outside", "parts", "corner", "x", "y", "row", "top", "bottom", "at"]
theorem scLaw : FnScope lawN ["script"] (defScope sLaw) := ⟨rfl, rfl, rfl, by decide +kernel, rfl, by decide +kernel, by decide +kernel⟩
def spLaw (K : PySem.W.Frag) : Sp := fun vs H Q _ => ∃ (a : Addr) (ns : List Int), vs = [.ref a] ∧ SqL K H a (ns.map V.int) ∧ ns.length ≤ 63 ∧ ∀ H', Q (.bl true) H'
theorem pe_fldK {X : Cx} {K : PySem.W.Frag} {e : Expr} {f : Str} {pos : Pos} {ta : TE} (hK : X.K = K) (he : PE X e ta) (hb : attributeBase e f X.env (eval e X.env) = eval e X.env) : PE X (.Attribute e f pos) (tFld K ta f) := by
  subst hK
  exact pe_fld he hb
structure LDefs (K : PySem.W.Frag) (mg : Str → Option Value) (CT fH fD fPr fLs fCn fCp fSp fLm fLd fSu fSa fTin : Addr) (fdH fdD fdPr fdLs fdCn fdCp fdSp fdLm fdLd fdSu fdSa fdTin : FuncData) : Prop where
  TL : TxtL mg
  FH : Fun K "_law_hand" "_law_hand" sHand fH fdH
  bH : Binds K fdH ["script", "k"] []
  mH : mg "_law_hand" = some (.ref fH)
  FD : Fun K "_law_draw" "_law_draw" sDraw fD fdD
  bD : Binds K fdD ["pool", "many"] []
  mD : mg "_law_draw" = some (.ref fD)
  FPr : Fun K "_law_pair" "_law_pair" sPair fPr fdPr
  bPr : Binds K fdPr ["pool", "size_here"] []
  mPr : mg "_law_pair" = some (.ref fPr)
  FLs : Fun K "_law_side" "_law_side" sLSide fLs fdLs
  bLs : Binds K fdLs ["a", "b", "p"] []
  mLs : mg "_law_side" = some (.ref fLs)
  FCn : Fun K "_law_corners" "_law_corners" sCorn fCn fdCn
  bCn : Binds K fdCn ["pool", "size_here"] []
  mCn : mg "_law_corners" = some (.ref fCn)
  FCp : Fun K "_law_corner_points" "_law_corner_points" sCP fCp fdCp
  bCp : Binds K fdCp ["pool", "wide", "high"] []
  mCp : mg "_law_corner_points" = some (.ref fCp)
  FSp : Fun K "_law_split" "_law_split" sSplit fSp fdSp
  bSp : Binds K fdSp ["pool", "three"] []
  mSp : mg "_law_split" = some (.ref fSp)
  FLm : Fun K "_law_mesh" "_law_mesh" sLMesh fLm fdLm
  bLm : Binds K fdLm ["pool"] []
  mLm : mg "_law_mesh" = some (.ref fLm)
  FLd : Fun K "_law_laid" "_law_laid" sLaid fLd fdLd
  bLd : Binds K fdLd ["threes"] []
  mLd : mg "_law_laid" = some (.ref fLd)
  FSu : Fun K "_law_sum" "_law_sum" sLSum fSu fdSu
  bSu : Binds K fdSu ["one", "other"] []
  mSu : mg "_law_sum" = some (.ref fSu)
  FSa : Fun K "_law_same" "_law_same" sLSame fSa fdSa
  bSa : Binds K fdSa ["one", "other"] []
  mSa : mg "_law_same" = some (.ref fSa)
  FTin : Fun K "__contains__" "Triangle.__contains__" sTIn fTin fdTin
  bTin : Binds K fdTin ["self", "x"] []
  oTin : OwnIn K CT fTin
theorem sh_self {d : PyData} (h : SeqAt.shaped d = true) : PyData.eqv d d = true := by
  unfold SeqAt.shaped at h
  rw [Bool.and_eq_true] at h
  exact SeqAt.eqv_refl _ h.1
theorem shT2 (n m : Int) : SeqAt.shaped (.tuple [.int n, .int m]) = true := by
  show (PyData.canLay0 (.tuple [.int n, .int m]) && decide (PyData.depth (.tuple [.int n, .int m]) ≤ 64)) = true
  simp [PyData.canLay0, PyData.canLayAll0, PyData.depth, PyData.depthAll]
theorem shT3 (n m k : Int) : SeqAt.shaped (.tuple [.int n, .int m, .int k]) = true := by
  show (PyData.canLay0 (.tuple [.int n, .int m, .int k]) && decide (PyData.depth (.tuple [.int n, .int m, .int k]) ≤ 64)) = true
  simp [PyData.canLay0, PyData.canLayAll0, PyData.depth, PyData.depthAll]
theorem shL3 (n m k : Int) : SeqAt.shaped (.list [.int n, .int m, .int k]) = true := by
  show (PyData.canLay0 (.list [.int n, .int m, .int k]) && decide (PyData.depth (.list [.int n, .int m, .int k]) ≤ 64)) = true
  simp [PyData.canLay0, PyData.canLayAll0, PyData.depth, PyData.depthAll]
theorem on1 {a b c : I2} (h : 0 < sd a b c) : onB a b c = b ∧ onC a b c = c := by
  unfold onB onC
  rw [if_pos h, if_pos h]
  exact ⟨rfl, rfl⟩
theorem IsP.butP {C pl : Addr} {v : V} {x y : Int} {H H' : Hp} (p : PoolAt pl H) (b : But pl H H') (h : IsP C v x y H) : IsP C v x y H' := by
  obtain ⟨i, j, hp, _⟩ := p
  exact h.but hp b
theorem IsT.butP {C CT pl : Addr} {v : V} {a b c : I2} {H H' : Hp} (p : PoolAt pl H) (bt : But pl H H') (h : IsT C CT v a b c H) : IsT C CT v a b c H' := by
  obtain ⟨t, dx, l, v1, v2, v3, rfl, h1, h2, h3⟩ := h
  obtain ⟨i, j, hp, r⟩ := id p
  have n1 : t ≠ pl := ne_of h1 hp (by intro z; cases z)
  have n2 : l ≠ pl := fun e => by
    rw [e, hp] at h2
    injection h2 with h2
    injection h2 with h2
    injection h2 with _ h2
    injection h2 with _ h2
    cases h2
  exact ⟨t, dx, l, v1, v2, v3, rfl, bt _ _ n1 h1, bt _ _ n2 h2, h3.1.butP p bt, h3.2.1.butP p bt, h3.2.2.butP p bt⟩
theorem smP {z : Int} (z0 : -9 ≤ z) (z1 : z ≤ 9) : Sm 5 z := by
  unfold Sm
  omega
/-- numbers in a row -/
def NL (vs : List V) : Prop := ∀ (i : Nat) (v : V), vs[i]? = some v → ∃ z : Int, v = .int z ∧ Sm 100 z
theorem NL.snoc {vs : List V} {z : Int} (h : NL vs) (s : Sm 100 z) : NL (vs ++ [.int z]) := fun i v hv => by
  by_cases hi : i < vs.length
  · rw [List.getElem?_append_left hi] at hv
    exact h i v hv
  · rw [List.getElem?_append_right (by omega)] at hv
    match e : i - vs.length, hv with
    | 0, hv =>
      cases hv
      exact ⟨z, rfl, s⟩
    | k + 1, hv => simp at hv
theorem NL.three {vs : List V} (h : NL vs) (l : vs.length = 3) : ∃ x y z : Int, vs = [.int x, .int y, .int z] ∧ Sm 100 x ∧ Sm 100 y ∧ Sm 100 z := by
  obtain ⟨a, b, c, rfl⟩ := len3' l
  obtain ⟨x, rfl, sx⟩ := h 0 _ rfl
  obtain ⟨y, rfl, sy⟩ := h 1 _ rfl
  obtain ⟨z, rfl, sz⟩ := h 2 _ rfl
  exact ⟨x, y, z, rfl, sx, sy, sz⟩
theorem EachT.butP {C CT pl : Addr} {H H' : Hp} {xs : List V} {ts : List T9} (p : PoolAt pl H) (e : But pl H H') (h : EachT C CT H xs ts) : EachT C CT H' xs ts := ⟨h.1, fun i v hv => by
  obtain ⟨t, h1, h2⟩ := h.2 i v hv
  exact ⟨t, h1, h2.butP p e⟩⟩
theorem IsM.butP {C CT CM pl : Addr} {v : V} {ts : List T9} {H H' : Hp} (p : PoolAt pl H) (e : But pl H H') (h : IsM C CT CM v ts H) : IsM C CT CM v ts H' := by
  obtain ⟨m, dx, l, xs, rfl, h1, h2, h3⟩ := h
  obtain ⟨i, j, hp, _⟩ := id p
  have n2 : l ≠ pl := fun z => by
    rw [z, hp] at h2
    injection h2 with h2
    injection h2 with h2
    subst h2
    obtain ⟨t, _, q, _, _, _, _, _, z1, _⟩ := h3.2 0 _ rfl
    cases z1
  exact ⟨m, dx, l, xs, rfl, e _ _ (ne_of h1 hp (by intro z; cases z)) h1, e _ _ n2 h2, h3.butP p e⟩
theorem dp_rep {K : PySem.W.Frag} {H : Hp} : ∀ n : Nat, DpAll K H (List.replicate n (V.int 1)) (List.replicate n (PyData.int 1))
  | 0 => .nil
  | n + 1 => by
    rw [List.replicate_succ, List.replicate_succ]
    exact .cons (.int 1) (dp_rep n)
theorem rep_eqv {n : Nat} (h : n ≤ 3) : PyData.eqv (.list (List.replicate n (PyData.int 1))) (.list []) = decide (n = 0) ∧ SeqAt.shaped (.list (List.replicate n (PyData.int 1))) = true := by
  have : n = 0 ∨ n = 1 ∨ n = 2 ∨ n = 3 := by omega
  rcases this with rfl | rfl | rfl | rfl <;> exact ⟨by decide +kernel, by decide +kernel⟩
theorem sm10 {z : Int} (z0 : -500 ≤ z) (z1 : z ≤ 500) : Sm 10 z := by
  have h : (500 : Nat) < 2 ^ 10 := by decide
  unfold Sm
  omega
theorem sm100 {x : Int} (h1 : -1000000000000000000000000000100 ≤ x) (h2 : x ≤ 1000000000000000000000000000100) : Sm 100 x := by
  have h : (1000000000000000000000000000100 : Nat) < 2 ^ 100 := by decide
  unfold Sm
  omega
theorem p20 : (10 : Int) ^ (20 : Int).toNat = 100000000000000000000 := by decide
theorem lin_sm {m n r : Int} {p : I2} (sm : Sm 10 m) (sn : Sm 10 n) (sr : Sm 100 r) (sp : Sm2 10 p) : Sm 102 (lin m n r p) := by
  have h1 : Sm (10 + 10) (m * p.1) := wide_lt sm sp.1
  have h2 : Sm (10 + 10) (n * p.2) := wide_lt sn sp.2
  exact (((h1.up (by decide : _ ≤ 100)).add (h2.up (by decide : _ ≤ 100)))).add (sr.up (by decide))
/-- what stands while a case is asked -/
structure St (C CT : Addr) (pl tr fl sl : Addr) (a b c : I2) (x y z x' y' z' : Int) (H : Hp) : Prop where
  pool : PoolAt pl H
  tri : IsT C CT (.ref tr) a b c H
  fst : H fl = some (.lst [.int x, .int y, .int z])
  snd : H sl = some (.lst [.int x', .int y', .int z'])
  nf : fl ≠ pl
  ns : sl ≠ pl
section
variable {C CT pl tr fl sl : Addr} {a b c : I2} {x y z x' y' z' : Int} {H H' : Hp}
theorem St.ex (s : St C CT pl tr fl sl a b c x y z x' y' z' H) (e : Same H H') : St C CT pl tr fl sl a b c x y z x' y' z' H' :=
  ⟨s.pool.ex e, s.tri.ex e, e _ _ s.fst, e _ _ s.snd, s.nf, s.ns⟩
theorem St.but (s : St C CT pl tr fl sl a b c x y z x' y' z' H) (b' : But pl H H') (p : PoolAt pl H') : St C CT pl tr fl sl a b c x y z x' y' z' H' :=
  ⟨p, s.tri.butP s.pool b', b' _ _ s.nf s.fst, b' _ _ s.ns s.snd, s.nf, s.ns⟩
end
section
variable {P : Program} {w : World} {K : PySem.W.Frag} {mg : Str → Option Value} {base : Heap}
variable {C fW fI fP fA fO CT fS fTI fCo fEd fAr fEq fAd pAr CI fII fG fWe fCk fVa CM fCu fAp fMI fMT fH fD fPr fLs fCn fCp fSp fLm fLd fSu fSa fTin : Addr} {fdW fdI fdP fdA fdO fdS fdTI fdCo fdEd fdAr fdEq fdAd fdG fdWe fdCk fdVa fdCu fdAp fdMI fdMT fdH fdD fdPr fdLs fdCn fdCp fdSp fdLm fdLd fdSu fdSa fdTin : FuncData}
theorem ok_law {f : Addr} {fd : FuncData} (F : Fun K "law" "law" sLaw f fd) (D : Defs K mg C fW fI fP fA fO fdW fdI fdP fdA fdO) (d : TDefs K mg C CT fS fTI fCo fEd fAr fEq fAd pAr fdS fdTI fdCo fdEd fdAr fdEq fdAd) (Vd : VDefs K mg fG fWe fCk fVa fdG fdWe fdCk fdVa)
    (M : MDefs K mg CM fCu fAp fMI fMT fdCu fdAp fdMI fdMT) (TX : TxtX P K mg C CI fII) (L : LDefs K mg CT fH fD fPr fLs fCn fCp fSp fLm fLd fSu fSa fTin fdH fdD fdPr fdLs fdCn fdCp fdSp fdLm fdLd fdSu fdSa fdTin) : FnOk P w K mg base CX0 13 f fd ["script"] (spLaw K) := by
  have GVa : FnOk P w K mg base CX0 10 fVa fdVa ["triangle", "values", "point"] (spVal C CT) := ok_val D d Vd
  have GWe : FnOk P w K mg base CX0 8 fWe fdWe ["triangle", "point"] (spWei C CT) := ok_wei D d Vd
  have GAr : FnOk P w K mg base CX0 8 fAr fdAr ["self"] (spArea C CT) := d.GAr D
  have GTI : FnOk P w K mg base CX0 8 fTI fdTI ["self", "a", "b", "c"] (spTInit C CT) := d.GTI D
  have GTin : FnOk P w K mg base CX0 8 fTin fdTin ["self", "x"] (spTIn C CT) := ok_tin L.FTin d D TX
  have GCo : FnOk P w K mg base CX0 1 fCo fdCo ["self"] (spCorners C CT) := d.GCo
  have GI : FnOk P w K mg base CX0 2 fI fdI ["self", "x", "y"] (spInit C) := D.GI
  have GH : FnOk P w K mg base CX0 1 fH fdH ["script", "k"] (spHand K) := ok_hand L.FH L.TL
  have GD : FnOk P w K mg base CX0 1 fD fdD ["pool", "many"] spDraw := ok_draw L.FD L.TL
  have GPr : FnOk P w K mg base CX0 2 fPr fdPr ["pool", "size_here"] spPair := ok_pair L.FPr L.TL L.FD L.bD L.mD
  have GCn : FnOk P w K mg base CX0 3 fCn fdCn ["pool", "size_here"] spCorn := ok_corn L.FCn L.TL L.FD L.bD L.mD L.FPr L.bPr L.mPr L.FLs L.bLs L.mLs
  have GLm : FnOk P w K mg base CX0 3 fLm fdLm ["pool"] spLMesh := ok_lmesh L.FLm L.TL L.FD L.bD L.mD L.FCp L.bCp L.mCp L.FSp L.bSp L.mSp
  have GLd : FnOk P w K mg base CX0 12 fLd fdLd ["threes"] (spLaid C CT CM) := ok_laid L.FLd M d D
  have GMT : FnOk P w K mg base CX0 1 fMT fdMT ["self"] (spMTris C CT CM) := ok_mTris M
  have GSu : FnOk P w K mg base CX0 1 fSu fdSu ["one", "other"] spLSum := ok_lsum L.FSu
  have GSa : FnOk P w K mg base CX0 1 fSa fdSa ["one", "other"] spLSame := ok_lsame L.FSa
  refine F.ok scLaw (fun vs H Q E h => ?_) (fun cdv A outer s H vs Q E hr hq => ?_)
  · obtain ⟨a, ns, rfl, _⟩ := h
    rfl
  · obtain ⟨sa, ns, rfl, hS, hlen, k⟩ := hq
    have hr10 : Room 10 _ := hr.mono (by decide)
    have hr9 : Room 9 _ := hr.mono (by decide)
    have hr8 : Room 8 _ := hr.mono (by decide)
    have hr3 : Room 3 _ := hr.mono (by decide)
    have hr2 : Room 2 _ := hr.mono (by decide)
    have hr1 : Room 1 _ := hr.mono (by decide)
    refine ⟨_, pss_cons (ps_for PassesOwn.never rfl (pi_range1 rfl L.TL.range (pa_cons (pe_callB (call_max2 rfl) (by rfl) L.TL.max (by decide +kernel) (pa_cons pe_int (pa_cons (pe_callB (call_min2 rfl) (by rfl) L.TL.min (by decide +kernel) (pa_cons (pe_callB call_len_seq (by rfl) L.TL.len PySem.boot_len (pa_cons (pv 0) pa_nil)) (pa_cons pe_int pa_nil))) pa_nil))) pa_nil)) (pg_name (i := 1) scLaw.nd rfl (Or.inl rfl))
        (pss_cons (ps_set (i := 2) scLaw.nd rfl (Or.inr rfl) (pe_call GH hr1 rfl L.mH L.FH.kp L.bH .nil pass0 (pa_cons (pv 0) (pa_cons (pv 1) pa_nil))))
        (pss_cons (ps_set (i := 3) scLaw.nd rfl (Or.inl rfl) (pe_call GLd hr rfl L.mLd L.FLd.kp L.bLd .nil pass0 (pa_cons (pe_call GLm hr3 rfl L.mLm L.FLm.kp L.bLm .nil pass0 (pa_cons (pv 2) pa_nil)) pa_nil)))
        (pss_cons (ps_asg (pe_tup (pa_cons (pe_op op_sub (pe_call GD hr1 rfl L.mD L.FD.kp L.bD .nil pass0 (pa_cons (pv 2) (pa_cons pe_int pa_nil))) pe_int) (pa_cons (pe_op op_sub (pe_call GD hr1 rfl L.mD L.FD.kp L.bD .nil pass0 (pa_cons (pv 2) (pa_cons pe_int pa_nil))) pe_int) (pa_cons (pe_op op_sub (pe_op op_pow pe_int pe_int) (pe_call GD hr1 rfl L.mD L.FD.kp L.bD .nil pass0 (pa_cons (pv 2) (pa_cons pe_int pa_nil)))) pa_nil)))) (pg_tup rfl (pgs_cons (pg_name (i := 4) scLaw.nd rfl (Or.inr rfl)) (pgs_cons (pg_name (i := 5) scLaw.nd rfl (Or.inr rfl)) (pgs_cons (pg_name (i := 6) scLaw.nd rfl (Or.inr rfl)) pgs_nil)))))
        (pss_cons (ps_for PassesOwn.never rfl (pi_list (pe_meth0 (pv 3) M.cl M.mMT GMT hr1 M.bMT .nil pass0)) (pg_name (i := 7) scLaw.nd rfl (Or.inr rfl))
        (pss_cons (ps_setLc (i := 8) (own := [("corner", 23)]) (g := gName 23) (tt := tYes) rfl scLaw.nd rfl rfl (sw_true rfl rfl rfl (by decide +kernel)) (pi_list (pe_meth0 (pv 7) d.TT.cl d.mCo GCo hr1 d.bCo .nil pass0)) (blkOk_by (own := [("corner", 23)]) (N := lawN) (sc := defScope sLaw) (by decide +kernel)) (fun _ _ _ _ _ => (pg_name (i := 23) scLaw.nd rfl (Or.inl rfl))) (fun _ _ _ _ _ => pts_nil) (fun _ _ _ _ _ => (pe_op op_add (pe_op op_add (pe_op op_mulW (pv 4) (pe_fldK (K := K) rfl (pv 23) rfl)) (pe_op op_mulW (pv 5) (pe_fldK (K := K) rfl (pv 23) rfl))) (pv 6))))
        (pss_cons (ps_set (i := 9) scLaw.nd rfl (Or.inr rfl) (pe_call GPr hr2 rfl L.mPr L.FPr.kp L.bPr .nil pass0 (pa_cons (pv 2) (pa_cons pe_int pa_nil))))
        (pss_one (ps_if (pt_cmpR (op_neD hr.units) (pe_call GVa hr10 rfl Vd.mVa Vd.FVa.kp Vd.bVa .nil pass0 (pa_cons (pv 7) (pa_cons (pv 8) (pa_cons (pv 9) pa_nil)))) (pe_tup (pa_cons (pe_op op_add (pe_op op_add (pe_op op_mulW (pv 4) (pe_ix (r := rIxT K) ix_tup (pv 9) pe_int (fun _ _ => rfl))) (pe_op op_mulW (pv 5) (pe_ix (r := rIxT K) ix_tup (pv 9) pe_int (fun _ _ => rfl)))) (pv 6)) (pa_cons pe_int pa_nil))) (nomark _)) (pss_one (ps_ret pe_bl)) pss_nil)))))
        (pss_cons (ps_asg (pe_call GCn hr3 rfl L.mCn L.FCn.kp L.bCn .nil pass0 (pa_cons (pv 2) (pa_cons pe_int pa_nil))) (pg_unl rfl (pgs_cons (pg_name (i := 10) scLaw.nd rfl (Or.inl rfl)) (pgs_cons (pg_name (i := 11) scLaw.nd rfl (Or.inl rfl)) (pgs_cons (pg_name (i := 12) scLaw.nd rfl (Or.inl rfl)) pgs_nil)))))
        (pss_cons (ps_set (i := 7) scLaw.nd rfl (Or.inr rfl) (pe_make d.MT GTI hr9 rfl d.TT.mgT d.bTI .nil pass0 (pa_cons (pv 10) (pa_cons (pv 11) (pa_cons (pv 12) pa_nil)))))
        (pss_cons (ps_setLc (i := 14) (own := [("turn", 13)]) (g := gName 13) (tt := tYes) rfl scLaw.nd rfl rfl (sw_true rfl rfl rfl (by decide +kernel)) (pi_range1 rfl L.TL.range (pa_cons pe_int pa_nil)) (blkOk_by (own := [("turn", 13)]) (N := lawN) (sc := defScope sLaw) (by decide +kernel)) (fun _ _ _ _ _ => (pg_name (i := 13) scLaw.nd rfl (Or.inl rfl))) (fun _ _ _ _ _ => pts_nil) (fun _ _ _ _ _ => (pe_op op_sub (pe_call GD hr1 rfl L.mD L.FD.kp L.bD .nil pass0 (pa_cons (pv 2) (pa_cons pe_int pa_nil))) pe_int)))
        (pss_cons (ps_setLc (i := 15) (own := [("turn", 13)]) (g := gName 13) (tt := tYes) rfl scLaw.nd rfl rfl (sw_true rfl rfl rfl (by decide +kernel)) (pi_range1 rfl L.TL.range (pa_cons pe_int pa_nil)) (blkOk_by (own := [("turn", 13)]) (N := lawN) (sc := defScope sLaw) (by decide +kernel)) (fun _ _ _ _ _ => (pg_name (i := 13) scLaw.nd rfl (Or.inl rfl))) (fun _ _ _ _ _ => pts_nil) (fun _ _ _ _ _ => (pe_op op_sub (pe_call GD hr1 rfl L.mD L.FD.kp L.bD .nil pass0 (pa_cons (pv 2) (pa_cons pe_int pa_nil))) pe_int)))
        (pss_cons (ps_set (i := 16) scLaw.nd rfl (Or.inr rfl) (pe_op op_sub (pe_call GD hr1 rfl L.mD L.FD.kp L.bD .nil pass0 (pa_cons (pv 2) (pa_cons pe_int pa_nil))) pe_int))
        (pss_one (ps_for PassesOwn.never rfl (pi_range1 rfl L.TL.range (pa_cons pe_int pa_nil)) (pg_name (i := 13) scLaw.nd rfl (Or.inl rfl))
        (pss_cons (ps_set (i := 9) scLaw.nd rfl (Or.inr rfl) (pe_call GPr hr2 rfl L.mPr L.FPr.kp L.bPr .nil pass0 (pa_cons (pv 2) (pa_cons pe_int pa_nil))))
        (pss_cons (ps_par (i := 17) (j := 18) (by rfl) scLaw.nd rfl rfl (by decide) rfl rfl (pa_cons (pe_call GVa hr10 rfl Vd.mVa Vd.FVa.kp Vd.bVa .nil pass0 (pa_cons (pv 7) (pa_cons (pv 14) (pa_cons (pv 9) pa_nil)))) (pa_cons (pe_call GVa hr10 rfl Vd.mVa Vd.FVa.kp Vd.bVa .nil pass0 (pa_cons (pv 7) (pa_cons (pv 15) (pa_cons (pe_make D.M GI hr3 rfl D.T.mgC D.bI .nil pass0 (pa_cons (pe_ix (r := rIxT K) ix_tup (pv 9) pe_int (fun _ _ => rfl)) (pa_cons (pe_ix (r := rIxT K) ix_tup (pv 9) pe_int (fun _ _ => rfl)) pa_nil))) pa_nil)))) pa_nil)) (by rfl))
        (pss_cons (ps_set (i := 19) scLaw.nd rfl (Or.inl rfl) (pe_call GVa hr10 rfl Vd.mVa Vd.FVa.kp Vd.bVa .nil pass0 (pa_cons (pv 7) (pa_cons (pe_lc (own := [("x", 24), ("y", 25)]) (g := gTup K 2 (gCons (gName 24) (gCons (gName 25) gNil))) (tt := tYes) rfl scLaw.nd (pi_zip (by rfl) Vd.T.zip (pa_cons (pv 14) (pa_cons (pv 15) pa_nil))) (blkOk_by (own := [("x", 24), ("y", 25)]) (N := lawN) (sc := defScope sLaw) (by decide +kernel)) (fun _ _ _ _ _ => (pg_tup rfl (pgs_cons (pg_name (i := 24) scLaw.nd rfl (Or.inl rfl)) (pgs_cons (pg_name (i := 25) scLaw.nd rfl (Or.inl rfl)) pgs_nil)))) (fun _ _ _ _ _ => pts_nil) (fun _ _ _ _ _ => (pe_op op_add (pv 24) (pv 25)))) (pa_cons (pv 9) pa_nil)))))
        (pss_cons (ps_if (pt_not (pt_val (pe_call GSa hr1 rfl L.mSa L.FSa.kp L.bSa .nil pass0 (pa_cons (pv 19) (pa_cons (pe_call GSu hr1 rfl L.mSu L.FSu.kp L.bSu .nil pass0 (pa_cons (pv 17) (pa_cons (pv 18) pa_nil))) pa_nil))))) (pss_one (ps_ret pe_bl)) pss_nil)
        (pss_cons (ps_if (pt_not (pt_val (pe_call GSa hr1 rfl L.mSa L.FSa.kp L.bSa .nil pass0 (pa_cons (pe_call GVa hr10 rfl Vd.mVa Vd.FVa.kp Vd.bVa .nil pass0 (pa_cons (pv 7) (pa_cons (pe_lc (own := [("x", 24)]) (g := gName 24) (tt := tYes) rfl scLaw.nd (pi_list (pv 14)) (blkOk_by (own := [("x", 24)]) (N := lawN) (sc := defScope sLaw) (by decide +kernel)) (fun _ _ _ _ _ => (pg_name (i := 24) scLaw.nd rfl (Or.inl rfl))) (fun _ _ _ _ _ => pts_nil) (fun _ _ _ _ _ => (pe_op op_mulW (pv 24) (pv 16)))) (pa_cons (pv 9) pa_nil)))) (pa_cons (pe_tup (pa_cons (pe_op op_mulW (pe_ix (r := rIxT K) ix_tup (pv 17) pe_int (fun _ _ => rfl)) (pv 16)) (pa_cons (pe_ix (r := rIxT K) ix_tup (pv 17) pe_int (fun _ _ => rfl)) pa_nil))) pa_nil))))) (pss_one (ps_ret pe_bl)) pss_nil)
        (pss_cons (ps_if (pt_cmpR (op_neD hr.units) (pe_call GVa hr10 rfl Vd.mVa Vd.FVa.kp Vd.bVa .nil pass0 (pa_cons (pv 7) (pa_cons (pe_lst (pa_cons pe_int (pa_cons pe_int (pa_cons pe_int pa_nil)))) (pa_cons (pv 9) pa_nil)))) (pe_tup (pa_cons pe_int (pa_cons pe_int pa_nil))) (nomark _)) (pss_one (ps_ret pe_bl)) pss_nil)
        (pss_cons (ps_set (i := 20) scLaw.nd rfl (Or.inr rfl) (pe_lc (own := [("row", 26)]) (g := gName 26) (tt := tYes) rfl scLaw.nd (pi_list (pe_lst (pa_cons (pe_lst (pa_cons pe_int (pa_cons pe_int (pa_cons pe_int pa_nil)))) (pa_cons (pe_lst (pa_cons pe_int (pa_cons pe_int (pa_cons pe_int pa_nil)))) (pa_cons (pe_lst (pa_cons pe_int (pa_cons pe_int (pa_cons pe_int pa_nil)))) pa_nil))))) (blkOk_by (own := [("row", 26)]) (N := lawN) (sc := defScope sLaw) (by decide +kernel)) (fun _ _ _ _ _ => (pg_name (i := 26) scLaw.nd rfl (Or.inl rfl))) (fun _ _ _ _ _ => pts_nil) (fun _ _ _ _ _ => (pe_call GVa hr10 rfl Vd.mVa Vd.FVa.kp Vd.bVa .nil pass0 (pa_cons (pv 7) (pa_cons (pv 26) (pa_cons (pv 9) pa_nil)))))))
        (pss_cons (ps_setLc (i := 21) (own := [("top", 27), ("bottom", 28)]) (g := gTup K 2 (gCons (gName 27) (gCons (gName 28) gNil))) rfl scLaw.nd rfl rfl (sw_true rfl rfl rfl (by decide +kernel)) (pi_list (pv 20)) (blkOk_by (own := [("top", 27), ("bottom", 28)]) (N := lawN) (sc := defScope sLaw) (by decide +kernel)) (fun _ _ _ _ _ => (pg_tup rfl (pgs_cons (pg_name (i := 27) scLaw.nd rfl (Or.inl rfl)) (pgs_cons (pg_name (i := 28) scLaw.nd rfl (Or.inl rfl)) pgs_nil)))) (fun _ _ _ _ _ => pts_one (pt_not (pt_chain op_le op_le pe_int (pv 27) (pv 28)))) (fun _ _ _ _ _ => pe_int))
        (pss_cons (ps_if (pt_cmpR op_ne (pe_cmpR (op_ownIn L.oTin GTin hr8 L.bTin pass0) (pv 9) (pv 7) (by rfl)) (pe_cmpR (op_eqD hr.units) (pv 21) (pe_lst pa_nil) (nomark _)) (nomark _)) (pss_one (ps_ret pe_bl)) pss_nil)
        (pss_cons (ps_set (i := 22) scLaw.nd rfl (Or.inr rfl) (pe_call GWe hr8 rfl Vd.mWe Vd.FWe.kp Vd.bWe .nil pass0 (pa_cons (pv 7) (pa_cons (pv 9) pa_nil))))
        (pss_one (ps_if (pt_cmpR (op_neD hr.units) (pe_lc (own := [("at", 29)]) (g := gName 29) rfl scLaw.nd (pi_range1 rfl L.TL.range (pa_cons pe_int pa_nil)) (blkOk_by (own := [("at", 29)]) (N := lawN) (sc := defScope sLaw) (by decide +kernel)) (fun _ _ _ _ _ => (pg_name (i := 29) scLaw.nd rfl (Or.inl rfl))) (fun _ _ _ _ _ => pts_one (pt_not (pt_val (pe_call GSa hr1 rfl L.mSa L.FSa.kp L.bSa .nil pass0 (pa_cons (pe_ix (r := rIxL K) ix_list (pv 20) (pv 29) (fun _ _ => rfl)) (pa_cons (pe_tup (pa_cons (pe_ix (r := rIxT K) ix_tup (pv 22) (pv 29) (fun _ _ => rfl)) (pa_cons (pe_prop (pv 7) d.TT.cl d.pAr GAr hr9 d.bAr .nil pass0 rfl) pa_nil))) pa_nil)))))) (fun _ _ _ _ _ => (pv 29))) (pe_lst pa_nil) (nomark _)) (pss_one (ps_ret pe_bl)) pss_nil))))))))))))))))))))))))
      (pss_one (ps_ret pe_bl)), ?_⟩
    -- range(max(1, min(len(script), 8)))
    refine ⟨_, rfl, sa, _, rfl, .inl hS, _, _, rfl, _, _, rfl, ?_⟩
    have hn8 : ∀ z : Int, z = (if (if (8 : Int) < ((ns.map V.int).length : Int) then (8 : Int) else ((ns.map V.int).length : Int)) > 1 then (if (8 : Int) < ((ns.map V.int).length : Int) then (8 : Int) else ((ns.map V.int).length : Int)) else 1) → 0 ≤ z ∧ z ≤ 8 := by
      intro z hz
      split at hz <;> split at hz <;> omega
    obtain ⟨n0, n8⟩ := hn8 _ rfl
    refine ⟨_, rfl, by omega, by omega, ?_⟩
    refine for_range (lo := 0) (fun i σ H' => ∃ v1 v2 v3 v4 v5 v6 v7 v8 v9 v10 v11 v12 v13 v14 v15 v16 v17 v18 v19 v20 v21 v22 v23 v24 v25 v26 v27 v28 v29 : Option V, σ = [some (.ref sa), v1, v2, v3, v4, v5, v6, v7, v8, v9, v10, v11, v12, v13, v14, v15, v16, v17, v18, v19, v20, v21, v22, v23, v24, v25, v26, v27, v28, v29] ∧ Same H H')
      ⟨_, _, _, _, _, _, _, _, _, _, _, _, _, _, _, _, _, _, _, _, _, _, _, _, _, _, _, _, _, rfl, Same.refl _⟩ ?_ ?_
    case refine_2 =>
      rintro σ H' ⟨v1, v2, v3, v4, v5, v6, v7, v8, v9, v10, v11, v12, v13, v14, v15, v16, v17, v18, v19, v20, v21, v22, v23, v24, v25, v26, v27, v28, v29, rfl, eH⟩
      exact k _
    rintro i σ H0 hi ⟨v1, v2, v3, v4, v5, v6, v7, v8, v9, v10, v11, v12, v13, v14, v15, v16, v17, v18, v19, v20, v21, v22, v23, v24, v25, v26, v27, v28, v29, rfl, eH⟩
    -- pool
    refine ⟨_, rfl, _, rfl, sa, ns, _, rfl, eH.seq hS, hlen, by omega, by omega, fun pl H1 hpl e1 p1 => ?_⟩
    clear hn8 n0 n8 hi
    -- mesh
    dsimp only
    refine seq_gen (fun σ' H' => ∃ (u1 : Option V) (ma : Addr) (ts : List T9), σ' = [some (.ref sa), u1, some (.ref pl), some (.ref ma), v4, v5, v6, v7, v8, v9, v10, v11, v12, v13, v14, v15, v16, v17, v18, v19, v20, v21, v22, v23, v24, v25, v26, v27, v28, v29] ∧ Same H0 H' ∧ PoolAt pl H' ∧ IsM C CT CM (.ref ma) ts H' ∧ OkTs ts ∧ ts.length ≤ 16) (fun N hN => ?_) ?_
    · refine ⟨_, rfl, pl, rfl, p1, fun l xs ts H2 b2 p2 hl nl hE hO ln => ⟨l, xs, ts, rfl, hl, hE, hO, ln, fun v H3 e3 hM => ?_⟩⟩
      have e2 := b2.same hpl e1
      obtain ⟨ma, _, _, _, rfl, _⟩ := id hM
      exact hN _ _ ⟨_, ma, ts, rfl, e2.trans e3, p2.ex e3, hM, hO, ln⟩
    rintro σ H2 ⟨u1, ma, ts, rfl, e2, p2, hM2, hO, ln⟩
    clear p1 e1
    -- m, n, rest
    refine seq_gen (fun σ' H' => ∃ (m n rr : Int), σ' = [some (.ref sa), u1, some (.ref pl), some (.ref ma), some (.int m), some (.int n), some (.int rr), v7, v8, v9, v10, v11, v12, v13, v14, v15, v16, v17, v18, v19, v20, v21, v22, v23, v24, v25, v26, v27, v28, v29] ∧ But pl H2 H' ∧ PoolAt pl H' ∧ Sm 10 m ∧ Sm 10 n ∧ Sm 100 rr) (fun N hN => ?_) ?_
    · refine ⟨_, rfl, pl, 19, rfl, p2, by decide, by decide, fun r1 H3 r10 r11 b3 p3 => ⟨_, _, rfl, rfl, ?_⟩⟩
      refine ⟨_, rfl, pl, 19, rfl, p3, by decide, by decide, fun r2 H4 r20 r21 b4 p4 => ⟨_, _, rfl, rfl, ?_⟩⟩
      refine ⟨_, _, rfl, rfl, ⟨by decide, by decide, by decide⟩, _, rfl, pl, 99, rfl, p4, by decide, by decide, fun r3 H5 r30 r31 b5 p5 => ⟨_, _, rfl, rfl, (by show 3 ≤ sizeLine; decide), fun tq ntq => ?_⟩⟩
      have g6 := same_new (o := .tup [V.int (r1 - 9), V.int (r2 - 9), V.int (10 ^ (20 : Int).toNat - r3)]) ntq
      refine ⟨tq, _, rfl, SqT.of upd_same, rfl, _, _, rfl, _, _, rfl, _, _, rfl, rfl, ?_⟩
      exact hN _ _ ⟨r1 - 9, r2 - 9, 10 ^ (20 : Int).toNat - r3, rfl, ((b3.trans b4).trans b5).trans (But.of g6), p5.ex g6, sm10 (by omega) (by omega), sm10 (by omega) (by omega), by rw [p20]; exact sm100 (by omega) (by omega)⟩
    rintro σ H3 ⟨m, n, rr, rfl, b3, p3, sm, sn, sr⟩
    have e3 := b3.same hpl e2
    have hM3 := hM2.butP p2 b3
    clear hM2 p2 b3 e2
    -- for triangle in mesh.triangles()
    refine seq_gen (fun σ' H' => ∃ u7 u8 u9 u23 : Option V, σ' = [some (.ref sa), u1, some (.ref pl), some (.ref ma), some (.int m), some (.int n), some (.int rr), u7, u8, u9, v10, v11, v12, v13, v14, v15, v16, v17, v18, v19, v20, v21, v22, u23, v24, v25, v26, v27, v28, v29] ∧ Same H0 H' ∧ PoolAt pl H') (fun N hN => ?_) ?_
    · obtain ⟨ma', dm, lm, xm, z0, hma, _⟩ := id hM3
      cases z0
      refine ⟨_, rfl, ma, dm, _, rfl, hma, pieF_no _ (by decide +kernel), _, ts, rfl, hM3, fun l xs H4 nl e4 hl hE => ⟨l, rfl, ⟨_, SqL.of hl⟩, ?_⟩⟩
      have lp : l ≠ pl := p3.ne nl
      refine for_list (K := K) (a := l) (xs := xs) (fun j σ' H' => ∃ u7 u8 u9 u23 : Option V, σ' = [some (.ref sa), u1, some (.ref pl), some (.ref ma), some (.int m), some (.int n), some (.int rr), u7, u8, u9, v10, v11, v12, v13, v14, v15, v16, v17, v18, v19, v20, v21, v22, u23, v24, v25, v26, v27, v28, v29] ∧ Same H0 H' ∧ PoolAt pl H' ∧ H' l = some (.lst xs) ∧ EachT C CT H' xs ts) ⟨_, _, _, _, rfl, e3.trans e4, p3.ex e4, hl, hE⟩ (fun j σ' H' _ h => by
        obtain ⟨_, _, _, _, _, _, _, h, _⟩ := h
        exact SqL.of h) ?_ ?_
      case refine_2 =>
        rintro σ H' ⟨u7, u8, u9, u23, rfl, e, p, _⟩
        exact hN _ _ ⟨_, _, _, _, rfl, e, p⟩
      rintro j v σ H5 hv ⟨u7, u8, u9, u23, rfl, e5, p5, hl5, hE5⟩
      obtain ⟨t, ht, hT5⟩ := hE5.2 j v hv
      have ot := hO.1 t (List.mem_of_getElem? ht)
      obtain ⟨ta, tb, tc⟩ := t
      obtain ⟨pos, sA, sB, sC⟩ : 0 < sd ta tb tc ∧ Sm2 6 ta ∧ Sm2 6 tb ∧ Sm2 6 tc := ot
      obtain ⟨tr, dx, lt, w1, w2, w3, rfl, htr, _⟩ := id hT5
      have sA' := sA.up (show 6 ≤ 10 by decide)
      have sB' := sB.up (show 6 ≤ 10 by decide)
      have sC' := sC.up (show 6 ≤ 10 by decide)
      -- values
      refine seq_gen (fun σ' H' => ∃ (u23 : Option V) (vl : Addr), σ' = [some (.ref sa), u1, some (.ref pl), some (.ref ma), some (.int m), some (.int n), some (.int rr), some (.ref tr), some (.ref vl), u9, v10, v11, v12, v13, v14, v15, v16, v17, v18, v19, v20, v21, v22, u23, v24, v25, v26, v27, v28, v29] ∧ Same H5 H' ∧ H5 vl = none ∧ H' vl = some (.lst [.int (lin m n rr ta), .int (lin m n rr tb), .int (lin m n rr tc)])) (fun N hN => ?_) ?_
      · refine ⟨_, rfl, tr, dx, _, rfl, htr, tipF_no _ (by decide +kernel), _, ta, tb, tc, rfl, hT5, fun lc z1 z2 z3 H6 nlc e6 hlc th6 => ?_⟩
        refine ⟨lc, rfl, ⟨_, SqL.of hlc⟩, fun D0 nD => ?_⟩
        have nD5 : H5 D0 = none := Same.free e6 nD
        refine lc_all (K := K) (xs := [z1, z2, z3]) (sl := [23]) (fun i v _ => v = .int (if i = 0 then lin m n rr ta else if i = 1 then lin m n rr tb else lin m n rr tc)) (fun _ _ _ _ _ h => h) (fun _ _ _ _ _ _ _ _ h => h) (SqL.of hlc) (by show 3 ≤ 1000; decide) ?_ ?_ nD
        · intro i x H7 hx g67 Q' k'
          have one : ∀ (x : V) (q : I2), IsP C x q.1 q.2 H7 → Sm2 10 q → ∃ a da, x = V.ref a ∧ H7 a = some (.ins C da (ptF q.1 q.2)) ∧ CMulW m q.1 ∧ CMulW n q.2 := fun x q h s => by
            obtain ⟨a, da, h1, h2⟩ := h
            exact ⟨a, da, h1, h2, wide_mul sm s.1 (by decide) (by decide) (by decide), wide_mul sn s.2 (by decide) (by decide) (by decide)⟩
          have th7 := th6.ex g67
          rcases two3 hx with ⟨rfl, rfl⟩ | ⟨rfl, rfl⟩ | ⟨rfl, rfl⟩
          · obtain ⟨a, da, rfl, ha, c1, c2⟩ := one _ ta th7.1 sA'
            refine ⟨rfl, _, rfl, _, rfl, a, C, da, _, _, rfl, ha, D.T.cl, D.T.nX, ptF_x _ _, _, _, rfl, rfl, c1, _, rfl, _, rfl, a, C, da, _, _, rfl, ha, D.T.cl, D.T.nY, ptF_y _ _, _, _, rfl, rfl, c2, _, _, rfl, rfl, _, rfl, _, _, rfl, rfl, ?_⟩
            exact k' _ _ (Same.refl _) rfl
          · obtain ⟨a, da, rfl, ha, c1, c2⟩ := one _ tb th7.2.1 sB'
            refine ⟨rfl, _, rfl, _, rfl, a, C, da, _, _, rfl, ha, D.T.cl, D.T.nX, ptF_x _ _, _, _, rfl, rfl, c1, _, rfl, _, rfl, a, C, da, _, _, rfl, ha, D.T.cl, D.T.nY, ptF_y _ _, _, _, rfl, rfl, c2, _, _, rfl, rfl, _, rfl, _, _, rfl, rfl, ?_⟩
            exact k' _ _ (Same.refl _) rfl
          · obtain ⟨a, da, rfl, ha, c1, c2⟩ := one _ tc th7.2.2 sC'
            refine ⟨rfl, _, rfl, _, rfl, a, C, da, _, _, rfl, ha, D.T.cl, D.T.nX, ptF_x _ _, _, _, rfl, rfl, c1, _, rfl, _, rfl, a, C, da, _, _, rfl, ha, D.T.cl, D.T.nY, ptF_y _ _, _, _, rfl, rfl, c2, _, _, rfl, rfl, _, rfl, _, _, rfl, rfl, ?_⟩
            exact k' _ _ (Same.refl _) rfl
        · intro H7 vs g67 hv' hlen' hR
          obtain ⟨x1, x2, x3, rfl⟩ := len3' hlen'
          have r1 := hR 0 x1 rfl
          have r2 := hR 1 x2 rfl
          have r3 := hR 2 x3 rfl
          subst r1 r2 r3
          exact hN _ _ ⟨_, D0, rfl, e6.trans g67, nD5, hv'⟩
      rintro σ H6 ⟨u23', vl, rfl, e6, nvl, hvl⟩
      have p6 := p5.ex e6
      have vp : vl ≠ pl := p5.ne nvl
      -- p
      refine ⟨_, rfl, pl, 20, rfl, p6, by decide, by decide, fun qp px py H7 b7 p7 hqp px0 px1 py0 py1 => ?_⟩
      have sP : Sm2 10 (px, py) := ⟨sm10 (by show -500 ≤ px; omega) (by show px ≤ 500; omega), sm10 (by show -500 ≤ py; omega) (by show py ≤ 500; omega)⟩
      have hT7 := (hT5.ex e6).butP p6 b7
      have hvl7 := b7 _ _ vp hvl
      refine ⟨_, rfl, _, rfl, _, rfl, 10, .ref tr, .ref vl, .ref qp, ta, tb, tc, (px, py), lin m n rr ta, lin m n rr tb, lin m n rr tc, rfl, hT7, ⟨vl, rfl, .inl hvl7⟩, ⟨qp, rfl, .inr hqp⟩, by decide, sA', sB', sC', sP, (lin_sm sm sn sr sA').up (by decide), (lin_sm sm sn sr sB').up (by decide), (lin_sm sm sn sr sC').up (by decide), pos, fun q H8 e8 hq => ?_⟩
      rw [tot_lin, (gcd_whole pos).1, (gcd_whole pos).2] at hq
      have hqp8 := e8 _ _ hqp
      refine ⟨_, rfl, _, rfl, qp, _, _, _, rfl, rfl, SqT.of hqp8, atI_nat (j := 0) rfl, _, _, rfl, rfl, wide_mul sm sP.1 (by decide) (by decide) (by decide), _, rfl, _, rfl, qp, _, _, _, rfl, rfl, SqT.of hqp8, atI_nat (j := 1) rfl, _, _, rfl, rfl, wide_mul sn sP.2 (by decide) (by decide) (by decide), _, _, rfl, rfl, _, rfl, _, _, rfl, rfl, (by show 2 ≤ sizeLine; decide), fun t2 nt2 => ?_⟩
      have g9 := same_new (o := .tup [V.int (m * px + n * py + rr), V.int 1]) nt2
      refine ⟨.tuple [.int (lin m n rr (px, py)), .int 1], .tuple [.int (lin m n rr (px, py)), .int 1], .tup (SqT.of (g9 _ _ hq)) (.cons (.int _) (.cons (.int _) .nil)), .tup (SqT.of upd_same) (.cons (.int _) (.cons (.int _) .nil)), shT2 _ _, shT2 _ _, _, rfl, ?_⟩
      rw [sh_self (shT2 _ _)]
      refine iteF ?_
      have e9 := e8.trans g9
      exact ⟨_, _, _, _, rfl, (b7.same hpl (e5.trans e6)).trans e9, p7.ex e9, e9 _ _ (b7 _ _ lp (e6 _ _ hl5)), ((hE5.ex e6).butP p6 b7).ex e9⟩
    rintro σ H4 ⟨u7, u8, u9, u23, rfl, e4, p4⟩
    clear e3 p3 hM3
    -- a, b, c
    refine ⟨_, rfl, pl, rfl, p4, fun lq qa qb qc a b c H5 b5 p5 hlq t5 pos sA sB sC => ?_⟩
    have e5 := b5.same hpl e4
    refine ⟨lq, _, rfl, SqL.of hlq, rfl, _, _, rfl, _, _, rfl, _, _, rfl, rfl, ?_⟩
    clear e4 p4 b5 hlq
    -- triangle
    dsimp only
    refine seq_gen (fun σ' H' => ∃ tr : Addr, σ' = [some (.ref sa), u1, some (.ref pl), some (.ref ma), some (.int m), some (.int n), some (.int rr), some (.ref tr), u8, u9, some (.ref qa), some (.ref qb), some (.ref qc), v13, v14, v15, v16, v17, v18, v19, v20, v21, v22, u23, v24, v25, v26, v27, v28, v29] ∧ Same H5 H' ∧ IsT C CT (.ref tr) a b c H') (fun N hN => ?_) ?_
    · refine ⟨_, rfl, _, rfl, _, rfl, ?_⟩
      refine fun x dx nx nd ne => make_tri (C := C) (CT := CT) (n := 5) (Q := fun v H' => N [some (.ref sa), u1, some (.ref pl), some (.ref ma), some (.int m), some (.int n), some (.int rr), some v, u8, u9, some (.ref qa), some (.ref qb), some (.ref qc), v13, v14, v15, v16, v17, v18, v19, v20, v21, v22, u23, v24, v25, v26, v27, v28, v29] H') ⟨qa, rfl, .inr t5.a⟩ ⟨qb, rfl, .inr t5.b⟩ ⟨qc, rfl, .inr t5.c⟩ (by decide) sA sB sC (by omega) (fun t H3 e3 h3 => ?_) x dx nx nd ne
      rw [(on1 pos).1, (on1 pos).2] at h3
      obtain ⟨tr, _, _, _, _, _, rfl, _⟩ := id h3
      exact hN _ _ ⟨tr, rfl, e3, h3⟩
    rintro σ H6 ⟨tr, rfl, e6', hT6⟩
    have e6 := e5.trans e6'
    have p6 := p5.ex e6'
    clear e5 p5 e6' t5
    -- first
    refine seq_gen (fun σ' H' => ∃ (u13 : Option V) (fl : Addr) (x y z : Int), σ' = [some (.ref sa), u1, some (.ref pl), some (.ref ma), some (.int m), some (.int n), some (.int rr), some (.ref tr), u8, u9, some (.ref qa), some (.ref qb), some (.ref qc), u13, some (.ref fl), v15, v16, v17, v18, v19, v20, v21, v22, u23, v24, v25, v26, v27, v28, v29] ∧ But pl H6 H' ∧ PoolAt pl H' ∧ H' fl = some (.lst [.int x, .int y, .int z]) ∧ fl ≠ pl ∧ Sm 100 x ∧ Sm 100 y ∧ Sm 100 z) (fun N hN => ?_) ?_
    · refine ⟨_, rfl, by decide, by decide, fun D0 nD => ?_⟩
      have pD : D0 ≠ pl := p6.ne nD
      refine lc_range (lo := 0) (n := 3) (fun i H' => But pl H6 H' ∧ PoolAt pl H' ∧ ∃ vs : List V, H' D0 = some (.lst vs) ∧ vs.length = i ∧ NL vs)
        ⟨But.of (same_new nD), p6.ex (same_new nD), [], upd_same, rfl, fun i v h => by simp at h⟩ ?_ ?_
      · rintro j H4 hj ⟨b4, p4, vs, hD, hvl, hE⟩
        refine ⟨rfl, ?_⟩
        unfold tYes
        dsimp only
        rw [if_pos rfl]
        refine ⟨_, rfl, pl, 99, rfl, p4, by decide, by decide, fun r H5 r0 r1 b5 p5 => ⟨_, _, rfl, rfl, ?_⟩⟩
        have hD5 := b5 _ _ pD hD
        refine ⟨vs, hD5, Nat.lt_of_lt_of_le (by omega : vs.length < 100) (by decide), fun b' o nb hb' => ?_, ?_, vs ++ [.int (r - 50)], upd_same, by rw [List.length_append, hvl]; rfl, hE.snoc (sm100 (by omega) (by omega))⟩
        · rw [upd_ne (ne_of_none hb' nD)]
          exact b5 _ _ nb (b4 _ _ nb hb')
        · obtain ⟨i6, j6, h6, r6⟩ := p5
          exact ⟨i6, j6, by rw [upd_ne pD.symm]; exact h6, r6⟩
      · rintro H4 ⟨b4, p4, vs, hD, hvl, hE⟩
        obtain ⟨x, y, z, rfl, sx, sy, sz⟩ := hE.three hvl
        exact hN _ _ ⟨_, D0, x, y, z, rfl, b4, p4, hD, pD, sx, sy, sz⟩
    rintro σ H7 ⟨u13, fl, x, y, z, rfl, b7, p7, hf7, nf, sx, sy, sz⟩
    have e7 := b7.same hpl e6
    have hT7 := hT6.butP p6 b7
    clear e6 p6 hT6 b7
    -- second
    refine seq_gen (fun σ' H' => ∃ (u13 : Option V) (sl : Addr) (x' y' z' : Int), σ' = [some (.ref sa), u1, some (.ref pl), some (.ref ma), some (.int m), some (.int n), some (.int rr), some (.ref tr), u8, u9, some (.ref qa), some (.ref qb), some (.ref qc), u13, some (.ref fl), some (.ref sl), v16, v17, v18, v19, v20, v21, v22, u23, v24, v25, v26, v27, v28, v29] ∧ But pl H7 H' ∧ PoolAt pl H' ∧ H' sl = some (.lst [.int x', .int y', .int z']) ∧ sl ≠ pl ∧ Sm 100 x' ∧ Sm 100 y' ∧ Sm 100 z') (fun N hN => ?_) ?_
    · refine ⟨_, rfl, by decide, by decide, fun D0 nD => ?_⟩
      have pD : D0 ≠ pl := p7.ne nD
      refine lc_range (lo := 0) (n := 3) (fun i H' => But pl H7 H' ∧ PoolAt pl H' ∧ ∃ vs : List V, H' D0 = some (.lst vs) ∧ vs.length = i ∧ NL vs)
        ⟨But.of (same_new nD), p7.ex (same_new nD), [], upd_same, rfl, fun i v h => by simp at h⟩ ?_ ?_
      · rintro j H4 hj ⟨b4, p4, vs, hD, hvl, hE⟩
        refine ⟨rfl, ?_⟩
        unfold tYes
        dsimp only
        rw [if_pos rfl]
        refine ⟨_, rfl, pl, 99, rfl, p4, by decide, by decide, fun r H5 r0 r1 b5 p5 => ⟨_, _, rfl, rfl, ?_⟩⟩
        have hD5 := b5 _ _ pD hD
        refine ⟨vs, hD5, Nat.lt_of_lt_of_le (by omega : vs.length < 100) (by decide), fun b' o nb hb' => ?_, ?_, vs ++ [.int (r - 50)], upd_same, by rw [List.length_append, hvl]; rfl, hE.snoc (sm100 (by omega) (by omega))⟩
        · rw [upd_ne (ne_of_none hb' nD)]
          exact b5 _ _ nb (b4 _ _ nb hb')
        · obtain ⟨i6, j6, h6, r6⟩ := p5
          exact ⟨i6, j6, by rw [upd_ne pD.symm]; exact h6, r6⟩
      · rintro H4 ⟨b4, p4, vs, hD, hvl, hE⟩
        obtain ⟨x, y, z, rfl, sx, sy, sz⟩ := hE.three hvl
        exact hN _ _ ⟨_, D0, x, y, z, rfl, b4, p4, hD, pD, sx, sy, sz⟩
    rintro σ H8 ⟨u13', sl, x', y', z', rfl, b8, p8, hs8, ns', sx', sy', sz'⟩
    have S8 : St C CT pl tr fl sl a b c x y z x' y' z' H8 := ⟨p8, hT7.butP p7 b8, b8 _ _ nf hf7, hs8, nf, ns'⟩
    have e8 := b8.same hpl e7
    clear e7 p7 hT7 b8 hf7 hs8 p8
    -- many
    refine seq_gen (fun σ' H' => ∃ (mn : Int) (u13 : Option V), σ' = [some (.ref sa), u1, some (.ref pl), some (.ref ma), some (.int m), some (.int n), some (.int rr), some (.ref tr), u8, u9, some (.ref qa), some (.ref qb), some (.ref qc), u13, some (.ref fl), some (.ref sl), some (.int mn), v17, v18, v19, v20, v21, v22, u23, v24, v25, v26, v27, v28, v29] ∧ Same H0 H' ∧ St C CT pl tr fl sl a b c x y z x' y' z' H' ∧ Sm 10 mn) (fun N hN => ?_) ?_
    · refine ⟨_, rfl, pl, 9, rfl, S8.pool, by decide, by decide, fun r H9 r0 r1 b9 p9 => ⟨_, _, rfl, rfl, ?_⟩⟩
      exact hN _ _ ⟨r - 4, _, rfl, b9.same hpl e8, S8.but b9 p9, sm10 (by omega) (by omega)⟩
    rintro σ H9 ⟨mn, u13'', rfl, e9, S9, smn⟩
    clear S8 e8
    have sA' := sA.up (show 5 ≤ 10 by decide)
    have sB' := sB.up (show 5 ≤ 10 by decide)
    have sC' := sC.up (show 5 ≤ 10 by decide)
    -- for turn in range(8)
    refine ⟨8, rfl, by decide, by decide, ?_⟩
    refine for_range (lo := 0) (n := 8) (fun i σ' H' => ∃ u9 u13 u17 u18 u19 u20 u21 u22 u24 u25 u26 u27 u28 u29 : Option V, σ' = [some (.ref sa), u1, some (.ref pl), some (.ref ma), some (.int m), some (.int n), some (.int rr), some (.ref tr), u8, u9, some (.ref qa), some (.ref qb), some (.ref qc), u13, some (.ref fl), some (.ref sl), some (.int mn), u17, u18, u19, u20, u21, u22, u23, u24, u25, u26, u27, u28, u29] ∧ Same H0 H' ∧ St C CT pl tr fl sl a b c x y z x' y' z' H') ⟨_, _, _, _, _, _, _, _, _, _, _, _, _, _, rfl, e9, S9⟩ ?_ ?_
    case refine_2 =>
      rintro σ H' ⟨u9, u13, u17, u18, u19, u20, u21, u22, u24, u25, u26, u27, u28, u29, rfl, e, S⟩
      exact ⟨_, _, _, _, _, _, _, _, _, _, _, _, _, _, _, _, _, _, _, _, _, _, _, _, _, _, _, _, _, rfl, eH.trans e⟩
    rintro j σ H10 hj ⟨u9, u13, u17, u18, u19, u20, u21, u22, u24, u25, u26, u27, u28, u29, rfl, e10, S10⟩
    -- p
    refine ⟨_, rfl, pl, 9, rfl, S10.pool, by decide, by decide, fun qp px py H11 b11 p11 hqp px0 px1 py0 py1 => ?_⟩
    have S11 := S10.but b11 p11
    have e11 := b11.same hpl e10
    obtain ⟨p, hp⟩ : ∃ p : I2, p = (px, py) := ⟨_, rfl⟩
    have hqp : Tp H11 qp p := by rw [hp]; exact hqp
    have sP : Sm2 10 p := by rw [hp]; exact ⟨sm10 (by show -500 ≤ px; omega) (by show px ≤ 500; omega), sm10 (by show -500 ≤ py; omega) (by show py ≤ 500; omega)⟩
    clear S10 e10 b11 p11 hp px0 px1 py0 py1
    have sAr : Sm 1000 (sd a b c) := (sd_sm sA sB sC).up (by decide)
    have sT : ∀ x y z : Int, Sm 120 x → Sm 120 y → Sm 120 z → Sm 1000 (tot a b c p x y z) := fun x y z h1 h2 h3 => (tot_sm sA' sB' sC' sP h1 h2 h3).up (by decide)
    have hx7 : ∀ {u : Int}, Sm 100 u → Sm 120 u := fun h => h.up (by decide)
    have sF : ∀ x y z : Int, Sm 120 x → Sm 120 y → Sm 120 z → Sm2 1000 (frac (tot a b c p x y z) (sd a b c)) := fun x y z h1 h2 h3 => frac_sm pos (sT x y z h1 h2 h3) sAr
    -- one, other
    dsimp only
    refine seq_gen (fun σ' H' => ∃ (u13 : Option V) (q1 q2 : Addr), σ' = [some (.ref sa), u1, some (.ref pl), some (.ref ma), some (.int m), some (.int n), some (.int rr), some (.ref tr), u8, some (.ref qp), some (.ref qa), some (.ref qb), some (.ref qc), u13, some (.ref fl), some (.ref sl), some (.int mn), some (.ref q1), some (.ref q2), u19, u20, u21, u22, u23, u24, u25, u26, u27, u28, u29] ∧ Same H11 H' ∧ Tp H' q1 (frac (tot a b c p x y z) (sd a b c)) ∧ Tp H' q2 (frac (tot a b c p x' y' z') (sd a b c))) (fun N hN => ?_) ?_
    · refine ⟨_, rfl, _, rfl, _, rfl, 10, .ref tr, .ref fl, .ref qp, a, b, c, p, x, y, z, rfl, S11.tri, ⟨fl, rfl, .inl S11.fst⟩, ⟨qp, rfl, .inr hqp⟩, by decide, sA', sB', sC', sP, sx.up (by decide), sy.up (by decide), sz.up (by decide), pos, fun q1 H12 e12 hq1 => ?_⟩
      have hq1 : Tp H12 q1 (frac (tot a b c p x y z) (sd a b c)) := hq1
      have S12 := S11.ex e12
      have hqp2 := e12 _ _ hqp
      refine ⟨_, rfl, _, rfl, _, rfl, qp, _, _, _, rfl, rfl, SqT.of hqp2, atI_nat (j := 0) rfl, _, rfl, qp, _, _, _, rfl, rfl, SqT.of hqp2, atI_nat (j := 1) rfl, ?_⟩
      refine fun c5 dc5 nc5 nd5 ne5 => ⟨c5, dc5, p.1, p.2, rfl, upd_same, rfl, ?_⟩
      have e5' := made_same (C := C) (X := p.1) (Y := p.2) nc5 nd5
      have h5 := made_is (C := C) (x := c5) (dx := dc5) (H := H12) (X := p.1) (Y := p.2)
      have S13 := S12.ex e5'
      refine ⟨10, .ref tr, .ref sl, .ref c5, a, b, c, p, x', y', z', rfl, S13.tri, ⟨sl, rfl, .inl S13.snd⟩, h5.pt, by decide, sA', sB', sC', sP, sx'.up (by decide), sy'.up (by decide), sz'.up (by decide), pos, fun q2 H14 e14 hq2 => ⟨_, _, rfl, ?_⟩⟩
      exact hN _ _ ⟨_, q1, q2, rfl, e12.trans (e5'.trans e14), (e5'.trans e14) _ _ hq1, hq2⟩
    rintro σ H12 ⟨u13b, q1, q2, rfl, e12', hq1, hq2⟩
    have S12 := S11.ex e12'
    have e12 := e11.trans e12'
    have hqp2 := e12' _ _ hqp
    clear S11 e11 e12' hqp
    -- both
    refine seq_gen (fun σ' H' => ∃ (u13 u24 u25 : Option V) (q3 : Addr), σ' = [some (.ref sa), u1, some (.ref pl), some (.ref ma), some (.int m), some (.int n), some (.int rr), some (.ref tr), u8, some (.ref qp), some (.ref qa), some (.ref qb), some (.ref qc), u13, some (.ref fl), some (.ref sl), some (.int mn), some (.ref q1), some (.ref q2), some (.ref q3), u20, u21, u22, u23, u24, u25, u26, u27, u28, u29] ∧ Same H12 H' ∧ Tp H' q3 (frac (tot a b c p (x + x') (y + y') (z + z')) (sd a b c))) (fun N hN => ?_) ?_
    · refine ⟨_, rfl, _, rfl, _, rfl, fl, sl, _, _, rfl, SqL.of S12.fst, SqL.of S12.snd, fun D0 nD => ?_⟩
      refine lc_zipG (n := 3) (sl := [24, 25]) [V.int x, V.int y, V.int z] [V.int x', V.int y', V.int z'] (fun H' => Same H12 H') (fun i H' => Same H12 H' ∧ H' D0 = some (.lst (([x + x', y + y', z + z'].take i).map V.int))) (fun i H' h => h.1)
        (fun i H' e hi => ?_) (fun H' e => ?_) (fun i H' v H'' e hi yd => ?_) ⟨same_new nD, upd_same⟩ (fun i u v T H' hi hu hv p' nT => ?_) (fun H' p' => ?_)
      · have q3' := e _ _ S12.fst
        have v3' := e _ _ S12.snd
        have hc : i = 0 ∨ i = 1 ∨ i = 2 := by omega
        rcases hc with rfl | rfl | rfl
        · exact ⟨_, _, _, _, SqL.of q3', SqL.of v3', rfl, rfl⟩
        · exact ⟨_, _, _, _, SqL.of q3', SqL.of v3', rfl, rfl⟩
        · exact ⟨_, _, _, _, SqL.of q3', SqL.of v3', rfl, rfl⟩
      · exact ⟨_, _, SqL.of (e _ _ S12.fst), SqL.of (e _ _ S12.snd), .inl (Nat.le_refl 3)⟩
      · obtain ⟨T, xx, yy, rfl, hT', rfl, f1, f2⟩ := yd
        exact ⟨T, xx, yy, rfl, hT', rfl, f1 _ (SqL.of (e _ _ S12.fst)), f2 _ (SqL.of (e _ _ S12.snd))⟩
      · obtain ⟨e, hD⟩ := p'
        have gT := same_new (o := .tup [u, v]) nT
        have hD' := gT _ _ hD
        have hc : i = 0 ∨ i = 1 ∨ i = 2 := by omega
        rcases hc with rfl | rfl | rfl
        · cases hu
          cases hv
          refine ⟨T, _, rfl, SqT.of upd_same, rfl, _, _, rfl, _, _, rfl, rfl, rfl, ?_⟩
          refine ⟨_, rfl, _, rfl, _, _, rfl, rfl, ?_⟩
          exact ⟨_, hD', (by show 0 < sizeLine; decide), But.upd.same nD (e.trans gT), upd_same⟩
        · cases hu
          cases hv
          refine ⟨T, _, rfl, SqT.of upd_same, rfl, _, _, rfl, _, _, rfl, rfl, rfl, ?_⟩
          refine ⟨_, rfl, _, rfl, _, _, rfl, rfl, ?_⟩
          exact ⟨_, hD', (by show 1 < sizeLine; decide), But.upd.same nD (e.trans gT), upd_same⟩
        · cases hu
          cases hv
          refine ⟨T, _, rfl, SqT.of upd_same, rfl, _, _, rfl, _, _, rfl, rfl, rfl, ?_⟩
          refine ⟨_, rfl, _, rfl, _, _, rfl, rfl, ?_⟩
          exact ⟨_, hD', (by show 2 < sizeLine; decide), But.upd.same nD (e.trans gT), upd_same⟩
      · obtain ⟨e, hD⟩ := p'
        have S13 := S12.ex e
        refine ⟨_, rfl, 10, .ref tr, .ref D0, .ref qp, a, b, c, p, x + x', y + y', z + z', rfl, S13.tri, ⟨D0, rfl, .inl hD⟩, ⟨qp, rfl, .inr (e _ _ hqp2)⟩, by decide, sA', sB', sC', sP, (sx.add sx').up (by decide), (sy.add sy').up (by decide), (sz.add sz').up (by decide), pos, fun q3 H14 e14 hq3 => ?_⟩
        exact hN _ _ ⟨_, _, _, q3, rfl, e.trans e14, hq3⟩
    rintro σ H13 ⟨u13c, u24', u25', q3, rfl, e13', hq3⟩
    have S13 := S12.ex e13'
    have e13 := e12.trans e13'
    have hqp3 := e13' _ _ hqp2
    have hq13 := e13' _ _ hq1
    have hq23 := e13' _ _ hq2
    clear S12 e12 e13' hqp2 hq1 hq2
    rw [tot_add] at hq3
    -- the sum
    refine seq_gen (fun σ' H' => ∃ (u13 u24 u25 : Option V), σ' = [some (.ref sa), u1, some (.ref pl), some (.ref ma), some (.int m), some (.int n), some (.int rr), some (.ref tr), u8, some (.ref qp), some (.ref qa), some (.ref qb), some (.ref qc), u13, some (.ref fl), some (.ref sl), some (.int mn), some (.ref q1), some (.ref q2), some (.ref q3), u20, u21, u22, u23, u24, u25, u26, u27, u28, u29] ∧ Same H13 H') (fun N hN => ?_) ?_
    · have m1 := sF x y z (hx7 sx) (hx7 sy) (hx7 sz)
      have m2 := sF x' y' z' (hx7 sx') (hx7 sy') (hx7 sz')
      have m3 : Sm2 1000 (frac (tot a b c p x y z + tot a b c p x' y' z') (sd a b c)) := by
        rw [← tot_add]
        exact sF _ _ _ ((sx.add sx').up (by decide)) ((sy.add sy').up (by decide)) ((sz.add sz').up (by decide))
      refine ⟨_, rfl, _, rfl, _, rfl, q1, q2, _, _, rfl, hq13, hq23, m1, m2, fun q4 H14 e14 hq4 => ?_⟩
      have w1 : Sm (1000 + 1000) ((frac (tot a b c p x y z) (sd a b c)).1 * (frac (tot a b c p x' y' z') (sd a b c)).2) := wide_lt m1.1 m2.2
      have w2 : Sm (1000 + 1000) ((frac (tot a b c p x' y' z') (sd a b c)).1 * (frac (tot a b c p x y z) (sd a b c)).2) := wide_lt m2.1 m1.2
      have w3 : Sm (1000 + 1000) ((frac (tot a b c p x y z) (sd a b c)).2 * (frac (tot a b c p x' y' z') (sd a b c)).2) := wide_lt m1.2 m2.2
      refine ⟨q3, q4, _, _, rfl, e14 _ _ hq3, hq4, m3.up (by decide), ⟨(w1.add w2).up (by decide), w3.up (by decide)⟩, true, congrArg V.bl (decide_eq_true (congrArg V.int (frac_add pos))), ?_⟩
      refine iteF ?_
      exact hN _ _ ⟨_, _, _, rfl, e14⟩
    rintro σ H14 ⟨u13d, u24b, u25b, rfl, e14'⟩
    have S14 := S13.ex e14'
    have e14 := e13.trans e14'
    have hqp4 := e14' _ _ hqp3
    have hq14 := e14' _ _ hq13
    clear S13 e13 e14' hqp3 hq13 hq23 hq3
    -- the multiple
    refine seq_gen (fun σ' H' => ∃ (u13 u24 u25 : Option V), σ' = [some (.ref sa), u1, some (.ref pl), some (.ref ma), some (.int m), some (.int n), some (.int rr), some (.ref tr), u8, some (.ref qp), some (.ref qa), some (.ref qb), some (.ref qc), u13, some (.ref fl), some (.ref sl), some (.int mn), some (.ref q1), some (.ref q2), some (.ref q3), u20, u21, u22, u23, u24, u25, u26, u27, u28, u29] ∧ Same H14 H') (fun N hN => ?_) ?_
    · refine ⟨_, rfl, _, rfl, fl, rfl, ⟨_, SqL.of S14.fst⟩, fun D0 nD => ?_⟩
      refine lc_all (K := K) (xs := [V.int x, V.int y, V.int z]) (sl := [24]) (fun i v _ => v = .int ((if i = 0 then x else if i = 1 then y else z) * mn)) (fun _ _ _ _ _ h => h) (fun _ _ _ _ _ _ _ _ h => h) (SqL.of S14.fst) (by show 3 ≤ 1000; decide) ?_ ?_ nD
      · intro i xx H15 hx g15 Q' k'
        rcases two3 hx with ⟨rfl, rfl⟩ | ⟨rfl, rfl⟩ | ⟨rfl, rfl⟩
        · refine ⟨rfl, _, rfl, _, rfl, _, _, rfl, rfl, wide_mul sx smn (by decide) (by decide) (by decide), ?_⟩
          exact k' _ _ (Same.refl _) rfl
        · refine ⟨rfl, _, rfl, _, rfl, _, _, rfl, rfl, wide_mul sy smn (by decide) (by decide) (by decide), ?_⟩
          exact k' _ _ (Same.refl _) rfl
        · refine ⟨rfl, _, rfl, _, rfl, _, _, rfl, rfl, wide_mul sz smn (by decide) (by decide) (by decide), ?_⟩
          exact k' _ _ (Same.refl _) rfl
      · intro H15 vs g15 hv' hlen' hR
        obtain ⟨x1, x2, x3, rfl⟩ := len3' hlen'
        have r1 := hR 0 x1 rfl
        have r2 := hR 1 x2 rfl
        have r3 := hR 2 x3 rfl
        subst r1 r2 r3
        have S15 := S14.ex g15
        have wx : Sm 120 (x * mn) := Sm.up (wide_lt sx smn) (by decide)
        have wy : Sm 120 (y * mn) := Sm.up (wide_lt sy smn) (by decide)
        have wz : Sm 120 (z * mn) := Sm.up (wide_lt sz smn) (by decide)
        refine ⟨_, rfl, 10, .ref tr, .ref D0, .ref qp, a, b, c, p, x * mn, y * mn, z * mn, rfl, S15.tri, ⟨D0, rfl, .inl hv'⟩, ⟨qp, rfl, .inr (g15 _ _ hqp4)⟩, by decide, sA', sB', sC', sP, wx.up (by decide), wy.up (by decide), wz.up (by decide), pos, fun q5 H16 e16 hq5 => ?_⟩
        have hq5 : Tp H16 q5 (frac (tot a b c p (x * mn) (y * mn) (z * mn)) (sd a b c)) := hq5
        rw [tot_mul] at hq5
        have hq16 := e16 _ _ (g15 _ _ hq14)
        have m1 := sF x y z (hx7 sx) (hx7 sy) (hx7 sz)
        have m5 : Sm2 1000 (frac (tot a b c p x y z * mn) (sd a b c)) := by
          rw [← tot_mul]
          exact sF _ _ _ wx wy wz
        refine ⟨_, rfl, q1, _, _, _, rfl, rfl, SqT.of hq16, atI_nat (j := 0) rfl, _, rfl, _, _, rfl, rfl, wide_mul m1.1 smn (by decide) (by decide) (by decide), _, rfl, q1, _, _, _, rfl, rfl, SqT.of hq16, atI_nat (j := 1) rfl, (by show 2 ≤ sizeLine; decide), fun q6 nq6 => ?_⟩
        have g17 := same_new (o := .tup [V.int ((frac (tot a b c p x y z) (sd a b c)).1 * mn), V.int (frac (tot a b c p x y z) (sd a b c)).2]) nq6
        have w1 : Sm (1000 + 10) ((frac (tot a b c p x y z) (sd a b c)).1 * mn) := wide_lt m1.1 smn
        refine ⟨q5, q6, _, ((frac (tot a b c p x y z) (sd a b c)).1 * mn, (frac (tot a b c p x y z) (sd a b c)).2), rfl, g17 _ _ hq5, upd_same, m5.up (by decide), ⟨w1.up (by decide), m1.2.up (by decide)⟩, true, congrArg V.bl (decide_eq_true (congrArg V.int (frac_mul pos))), ?_⟩
        refine iteF ?_
        exact hN _ _ ⟨_, _, _, rfl, g15.trans (e16.trans g17)⟩
    rintro σ H15 ⟨u13e, u24c, u25c, rfl, e15'⟩
    have S15 := S14.ex e15'
    have e15 := e14.trans e15'
    have hqp5 := e15' _ _ hqp4
    clear S14 e14 e15' hqp4 hq14
    -- 7, 7, 7
    refine seq_gen (fun σ' H' => ∃ (u13 u24 u25 : Option V), σ' = [some (.ref sa), u1, some (.ref pl), some (.ref ma), some (.int m), some (.int n), some (.int rr), some (.ref tr), u8, some (.ref qp), some (.ref qa), some (.ref qb), some (.ref qc), u13, some (.ref fl), some (.ref sl), some (.int mn), some (.ref q1), some (.ref q2), some (.ref q3), u20, u21, u22, u23, u24, u25, u26, u27, u28, u29] ∧ Same H15 H') (fun N hN => ?_) ?_
    · refine ⟨_, rfl, (by show 3 ≤ sizeLine; decide), fun l7 n7 => ?_⟩
      have g1 := same_new (o := .lst [V.int 7, V.int 7, V.int 7]) n7
      have s7 : Sm 120 7 := Sm.up (sm10 (by decide) (by decide)) (by decide)
      refine ⟨_, rfl, 10, .ref tr, .ref l7, .ref qp, a, b, c, p, 7, 7, 7, rfl, (S15.ex g1).tri, ⟨l7, rfl, .inl upd_same⟩, ⟨qp, rfl, .inr (g1 _ _ hqp5)⟩, by decide, sA', sB', sC', sP, s7.up (by decide), s7.up (by decide), s7.up (by decide), pos, fun q H16 e16 hq => ?_⟩
      have hq : Tp H16 q (frac (tot a b c p 7 7 7) (sd a b c)) := hq
      rw [tot_7, frac_whole pos] at hq
      refine ⟨(by show 2 ≤ sizeLine; decide), fun t2 nt2 => ?_⟩
      have g3 := same_new (o := .tup [V.int 7, V.int 1]) nt2
      refine ⟨.tuple [.int 7, .int 1], .tuple [.int 7, .int 1], .tup (SqT.of (g3 _ _ hq)) (.cons (.int _) (.cons (.int _) .nil)), .tup (SqT.of upd_same) (.cons (.int _) (.cons (.int _) .nil)), shT2 _ _, shT2 _ _, _, rfl, ?_⟩
      rw [sh_self (shT2 _ _)]
      refine iteF ?_
      exact hN _ _ ⟨_, _, _, rfl, g1.trans (e16.trans g3)⟩
    rintro σ H16 ⟨u13f, u24d, u25d, rfl, e16'⟩
    have S16 := S15.ex e16'
    have e16 := e15.trans e16'
    have hqp6 := e16' _ _ hqp5
    clear S15 e15 e16' hqp5
    -- lone
    refine seq_gen (fun σ' H' => ∃ (u13 u24 u25 : Option V) (ll q7 q8 q9 : Addr), σ' = [some (.ref sa), u1, some (.ref pl), some (.ref ma), some (.int m), some (.int n), some (.int rr), some (.ref tr), u8, some (.ref qp), some (.ref qa), some (.ref qb), some (.ref qc), u13, some (.ref fl), some (.ref sl), some (.int mn), some (.ref q1), some (.ref q2), some (.ref q3), some (.ref ll), u21, u22, u23, u24, u25, u26, u27, u28, u29] ∧ Same H16 H' ∧ H' ll = some (.lst [.ref q7, .ref q8, .ref q9]) ∧ Tp H' q7 (frac (sd b c p) (sd a b c)) ∧ Tp H' q8 (frac (sd c a p) (sd a b c)) ∧ Tp H' q9 (frac (sd a b p) (sd a b c))) (fun N hN => ?_) ?_
    · refine ⟨(by show 3 ≤ sizeLine; decide), fun m1 n1 => ⟨(by show 3 ≤ sizeLine; decide), fun m2 n2 => ⟨(by show 3 ≤ sizeLine; decide), fun m3 n3 => ⟨(by show 3 ≤ sizeLine; decide), fun el nel => ⟨el, rfl, ⟨_, SqL.of upd_same⟩, fun D0 nD => ?_⟩⟩⟩⟩⟩
      have g1 := same_new (o := .lst [V.int 1, V.int 0, V.int 0]) n1
      have g2 := same_new (o := .lst [V.int 0, V.int 1, V.int 0]) n2
      have g3 := same_new (o := .lst [V.int 0, V.int 0, V.int 1]) n3
      have g4 := same_new (o := .lst [V.ref m1, V.ref m2, V.ref m3]) nel
      have k3 := g4 _ _ (upd_same (a := m3) (o := .lst [V.int 0, V.int 0, V.int 1]))
      have k2 := (g3.trans g4) _ _ (upd_same (a := m2) (o := .lst [V.int 0, V.int 1, V.int 0]))
      have k1 := (g2.trans (g3.trans g4)) _ _ (upd_same (H := H16) (a := m1) (o := .lst [V.int 1, V.int 0, V.int 0]))
      have gA := g1.trans (g2.trans (g3.trans g4))
      have ke := upd_same (H := upd (upd (upd H16 m1 (.lst [V.int 1, V.int 0, V.int 0])) m2 (.lst [V.int 0, V.int 1, V.int 0])) m3 (.lst [V.int 0, V.int 0, V.int 1])) (a := el) (o := .lst [V.ref m1, V.ref m2, V.ref m3])
      clear g1 g2 g3 g4 n1 n2 n3 nel
      generalize upd (upd (upd (upd H16 m1 (.lst [V.int 1, V.int 0, V.int 0])) m2 (.lst [V.int 0, V.int 1, V.int 0])) m3 (.lst [V.int 0, V.int 0, V.int 1])) el (.lst [V.ref m1, V.ref m2, V.ref m3]) = H17 at *
      have S17 := S16.ex gA
      have hqp7 := gA _ _ hqp6
      have s0 : Sm 120 0 := Sm.up (sm10 (by decide) (by decide)) (by decide)
      have s1 : Sm 120 1 := Sm.up (sm10 (by decide) (by decide)) (by decide)
      refine lc_all (K := K) (xs := [.ref m1, .ref m2, .ref m3]) (sl := [26]) (fun i v H => ∃ q : Addr, v = .ref q ∧ Tp H q (frac (if i = 0 then sd b c p else if i = 1 then sd c a p else sd a b p) (sd a b c))) (fun _ _ _ _ e h => by obtain ⟨q, h1, h2⟩ := h; exact ⟨q, h1, e _ _ h2⟩) (fun _ _ _ _ _ _ hD e h => by obtain ⟨q, h1, h2⟩ := h; exact ⟨q, h1, e _ _ (ne_of h2 hD (by intro z; cases z)) h2⟩) (SqL.of ke) (by show 3 ≤ 1000; decide) ?_ ?_ nD
      · intro i xx H17' hx g17 Q' k'
        rcases two3 hx with ⟨rfl, rfl⟩ | ⟨rfl, rfl⟩ | ⟨rfl, rfl⟩
        · refine ⟨rfl, _, rfl, _, rfl, _, rfl, 10, .ref tr, .ref m1, .ref qp, a, b, c, p, 1, 0, 0, rfl, (S17.ex g17).tri, ⟨m1, rfl, .inl (g17 _ _ k1)⟩, ⟨qp, rfl, .inr (g17 _ _ hqp7)⟩, by decide, sA', sB', sC', sP, s1.up (by decide), s0.up (by decide), s0.up (by decide), pos, fun q H18 e18 hq => ?_⟩
          have hq : Tp H18 q (frac (tot a b c p 1 0 0) (sd a b c)) := hq
          rw [tot_1] at hq
          exact k' _ _ e18 ⟨q, rfl, hq⟩
        · refine ⟨rfl, _, rfl, _, rfl, _, rfl, 10, .ref tr, .ref m2, .ref qp, a, b, c, p, 0, 1, 0, rfl, (S17.ex g17).tri, ⟨m2, rfl, .inl (g17 _ _ k2)⟩, ⟨qp, rfl, .inr (g17 _ _ hqp7)⟩, by decide, sA', sB', sC', sP, s0.up (by decide), s1.up (by decide), s0.up (by decide), pos, fun q H18 e18 hq => ?_⟩
          have hq : Tp H18 q (frac (tot a b c p 0 1 0) (sd a b c)) := hq
          rw [tot_2] at hq
          exact k' _ _ e18 ⟨q, rfl, hq⟩
        · refine ⟨rfl, _, rfl, _, rfl, _, rfl, 10, .ref tr, .ref m3, .ref qp, a, b, c, p, 0, 0, 1, rfl, (S17.ex g17).tri, ⟨m3, rfl, .inl (g17 _ _ k3)⟩, ⟨qp, rfl, .inr (g17 _ _ hqp7)⟩, by decide, sA', sB', sC', sP, s0.up (by decide), s0.up (by decide), s1.up (by decide), pos, fun q H18 e18 hq => ?_⟩
          have hq : Tp H18 q (frac (tot a b c p 0 0 1) (sd a b c)) := hq
          rw [tot_3] at hq
          exact k' _ _ e18 ⟨q, rfl, hq⟩
      · intro H18 vs g18 hv' hlen' hR
        obtain ⟨x1, x2, x3, rfl⟩ := len3' hlen'
        obtain ⟨q7, rfl, h7⟩ := hR 0 x1 rfl
        obtain ⟨q8, rfl, h8⟩ := hR 1 x2 rfl
        obtain ⟨q9, rfl, h9⟩ := hR 2 x3 rfl
        exact hN _ _ ⟨_, _, _, D0, q7, q8, q9, rfl, gA.trans g18, hv', h7, h8, h9⟩
    rintro σ H17 ⟨u13g, u24e, u25e, ll, q7, q8, q9, rfl, e17', hll, hq7, hq8, hq9⟩
    have S17 := S16.ex e17'
    have e17 := e16.trans e17'
    have hqp7 := e17' _ _ hqp6
    clear S16 e16 e17' hqp6
    -- outside
    obtain ⟨keep, hkeep⟩ : ∃ keep : Nat → Bool, keep = fun i => outB (if i = 0 then sd b c p else if i = 1 then sd c a p else sd a b p) (sd a b c) := ⟨_, rfl⟩
    refine seq_gen (fun σ' H' => ∃ (u13 u24 u25 : Option V) (ol : Addr), σ' = [some (.ref sa), u1, some (.ref pl), some (.ref ma), some (.int m), some (.int n), some (.int rr), some (.ref tr), u8, some (.ref qp), some (.ref qa), some (.ref qb), some (.ref qc), u13, some (.ref fl), some (.ref sl), some (.int mn), some (.ref q1), some (.ref q2), some (.ref q3), some (.ref ll), some (.ref ol), u22, u23, u24, u25, u26, u27, u28, u29] ∧ Same H17 H' ∧ H' ol = some (.lst (List.replicate (kept keep 3) (.int 1)))) (fun N hN => ?_) ?_
    · refine ⟨_, rfl, ll, rfl, ⟨_, SqL.of hll⟩, fun D0 nD => ?_⟩
      refine lc_filt (K := K) (xs := [.ref q7, .ref q8, .ref q9]) (sl := [27, 28]) keep (.int 1) (SqL.of hll) (by show 3 ≤ 1000; decide) ?_ ?_ nD
      · intro i xx H18 hx g18 Nx Q' kf kt
        rw [hkeep] at kf kt
        rcases two3 hx with ⟨rfl, rfl⟩ | ⟨rfl, rfl⟩ | ⟨rfl, rfl⟩
        · refine ⟨q7, _, rfl, SqT.of (g18 _ _ hq7), rfl, _, _, rfl, _, _, rfl, rfl, rfl, ?_⟩
          refine ⟨_, rfl, _, _, rfl, rfl, _, rfl, ?_⟩
          by_cases c0 : 0 ≤ (frac (sd b c p) (sd a b c)).1
          · rw [decide_eq_true c0]
            refine iteT ?_
            refine ⟨_, rfl, _, _, rfl, rfl, _, rfl, ?_⟩
            by_cases c1 : (frac (sd b c p) (sd a b c)).1 ≤ (frac (sd b c p) (sd a b c)).2
            · rw [decide_eq_true c1]
              exact iteF (kf (by show outB (sd b c p) (sd a b c) = false; unfold outB; simp [c0, c1]) _ (Same.refl _))
            · rw [decide_eq_false c1]
              exact iteT (kt (by show outB (sd b c p) (sd a b c) = true; unfold outB; simp [c0, c1]) _ (Same.refl _))
          · rw [decide_eq_false c0]
            refine iteF ?_
            refine ⟨_, rfl, ?_⟩
            exact iteT (kt (by show outB (sd b c p) (sd a b c) = true; unfold outB; simp [c0]) _ (Same.refl _))
        · refine ⟨q8, _, rfl, SqT.of (g18 _ _ hq8), rfl, _, _, rfl, _, _, rfl, rfl, rfl, ?_⟩
          refine ⟨_, rfl, _, _, rfl, rfl, _, rfl, ?_⟩
          by_cases c0 : 0 ≤ (frac (sd c a p) (sd a b c)).1
          · rw [decide_eq_true c0]
            refine iteT ?_
            refine ⟨_, rfl, _, _, rfl, rfl, _, rfl, ?_⟩
            by_cases c1 : (frac (sd c a p) (sd a b c)).1 ≤ (frac (sd c a p) (sd a b c)).2
            · rw [decide_eq_true c1]
              exact iteF (kf (by show outB (sd c a p) (sd a b c) = false; unfold outB; simp [c0, c1]) _ (Same.refl _))
            · rw [decide_eq_false c1]
              exact iteT (kt (by show outB (sd c a p) (sd a b c) = true; unfold outB; simp [c0, c1]) _ (Same.refl _))
          · rw [decide_eq_false c0]
            refine iteF ?_
            refine ⟨_, rfl, ?_⟩
            exact iteT (kt (by show outB (sd c a p) (sd a b c) = true; unfold outB; simp [c0]) _ (Same.refl _))
        · refine ⟨q9, _, rfl, SqT.of (g18 _ _ hq9), rfl, _, _, rfl, _, _, rfl, rfl, rfl, ?_⟩
          refine ⟨_, rfl, _, _, rfl, rfl, _, rfl, ?_⟩
          by_cases c0 : 0 ≤ (frac (sd a b p) (sd a b c)).1
          · rw [decide_eq_true c0]
            refine iteT ?_
            refine ⟨_, rfl, _, _, rfl, rfl, _, rfl, ?_⟩
            by_cases c1 : (frac (sd a b p) (sd a b c)).1 ≤ (frac (sd a b p) (sd a b c)).2
            · rw [decide_eq_true c1]
              exact iteF (kf (by show outB (sd a b p) (sd a b c) = false; unfold outB; simp [c0, c1]) _ (Same.refl _))
            · rw [decide_eq_false c1]
              exact iteT (kt (by show outB (sd a b p) (sd a b c) = true; unfold outB; simp [c0, c1]) _ (Same.refl _))
          · rw [decide_eq_false c0]
            refine iteF ?_
            refine ⟨_, rfl, ?_⟩
            exact iteT (kt (by show outB (sd a b p) (sd a b c) = true; unfold outB; simp [c0]) _ (Same.refl _))
      · intro H18 g18 hD
        exact hN _ _ ⟨_, _, _, D0, rfl, g18, hD⟩
    rintro σ H18 ⟨u13h, u24f, u25f, ol, rfl, e18', hol⟩
    have S18 := S17.ex e18'
    have e18 := e17.trans e18'
    have hqp8 := e18' _ _ hqp7
    have hll8 := e18' _ _ hll
    have hq78 := e18' _ _ hq7
    have hq88 := e18' _ _ hq8
    have hq98 := e18' _ _ hq9
    clear S17 e17 e18' hqp7 hll hq7 hq8 hq9
    have hk3 : kept keep 3 ≤ 3 := by
      unfold kept kept kept kept
      split <;> split <;> split <;> omega
    have hin : inT a b c p = decide (kept keep 3 = 0) := by
      rw [in_out pos, Bool.eq_iff_iff, decide_eq_true_eq, kept_zero, hkeep]
      simp only [Bool.and_eq_true, Bool.not_eq_true']
      constructor
      · rintro ⟨o1, o2, o3⟩ j hj
        have : j = 0 ∨ j = 1 ∨ j = 2 := by omega
        rcases this with rfl | rfl | rfl
        · exact o1
        · exact o2
        · exact o3
      · intro h
        exact ⟨h 0 (by decide), h 1 (by decide), h 2 (by decide)⟩
    -- p in triangle
    refine seq_gen (fun σ' H' => ∃ (u13 u24 u25 : Option V), σ' = [some (.ref sa), u1, some (.ref pl), some (.ref ma), some (.int m), some (.int n), some (.int rr), some (.ref tr), u8, some (.ref qp), some (.ref qa), some (.ref qb), some (.ref qc), u13, some (.ref fl), some (.ref sl), some (.int mn), some (.ref q1), some (.ref q2), some (.ref q3), some (.ref ll), some (.ref ol), u22, u23, u24, u25, u26, u27, u28, u29] ∧ Same H18 H') (fun N hN => ?_) ?_
    · have hT8 := S18.tri
      obtain ⟨tr', dx, lt, w1, w2, w3, z0, htr, _⟩ := id hT8
      cases z0
      refine ⟨_, rfl, _, rfl, tr, dx, _, rfl, htr, .ref tr, .ref qp, rfl, .inl ⟨10, a, b, c, p, hT8, ⟨qp, rfl, .inr hqp8⟩, by decide, sA', sB', sC', sP, fun H19 e19 => ⟨_, rfl, ?_⟩⟩⟩
      refine ⟨_, rfl, (by show 0 ≤ sizeLine; decide), fun em nem => ?_⟩
      have g20 := same_new (o := .lst []) nem
      refine ⟨.list (List.replicate (kept keep 3) (.int 1)), .list [], .lst (SqL.of (g20 _ _ (e19 _ _ hol))) (dp_rep _), .lst (SqL.of upd_same) .nil, (rep_eqv hk3).2, by decide +kernel, ?_⟩
      rw [(rep_eqv hk3).1]
      refine ⟨rfl, _, rfl, ?_⟩
      have ez : decide (V.bl (if false = true then !inT a b c p else inT a b c p) = V.bl (decide (kept keep 3 = 0))) = true := decide_eq_true (congrArg V.bl hin)
      rw [ez]
      refine iteF ?_
      exact hN _ _ ⟨_, _, _, rfl, e19.trans g20⟩
    rintro σ H19 ⟨u13i, u24g, u25g, rfl, e19'⟩
    have S19 := S18.ex e19'
    have e19 := e18.trans e19'
    have hqp9 := e19' _ _ hqp8
    have hll9 := e19' _ _ hll8
    have hq79 := e19' _ _ hq78
    have hq89 := e19' _ _ hq88
    have hq99 := e19' _ _ hq98
    clear S18 e18 e19' hqp8 hll8 hq78 hq88 hq98 hol
    -- parts
    refine ⟨_, rfl, _, rfl, 10, .ref tr, .ref qp, a, b, c, p, rfl, S19.tri, ⟨qp, rfl, .inr hqp9⟩, by decide, sA', sB', sC', sP, fun pq H20 e20 hpq => ?_⟩
    have S20 := S19.ex e20
    have hll1 := e20 _ _ hll9
    have hq71 := e20 _ _ hq79
    have hq81 := e20 _ _ hq89
    have hq91 := e20 _ _ hq99
    have e21 := e19.trans e20
    clear S19 e19 hqp9 hll9 hq79 hq89 hq99
    -- none of them differs
    refine ⟨_, rfl, by decide, by decide, fun D0 nD => ?_⟩
    refine lc_range (lo := 0) (n := 3) (fun i H' => Same H20 H' ∧ H' D0 = some (.lst [])) ⟨same_new nD, upd_same⟩ ?_ ?_
    · rintro i H22 hi ⟨e22, hD⟩
      have hT2 := S20.tri.ex e22
      obtain ⟨tr', dx, lt, w1, w2, w3, z0, htr, _⟩ := id hT2
      cases z0
      have hc : i = 0 ∨ i = 1 ∨ i = 2 := by omega
      rcases hc with rfl | rfl | rfl
      · refine ⟨rfl, _, rfl, _, rfl, ll, _, _, _, rfl, rfl, SqL.of (e22 _ _ hll1), (show atI [V.ref q7, V.ref q8, V.ref q9] (0 : Int) = some (.ref q7) from atI_nat (j := 0) rfl), _, rfl, _, rfl, pq, _, _, _, rfl, rfl, SqT.of (e22 _ _ hpq), (show atI [V.int (sd b c p), V.int (sd c a p), V.int (sd a b p)] (0 : Int) = some (.int (sd b c p)) from atI_nat (j := 0) rfl), _, rfl, tr, dx, _, rfl, htr, 10, _, a, b, c, rfl, hT2, by decide, sA', sB', sC', fun H23 e23 => ⟨(by show 2 ≤ sizeLine; decide), fun tq ntq => ?_⟩⟩
        have g24 := same_new (o := .tup [V.int (sd b c p), V.int (sd a b c)]) ntq
        have e24 := e22.trans (e23.trans g24)
        refine ⟨q7, tq, _, (sd b c p, sd a b c), rfl, e24 _ _ hq71, upd_same, (frac_sm pos ((sd_sm sB' sC' sP).up (by decide : _ ≤ 1000)) sAr).up (by decide), ⟨(sd_sm sB' sC' sP).up (by decide), sAr.up (by decide)⟩, true, congrArg V.bl (decide_eq_true (congrArg V.int (frac_eq pos))), ?_⟩
        exact iteF ⟨e24, (e23.trans g24) _ _ hD⟩
      · refine ⟨rfl, _, rfl, _, rfl, ll, _, _, _, rfl, rfl, SqL.of (e22 _ _ hll1), (show atI [V.ref q7, V.ref q8, V.ref q9] (1 : Int) = some (.ref q8) from atI_nat (j := 1) rfl), _, rfl, _, rfl, pq, _, _, _, rfl, rfl, SqT.of (e22 _ _ hpq), (show atI [V.int (sd b c p), V.int (sd c a p), V.int (sd a b p)] (1 : Int) = some (.int (sd c a p)) from atI_nat (j := 1) rfl), _, rfl, tr, dx, _, rfl, htr, 10, _, a, b, c, rfl, hT2, by decide, sA', sB', sC', fun H23 e23 => ⟨(by show 2 ≤ sizeLine; decide), fun tq ntq => ?_⟩⟩
        have g24 := same_new (o := .tup [V.int (sd c a p), V.int (sd a b c)]) ntq
        have e24 := e22.trans (e23.trans g24)
        refine ⟨q8, tq, _, (sd c a p, sd a b c), rfl, e24 _ _ hq81, upd_same, (frac_sm pos ((sd_sm sC' sA' sP).up (by decide : _ ≤ 1000)) sAr).up (by decide), ⟨(sd_sm sC' sA' sP).up (by decide), sAr.up (by decide)⟩, true, congrArg V.bl (decide_eq_true (congrArg V.int (frac_eq pos))), ?_⟩
        exact iteF ⟨e24, (e23.trans g24) _ _ hD⟩
      · refine ⟨rfl, _, rfl, _, rfl, ll, _, _, _, rfl, rfl, SqL.of (e22 _ _ hll1), (show atI [V.ref q7, V.ref q8, V.ref q9] (2 : Int) = some (.ref q9) from atI_nat (j := 2) rfl), _, rfl, _, rfl, pq, _, _, _, rfl, rfl, SqT.of (e22 _ _ hpq), (show atI [V.int (sd b c p), V.int (sd c a p), V.int (sd a b p)] (2 : Int) = some (.int (sd a b p)) from atI_nat (j := 2) rfl), _, rfl, tr, dx, _, rfl, htr, 10, _, a, b, c, rfl, hT2, by decide, sA', sB', sC', fun H23 e23 => ⟨(by show 2 ≤ sizeLine; decide), fun tq ntq => ?_⟩⟩
        have g24 := same_new (o := .tup [V.int (sd a b p), V.int (sd a b c)]) ntq
        have e24 := e22.trans (e23.trans g24)
        refine ⟨q9, tq, _, (sd a b p, sd a b c), rfl, e24 _ _ hq91, upd_same, (frac_sm pos ((sd_sm sA' sB' sP).up (by decide : _ ≤ 1000)) sAr).up (by decide), ⟨(sd_sm sA' sB' sP).up (by decide), sAr.up (by decide)⟩, true, congrArg V.bl (decide_eq_true (congrArg V.int (frac_eq pos))), ?_⟩
        exact iteF ⟨e24, (e23.trans g24) _ _ hD⟩
    · rintro H22 ⟨e22, hD⟩
      refine ⟨(by show 0 ≤ sizeLine; decide), fun em nem => ?_⟩
      have g23 := same_new (o := .lst []) nem
      refine ⟨.list [], .list [], .lst (SqL.of (g23 _ _ hD)) .nil, .lst (SqL.of upd_same) .nil, by decide +kernel, by decide +kernel, _, rfl, ?_⟩
      rw [sh_self (by decide +kernel)]
      refine iteF ?_
      have e24 := e22.trans g23
      exact ⟨_, _, _, _, _, _, _, _, _, _, _, _, _, _, rfl, e21.trans e24, S20.ex e24⟩
end
end Fo
set_option Elab.async false
set_option linter.all false
set_option maxRecDepth 100000
set_option maxHeartbeats 0
namespace Fo
open PySem L2
theorem all_mk {l : PySem.W.OpenLaw} {w : World} {K : PySem.W.Frag} {h : Heap} {mg : Str → Option Value} {fa C CT CM CF pAr fW fI fP fA fO fS fTI fCo fEd fAr fEq fAd fG fWe fCk fVa fTin fCu fAp fMI fMT fH fD fPr fLs fCn fCp fSp fLm fLd fSu fSa fZ CIp gIp NIp cdaIp ccIp : Addr} {tMO : Tok} (X : K.In h) (G : h.Ns mainGlobals mg) (hfa : mg "law" = some (.ref fa))
    {rsA : List Value}
    {nmIp qnIp quIp msIp fiIp : Str} {bsIp bmIp subIp : List Value} {snIp : List Str} {abIp : Bool} {colIp : Option Bool} {ddIp odgIp angIp cddIp cldIp : Option Addr} {e0Ip e1Ip e2Ip e3Ip e5Ip : Option Value} {ocgIp kVgIp dcgIp pmgIp ctgIp cclIp clIp : Value} {slgIp ccsIp cslIp : Array (Option Value)} {vsIp : Array Value} {p1Ip p2Ip r1Ip r2Ip r3Ip r4Ip r5Ip r6Ip q1Ip q2Ip q3Ip q4Ip : Pos} {jIp : Nat} {tfIp : Tok}
    {odW anW odI anI odP anP odA anA odO anO odS anS odTI anTI odCo anCo odEd anEd odAr anAr odEq anEq odAd anAd odG anG odWe anWe odCk anCk odVa anVa odTin anTin odCu anCu odAp anAp odMI anMI odMT anMT odH anH odD anD odPr anPr odLs anLs odCn anCn odCp anCp odSp anSp odLm anLm odLd anLd odSu anSu odSa anSa odZ anZ : Option Addr} {slW slI slP slA slO slS slTI slCo slEd slAr slEq slAd slG slWe slCk slVa slTin slCu slAp slMI slMT slH slD slPr slLs slCn slCp slSp slLm slLd slSu slSa slZ : Array (Option Value)} {ocW kVW dcW pmW cdW ctW ocI kVI dcI pmI cdI ctI ocP kVP dcP pmP cdP ctP ocA kVA dcA pmA cdA ctA ocO kVO dcO pmO cdO ctO ocS kVS dcS pmS cdS ctS ocTI kVTI dcTI pmTI cdTI ctTI ocCo kVCo dcCo pmCo cdCo ctCo ocEd kVEd dcEd pmEd cdEd ctEd ocAr kVAr dcAr pmAr cdAr ctAr ocEq kVEq dcEq pmEq cdEq ctEq ocAd kVAd dcAd pmAd cdAd ctAd ocG kVG dcG pmG cdG ctG ocWe kVWe dcWe pmWe cdWe ctWe ocCk kVCk dcCk pmCk cdCk ctCk ocVa kVVa dcVa pmVa cdVa ctVa ocTin kVTin dcTin pmTin cdTin ctTin ocCu kVCu dcCu pmCu cdCu ctCu ocAp kVAp dcAp pmAp cdAp ctAp ocMI kVMI dcMI pmMI cdMI ctMI ocMT kVMT dcMT pmMT cdMT ctMT ocH kVH dcH pmH cdH ctH ocD kVD dcD pmD cdD ctD ocPr kVPr dcPr pmPr cdPr ctPr ocLs kVLs dcLs pmLs cdLs ctLs ocCn kVCn dcCn pmCn cdCn ctCn ocCp kVCp dcCp pmCp cdCp ctCp ocSp kVSp dcSp pmSp cdSp ctSp ocLm kVLm dcLm pmLm cdLm ctLm ocLd kVLd dcLd pmLd cdLd ctLd ocSu kVSu dcSu pmSu cdSu ctSu ocSa kVSa dcSa pmSa cdSa ctSa ocZ kVZ dcZ pmZ cdZ ctZ : Value}
    (aCM : PySem.W.nsIn K mainGlobals "Mesh" = some (some (.ref CM)))
    (aC : PySem.W.nsIn K mainGlobals "Point" = some (some (.ref C)))
    (aCT : PySem.W.nsIn K mainGlobals "Triangle" = some (some (.ref CT)))
    (aW : PySem.W.nsIn K mainGlobals "is_whole" = some (some (.ref fW)))
    (lW : K.lookup fW = some ⟨ocW, odW, .func (PySem.W.fnOf "is_whole" "is_whole" (defArgs sWhole) (defBody sWhole) (defScope sWhole) .none kVW dcW pmW anW cdW ctW), slW⟩)
    (cW : PySem.W.codeIn K cdW "is_whole" = true)
    (kW : PySem.W.keepIn K (.ref fW) = true)
    (aI : PySem.W.findIn K (.ref C) "__init__" = some (some (.ref fI)))
    (iI : PySem.W.isFn K (.ref fI) = true)
    (lI : K.lookup fI = some ⟨ocI, odI, .func (PySem.W.fnOf "__init__" "Point.__init__" (defArgs sInit) (defBody sInit) (defScope sInit) .none kVI dcI pmI anI cdI ctI), slI⟩)
    (cI : PySem.W.codeIn K cdI "Point.__init__" = true)
    (kI : PySem.W.keepIn K (.ref fI) = true)
    (aP : PySem.W.nsIn K mainGlobals "is_point" = some (some (.ref fP)))
    (lP : K.lookup fP = some ⟨ocP, odP, .func (PySem.W.fnOf "is_point" "is_point" (defArgs sIsPoint) (defBody sIsPoint) (defScope sIsPoint) .none kVP dcP pmP anP cdP ctP), slP⟩)
    (cP : PySem.W.codeIn K cdP "is_point" = true)
    (kP : PySem.W.keepIn K (.ref fP) = true)
    (aA : PySem.W.nsIn K mainGlobals "as_point" = some (some (.ref fA)))
    (lA : K.lookup fA = some ⟨ocA, odA, .func (PySem.W.fnOf "as_point" "as_point" (defArgs sAsPoint) (defBody sAsPoint) (defScope sAsPoint) .none kVA dcA pmA anA cdA ctA), slA⟩)
    (cA : PySem.W.codeIn K cdA "as_point" = true)
    (kA : PySem.W.keepIn K (.ref fA) = true)
    (aO : PySem.W.nsIn K mainGlobals "operand" = some (some (.ref fO)))
    (lO : K.lookup fO = some ⟨ocO, odO, .func (PySem.W.fnOf "operand" "operand" (defArgs sOperand) (defBody sOperand) (defScope sOperand) .none kVO dcO pmO anO cdO ctO), slO⟩)
    (cO : PySem.W.codeIn K cdO "operand" = true)
    (kO : PySem.W.keepIn K (.ref fO) = true)
    (aS : PySem.W.nsIn K mainGlobals "side" = some (some (.ref fS)))
    (lS : K.lookup fS = some ⟨ocS, odS, .func (PySem.W.fnOf "side" "side" (defArgs sSide) (defBody sSide) (defScope sSide) .none kVS dcS pmS anS cdS ctS), slS⟩)
    (cS : PySem.W.codeIn K cdS "side" = true)
    (kS : PySem.W.keepIn K (.ref fS) = true)
    (aTI : PySem.W.findIn K (.ref CT) "__init__" = some (some (.ref fTI)))
    (iTI : PySem.W.isFn K (.ref fTI) = true)
    (lTI : K.lookup fTI = some ⟨ocTI, odTI, .func (PySem.W.fnOf "__init__" "Triangle.__init__" (defArgs sTInit) (defBody sTInit) (defScope sTInit) .none kVTI dcTI pmTI anTI cdTI ctTI), slTI⟩)
    (cTI : PySem.W.codeIn K cdTI "Triangle.__init__" = true)
    (kTI : PySem.W.keepIn K (.ref fTI) = true)
    (aCo : PySem.W.findIn K (.ref CT) "corners" = some (some (.ref fCo)))
    (iCo : PySem.W.isFn K (.ref fCo) = true)
    (lCo : K.lookup fCo = some ⟨ocCo, odCo, .func (PySem.W.fnOf "corners" "Triangle.corners" (defArgs sCorners) (defBody sCorners) (defScope sCorners) .none kVCo dcCo pmCo anCo cdCo ctCo), slCo⟩)
    (cCo : PySem.W.codeIn K cdCo "Triangle.corners" = true)
    (kCo : PySem.W.keepIn K (.ref fCo) = true)
    (aEd : PySem.W.findIn K (.ref CT) "edges" = some (some (.ref fEd)))
    (iEd : PySem.W.isFn K (.ref fEd) = true)
    (lEd : K.lookup fEd = some ⟨ocEd, odEd, .func (PySem.W.fnOf "edges" "Triangle.edges" (defArgs sEdges) (defBody sEdges) (defScope sEdges) .none kVEd dcEd pmEd anEd cdEd ctEd), slEd⟩)
    (cEd : PySem.W.codeIn K cdEd "Triangle.edges" = true)
    (kEd : PySem.W.keepIn K (.ref fEd) = true)
    (aAr : PySem.W.findIn K (.ref CT) "area2" = some (some (.ref pAr)))
    (gAr : PySem.W.specialIn K (.ref pAr) "__get__" = some (some (.builtin "property.__get__")))
    (tAr : PySem.W.takesIn K (.ref pAr) = some true)
    (rAr : PySem.W.recIn K pAr "property" = some (.ref fAr :: rsA))
    (lAr : K.lookup fAr = some ⟨ocAr, odAr, .func (PySem.W.fnOf "area2" "Triangle.area2" (defArgs sArea) (defBody sArea) (defScope sArea) .none kVAr dcAr pmAr anAr cdAr ctAr), slAr⟩)
    (cAr : PySem.W.codeIn K cdAr "Triangle.area2" = true)
    (kAr : PySem.W.keepIn K (.ref fAr) = true)
    (aEq : PySem.W.findIn K (.ref C) "__eq__" = some (some (.ref fEq)))
    (iEq : PySem.W.isFn K (.ref fEq) = true)
    (lEq : K.lookup fEq = some ⟨ocEq, odEq, .func (PySem.W.fnOf "__eq__" "Point.__eq__" (defArgs sEq) (defBody sEq) (defScope sEq) .none kVEq dcEq pmEq anEq cdEq ctEq), slEq⟩)
    (cEq : PySem.W.codeIn K cdEq "Point.__eq__" = true)
    (kEq : PySem.W.keepIn K (.ref fEq) = true)
    (aAd : PySem.W.findIn K (.ref C) "__add__" = some (some (.ref fAd)))
    (iAd : PySem.W.isFn K (.ref fAd) = true)
    (lAd : K.lookup fAd = some ⟨ocAd, odAd, .func (PySem.W.fnOf "__add__" "Point.__add__" (defArgs sAdd) (defBody sAdd) (defScope sAdd) .none kVAd dcAd pmAd anAd cdAd ctAd), slAd⟩)
    (cAd : PySem.W.codeIn K cdAd "Point.__add__" = true)
    (kAd : PySem.W.keepIn K (.ref fAd) = true)
    (aG : PySem.W.nsIn K mainGlobals "common_divisor" = some (some (.ref fG)))
    (lG : K.lookup fG = some ⟨ocG, odG, .func (PySem.W.fnOf "common_divisor" "common_divisor" (defArgs sGcd) (defBody sGcd) (defScope sGcd) .none kVG dcG pmG anG cdG ctG), slG⟩)
    (cG : PySem.W.codeIn K cdG "common_divisor" = true)
    (kG : PySem.W.keepIn K (.ref fG) = true)
    (aWe : PySem.W.nsIn K mainGlobals "weights" = some (some (.ref fWe)))
    (lWe : K.lookup fWe = some ⟨ocWe, odWe, .func (PySem.W.fnOf "weights" "weights" (defArgs sWei) (defBody sWei) (defScope sWei) .none kVWe dcWe pmWe anWe cdWe ctWe), slWe⟩)
    (cWe : PySem.W.codeIn K cdWe "weights" = true)
    (kWe : PySem.W.keepIn K (.ref fWe) = true)
    (aCk : PySem.W.nsIn K mainGlobals "check_values" = some (some (.ref fCk)))
    (lCk : K.lookup fCk = some ⟨ocCk, odCk, .func (PySem.W.fnOf "check_values" "check_values" (defArgs sChk) (defBody sChk) (defScope sChk) .none kVCk dcCk pmCk anCk cdCk ctCk), slCk⟩)
    (cCk : PySem.W.codeIn K cdCk "check_values" = true)
    (kCk : PySem.W.keepIn K (.ref fCk) = true)
    (aVa : PySem.W.nsIn K mainGlobals "value_at" = some (some (.ref fVa)))
    (lVa : K.lookup fVa = some ⟨ocVa, odVa, .func (PySem.W.fnOf "value_at" "value_at" (defArgs sVal) (defBody sVal) (defScope sVal) .none kVVa dcVa pmVa anVa cdVa ctVa), slVa⟩)
    (cVa : PySem.W.codeIn K cdVa "value_at" = true)
    (kVa : PySem.W.keepIn K (.ref fVa) = true)
    (aTin : PySem.W.findIn K (.ref CT) "__contains__" = some (some (.ref fTin)))
    (iTin : PySem.W.isFn K (.ref fTin) = true)
    (lTin : K.lookup fTin = some ⟨ocTin, odTin, .func (PySem.W.fnOf "__contains__" "Triangle.__contains__" (defArgs sTIn) (defBody sTIn) (defScope sTIn) .none kVTin dcTin pmTin anTin cdTin ctTin), slTin⟩)
    (cTin : PySem.W.codeIn K cdTin "Triangle.__contains__" = true)
    (kTin : PySem.W.keepIn K (.ref fTin) = true)
    (aCu : PySem.W.nsIn K mainGlobals "is_cut_off" = some (some (.ref fCu)))
    (lCu : K.lookup fCu = some ⟨ocCu, odCu, .func (PySem.W.fnOf "is_cut_off" "is_cut_off" (defArgs sCut) (defBody sCut) (defScope sCut) .none kVCu dcCu pmCu anCu cdCu ctCu), slCu⟩)
    (cCu : PySem.W.codeIn K cdCu "is_cut_off" = true)
    (kCu : PySem.W.keepIn K (.ref fCu) = true)
    (aAp : PySem.W.nsIn K mainGlobals "apart" = some (some (.ref fAp)))
    (lAp : K.lookup fAp = some ⟨ocAp, odAp, .func (PySem.W.fnOf "apart" "apart" (defArgs sApart) (defBody sApart) (defScope sApart) .none kVAp dcAp pmAp anAp cdAp ctAp), slAp⟩)
    (cAp : PySem.W.codeIn K cdAp "apart" = true)
    (kAp : PySem.W.keepIn K (.ref fAp) = true)
    (aMI : PySem.W.findIn K (.ref CM) "__init__" = some (some (.ref fMI)))
    (iMI : PySem.W.isFn K (.ref fMI) = true)
    (lMI : K.lookup fMI = some ⟨ocMI, odMI, .func (PySem.W.fnOf "__init__" "Mesh.__init__" (defArgs sMInit) (defBody sMInit) (defScope sMInit) .none kVMI dcMI pmMI anMI cdMI ctMI), slMI⟩)
    (cMI : PySem.W.codeIn K cdMI "Mesh.__init__" = true)
    (kMI : PySem.W.keepIn K (.ref fMI) = true)
    (aMT : PySem.W.findIn K (.ref CM) "triangles" = some (some (.ref fMT)))
    (iMT : PySem.W.isFn K (.ref fMT) = true)
    (lMT : K.lookup fMT = some ⟨ocMT, odMT, .func (PySem.W.fnOf "triangles" "Mesh.triangles" (defArgs sMTris) (defBody sMTris) (defScope sMTris) .none kVMT dcMT pmMT anMT cdMT ctMT), slMT⟩)
    (cMT : PySem.W.codeIn K cdMT "Mesh.triangles" = true)
    (kMT : PySem.W.keepIn K (.ref fMT) = true)
    (aH : PySem.W.nsIn K mainGlobals "_law_hand" = some (some (.ref fH)))
    (lH : K.lookup fH = some ⟨ocH, odH, .func (PySem.W.fnOf "_law_hand" "_law_hand" (defArgs sHand) (defBody sHand) (defScope sHand) .none kVH dcH pmH anH cdH ctH), slH⟩)
    (cH : PySem.W.codeIn K cdH "_law_hand" = true)
    (kH : PySem.W.keepIn K (.ref fH) = true)
    (aD : PySem.W.nsIn K mainGlobals "_law_draw" = some (some (.ref fD)))
    (lD : K.lookup fD = some ⟨ocD, odD, .func (PySem.W.fnOf "_law_draw" "_law_draw" (defArgs sDraw) (defBody sDraw) (defScope sDraw) .none kVD dcD pmD anD cdD ctD), slD⟩)
    (cD : PySem.W.codeIn K cdD "_law_draw" = true)
    (kD : PySem.W.keepIn K (.ref fD) = true)
    (aPr : PySem.W.nsIn K mainGlobals "_law_pair" = some (some (.ref fPr)))
    (lPr : K.lookup fPr = some ⟨ocPr, odPr, .func (PySem.W.fnOf "_law_pair" "_law_pair" (defArgs sPair) (defBody sPair) (defScope sPair) .none kVPr dcPr pmPr anPr cdPr ctPr), slPr⟩)
    (cPr : PySem.W.codeIn K cdPr "_law_pair" = true)
    (kPr : PySem.W.keepIn K (.ref fPr) = true)
    (aLs : PySem.W.nsIn K mainGlobals "_law_side" = some (some (.ref fLs)))
    (lLs : K.lookup fLs = some ⟨ocLs, odLs, .func (PySem.W.fnOf "_law_side" "_law_side" (defArgs sLSide) (defBody sLSide) (defScope sLSide) .none kVLs dcLs pmLs anLs cdLs ctLs), slLs⟩)
    (cLs : PySem.W.codeIn K cdLs "_law_side" = true)
    (kLs : PySem.W.keepIn K (.ref fLs) = true)
    (aCn : PySem.W.nsIn K mainGlobals "_law_corners" = some (some (.ref fCn)))
    (lCn : K.lookup fCn = some ⟨ocCn, odCn, .func (PySem.W.fnOf "_law_corners" "_law_corners" (defArgs sCorn) (defBody sCorn) (defScope sCorn) .none kVCn dcCn pmCn anCn cdCn ctCn), slCn⟩)
    (cCn : PySem.W.codeIn K cdCn "_law_corners" = true)
    (kCn : PySem.W.keepIn K (.ref fCn) = true)
    (aCp : PySem.W.nsIn K mainGlobals "_law_corner_points" = some (some (.ref fCp)))
    (lCp : K.lookup fCp = some ⟨ocCp, odCp, .func (PySem.W.fnOf "_law_corner_points" "_law_corner_points" (defArgs sCP) (defBody sCP) (defScope sCP) .none kVCp dcCp pmCp anCp cdCp ctCp), slCp⟩)
    (cCp : PySem.W.codeIn K cdCp "_law_corner_points" = true)
    (kCp : PySem.W.keepIn K (.ref fCp) = true)
    (aSp : PySem.W.nsIn K mainGlobals "_law_split" = some (some (.ref fSp)))
    (lSp : K.lookup fSp = some ⟨ocSp, odSp, .func (PySem.W.fnOf "_law_split" "_law_split" (defArgs sSplit) (defBody sSplit) (defScope sSplit) .none kVSp dcSp pmSp anSp cdSp ctSp), slSp⟩)
    (cSp : PySem.W.codeIn K cdSp "_law_split" = true)
    (kSp : PySem.W.keepIn K (.ref fSp) = true)
    (aLm : PySem.W.nsIn K mainGlobals "_law_mesh" = some (some (.ref fLm)))
    (lLm : K.lookup fLm = some ⟨ocLm, odLm, .func (PySem.W.fnOf "_law_mesh" "_law_mesh" (defArgs sLMesh) (defBody sLMesh) (defScope sLMesh) .none kVLm dcLm pmLm anLm cdLm ctLm), slLm⟩)
    (cLm : PySem.W.codeIn K cdLm "_law_mesh" = true)
    (kLm : PySem.W.keepIn K (.ref fLm) = true)
    (aLd : PySem.W.nsIn K mainGlobals "_law_laid" = some (some (.ref fLd)))
    (lLd : K.lookup fLd = some ⟨ocLd, odLd, .func (PySem.W.fnOf "_law_laid" "_law_laid" (defArgs sLaid) (defBody sLaid) (defScope sLaid) .none kVLd dcLd pmLd anLd cdLd ctLd), slLd⟩)
    (cLd : PySem.W.codeIn K cdLd "_law_laid" = true)
    (kLd : PySem.W.keepIn K (.ref fLd) = true)
    (aSu : PySem.W.nsIn K mainGlobals "_law_sum" = some (some (.ref fSu)))
    (lSu : K.lookup fSu = some ⟨ocSu, odSu, .func (PySem.W.fnOf "_law_sum" "_law_sum" (defArgs sLSum) (defBody sLSum) (defScope sLSum) .none kVSu dcSu pmSu anSu cdSu ctSu), slSu⟩)
    (cSu : PySem.W.codeIn K cdSu "_law_sum" = true)
    (kSu : PySem.W.keepIn K (.ref fSu) = true)
    (aSa : PySem.W.nsIn K mainGlobals "_law_same" = some (some (.ref fSa)))
    (lSa : K.lookup fSa = some ⟨ocSa, odSa, .func (PySem.W.fnOf "_law_same" "_law_same" (defArgs sLSame) (defBody sLSame) (defScope sLSame) .none kVSa dcSa pmSa anSa cdSa ctSa), slSa⟩)
    (cSa : PySem.W.codeIn K cdSa "_law_same" = true)
    (kSa : PySem.W.keepIn K (.ref fSa) = true)
    (aZ : PySem.W.nsIn K mainGlobals "law" = some (some (.ref fZ)))
    (lZ : K.lookup fZ = some ⟨ocZ, odZ, .func (PySem.W.fnOf "law" "law" (defArgs sLaw) (defBody sLaw) (defScope sLaw) .none kVZ dcZ pmZ anZ cdZ ctZ), slZ⟩)
    (cZ : PySem.W.codeIn K cdZ "law" = true)
    (kZ : PySem.W.keepIn K (.ref fZ) = true)
    (pg : PySem.W.plainGet K C Str.empty = true)
    (hd : PySem.W.hasDictIn K C = true)
    (po : PySem.W.plainOver K C = true)
    (sa : PySem.W.findIn K (.ref C) "__setattr__" = some (some (.builtin "object.__setattr__")))
    (mk : PySem.W.makesIn K C = true)
    (kc : PySem.W.keepIn K (.ref C) = true)
    (nX : PySem.W.findIn K (.ref C) "x" = some none)
    (nY : PySem.W.findIn K (.ref C) "y" = some none)
    (ha : PySem.W.findIn K (.ref C) "__class__" = some (some (.builtin "object.__class__")))
    (hn : PySem.W.specialIn K (.builtin "object.__class__") "__get__" = some (some (.builtin "getset_descriptor.__get__")))
    (htk : PySem.W.takesIn K (.builtin "object.__class__") = some true)
    (hm : PySem.W.mroIn K C (.type "object") = some true)
    (kTC : PySem.W.kitOne K (.type "tuple") (.ref C) = some false)
    (kCC : PySem.W.kitOne K (.ref C) (.ref C) = some true)
    (sf : PySem.W.selfFirst K C = true)
    (pgT : PySem.W.plainGet K CT Str.empty = true)
    (hdT : PySem.W.hasDictIn K CT = true)
    (poT : PySem.W.plainOver K CT = true)
    (saT : PySem.W.findIn K (.ref CT) "__setattr__" = some (some (.builtin "object.__setattr__")))
    (mkT : PySem.W.makesIn K CT = true)
    (kcT : PySem.W.keepIn K (.ref CT) = true)
    (nTT : PySem.W.findIn K (.ref CT) "tips" = some none)
    (haT : PySem.W.findIn K (.ref CT) "__class__" = some (some (.builtin "object.__class__")))
    (hmT : PySem.W.mroIn K CT (.type "object") = some true)
    (kLT : PySem.W.kitOne K (.type "list") (.ref CT) = some false)
    (kTT : PySem.W.kitOne K (.ref CT) (.ref CT) = some true)
    (pgM : PySem.W.plainGet K CM Str.empty = true)
    (hdM : PySem.W.hasDictIn K CM = true)
    (poM : PySem.W.plainOver K CM = true)
    (saM : PySem.W.findIn K (.ref CM) "__setattr__" = some (some (.builtin "object.__setattr__")))
    (mkM : PySem.W.makesIn K CM = true)
    (kcM : PySem.W.keepIn K (.ref CM) = true)
    (nMP : PySem.W.findIn K (.ref CM) "pieces" = some none)
    (aMO : PySem.W.nsIn K mainGlobals "MOST_TRIANGLES" = some (some (.int 60 tMO)))
    (z_isinstance : PySem.W.nsIn K mainGlobals "isinstance" = some none)
    (z_len : PySem.W.nsIn K mainGlobals "len" = some none)
    (z_int : PySem.W.nsIn K mainGlobals "int" = some none)
    (z_bool : PySem.W.nsIn K mainGlobals "bool" = some none)
    (z_tuple : PySem.W.nsIn K mainGlobals "tuple" = some none)
    (z_range : PySem.W.nsIn K mainGlobals "range" = some none)
    (z_max : PySem.W.nsIn K mainGlobals "max" = some none)
    (z_min : PySem.W.nsIn K mainGlobals "min" = some none)
    (z_list : PySem.W.nsIn K mainGlobals "list" = some none)
    (z_all : PySem.W.nsIn K mainGlobals "all" = some none)
    (z_repr : PySem.W.nsIn K mainGlobals "repr" = some none)
    (z_super : PySem.W.nsIn K mainGlobals "super" = some none)
    (z_sum : PySem.W.nsIn K mainGlobals "sum" = some none)
    (z_zip : PySem.W.nsIn K mainGlobals "zip" = some none)
    (z_enumerate : PySem.W.nsIn K mainGlobals "enumerate" = some none)
    (z_abs : PySem.W.nsIn K mainGlobals "abs" = some none)
    (z_any : PySem.W.nsIn K mainGlobals "any" = some none)
    (kNC : PySem.W.kitOne K (.type "NoneType") (.ref C) = some false)
    (kBC : PySem.W.kitOne K (.type "bool") (.ref C) = some false)
    (kIC : PySem.W.kitOne K (.type "int") (.ref C) = some false)
    (kSC : PySem.W.kitOne K (.type "str") (.ref C) = some false)
    (kLC : PySem.W.kitOne K (.type "list") (.ref C) = some false)
    (aCF : PySem.W.nsIn K mainGlobals "FillError" = some (some (.ref CF)))
    (tpI : PySem.W.nsIn K cStatics "thirdparty.any" = some none)
    (tsI : (l.prog.main.scope.names.lookup ("super" : Str)).isSome = false)
    (aCIp : PySem.W.nsIn K mainGlobals "InvalidPoint" = some (some (.ref CIp)))
    (lCIp : K.lookup CIp = some (PySem.excClassObj nmIp qnIp CIp NIp bsIp bmIp true snIp subIp abIp colIp ddIp e0Ip e1Ip e2Ip e3Ip e5Ip "ValueError.__new__"))
    (rvIp : PySem.HandSPX.refsVE bmIp = true)
    (saIp : PySem.W.findIn K (.ref CIp) "__setattr__" = some (some (.builtin "object.__setattr__")))
    (gaIp : PySem.W.findIn K (.ref CIp) "__getattribute__" = some (some (.builtin "BaseException.__getattribute__")))
    (ggIp : PySem.W.findIn K (.ref CIp) "__getattr__" = some none)
    (noIp : PySem.W.findIn K (.ref CIp) (Str.ofString "thing") = some none)
    (inIp : PySem.W.findIn K (.ref CIp) "__init__" = some (some (.ref gIp)))
    (tyIp : PySem.W.typeIn K (.ref gIp) = some (.type "function"))
    (kpIp : PySem.W.keepIn K (.ref CIp) = true)
    (exIp : PySem.W.subIn K (.ref CIp) (.type "BaseException") = some true)
    (tcIp : PySem.W.typeIn K (.ref CIp) = some (.type "type"))
    (hdIp : PySem.W.hasDictIn K CIp = true)
    (suIp : PySem.W.ks_superIn K CIp CIp "__init__" = some (some (.builtin "ValueError.__init__")))
    (veIp : PySem.W.subIn K (.ref CIp) (.type "ValueError") = some true)
    (mrIp : PySem.W.mroIn K CIp (.ref CIp) = some true)
    (lgIp : K.lookup gIp = some ⟨ocgIp, odgIp, .func (PySem.W.ksFn "__init__" quIp (FoX_thing.xA p1Ip p2Ip) (FoX_thing.xB msIp r1Ip r2Ip r3Ip r4Ip r5Ip r6Ip q1Ip q2Ip q3Ip q4Ip jIp) FoX_thing.xS .none kVgIp dcgIp pmgIp angIp (.ref cdaIp) ctgIp ccIp), slgIp⟩)
    (cgIp : PySem.W.codeIn K (.ref cdaIp) quIp = true)
    (lcIp : K.lookup cdaIp = some ⟨cclIp, cddIp, .fields vsIp, ccsIp⟩)
    (vfIp : vsIp[2]? = some (.str fiIp tfIp))
    (flIp : ((l.prog.main.file : Str) == fiIp) = true)
    (lnIp : (r3Ip.endLine == r5Ip.line) = true)
    (leIp : K.lookup ccIp = some ⟨clIp, cldIp, .cell (some (.ref CIp)), cslIp⟩)
    (caIp : PySem.W.findIn K (.ref CIp) "__class__" = some (some (.builtin "object.__class__")))
    (moIp : PySem.W.mroIn K CIp (.type "object") = some true)
    (emIp : PySem.W.exmOne K (.ref CIp) (.ref CF) = some true)
    (ksIp : PySem.W.kitOne K (.ref CIp) (.ref CIp) = some true) :
    ∃ fd : FuncData, (∀ (s : Shared) (v : Value), BindsTo s fd ⟨[v], []⟩ [("script", v)]) ∧ ∀ base : Heap, K.In base → base.Ns mainGlobals mg → FnOk l.prog w K mg base CX0 13 fa fd ["script"] (spLaw K) := by
  have e := hfa.symm.trans (PySem.W.mg_of X G aZ)
  cases e
  have FW := fun_mk (st := sWhole) lW cW kW
  have bW := FW.binds (ps := ["value"]) fun _ _ _ _ _ _ us hl => match us, hl with | [_], _ => rfl
  have FI := fun_mk (st := sInit) lI cI kI
  have bI := FI.binds (ps := ["self", "x", "y"]) fun _ _ _ _ _ _ us hl => match us, hl with | [_, _, _], _ => rfl
  have FP := fun_mk (st := sIsPoint) lP cP kP
  have bP := FP.binds (ps := ["thing"]) fun _ _ _ _ _ _ us hl => match us, hl with | [_], _ => rfl
  have FA := fun_mk (st := sAsPoint) lA cA kA
  have bA := FA.binds (ps := ["thing"]) fun _ _ _ _ _ _ us hl => match us, hl with | [_], _ => rfl
  have FO := fun_mk (st := sOperand) lO cO kO
  have bO := FO.binds (ps := ["thing"]) fun _ _ _ _ _ _ us hl => match us, hl with | [_], _ => rfl
  have FS := fun_mk (st := sSide) lS cS kS
  have bS := FS.binds (ps := ["a", "b", "point"]) fun _ _ _ _ _ _ us hl => match us, hl with | [_, _, _], _ => rfl
  have FTI := fun_mk (st := sTInit) lTI cTI kTI
  have bTI := FTI.binds (ps := ["self", "a", "b", "c"]) fun _ _ _ _ _ _ us hl => match us, hl with | [_, _, _, _], _ => rfl
  have FCo := fun_mk (st := sCorners) lCo cCo kCo
  have bCo := FCo.binds (ps := ["self"]) fun _ _ _ _ _ _ us hl => match us, hl with | [_], _ => rfl
  have FEd := fun_mk (st := sEdges) lEd cEd kEd
  have bEd := FEd.binds (ps := ["self"]) fun _ _ _ _ _ _ us hl => match us, hl with | [_], _ => rfl
  have FAr := fun_mk (st := sArea) lAr cAr kAr
  have bAr := FAr.binds (ps := ["self"]) fun _ _ _ _ _ _ us hl => match us, hl with | [_], _ => rfl
  have FEq := fun_mk (st := sEq) lEq cEq kEq
  have bEq := FEq.binds (ps := ["self", "other"]) fun _ _ _ _ _ _ us hl => match us, hl with | [_, _], _ => rfl
  have FAd := fun_mk (st := sAdd) lAd cAd kAd
  have bAd := FAd.binds (ps := ["self", "other"]) fun _ _ _ _ _ _ us hl => match us, hl with | [_, _], _ => rfl
  have FG := fun_mk (st := sGcd) lG cG kG
  have bG := FG.binds (ps := ["one", "other"]) fun _ _ _ _ _ _ us hl => match us, hl with | [_, _], _ => rfl
  have FWe := fun_mk (st := sWei) lWe cWe kWe
  have bWe := FWe.binds (ps := ["triangle", "point"]) fun _ _ _ _ _ _ us hl => match us, hl with | [_, _], _ => rfl
  have FCk := fun_mk (st := sChk) lCk cCk kCk
  have bCk := FCk.binds (ps := ["values"]) fun _ _ _ _ _ _ us hl => match us, hl with | [_], _ => rfl
  have FVa := fun_mk (st := sVal) lVa cVa kVa
  have bVa := FVa.binds (ps := ["triangle", "values", "point"]) fun _ _ _ _ _ _ us hl => match us, hl with | [_, _, _], _ => rfl
  have FTin := fun_mk (st := sTIn) lTin cTin kTin
  have bTin := FTin.binds (ps := ["self", "x"]) fun _ _ _ _ _ _ us hl => match us, hl with | [_, _], _ => rfl
  have FCu := fun_mk (st := sCut) lCu cCu kCu
  have bCu := FCu.binds (ps := ["triangle", "other"]) fun _ _ _ _ _ _ us hl => match us, hl with | [_, _], _ => rfl
  have FAp := fun_mk (st := sApart) lAp cAp kAp
  have bAp := FAp.binds (ps := ["one", "other"]) fun _ _ _ _ _ _ us hl => match us, hl with | [_, _], _ => rfl
  have FMI := fun_mk (st := sMInit) lMI cMI kMI
  have bMI := FMI.binds (ps := ["self", "triangles"]) fun _ _ _ _ _ _ us hl => match us, hl with | [_, _], _ => rfl
  have FMT := fun_mk (st := sMTris) lMT cMT kMT
  have bMT := FMT.binds (ps := ["self"]) fun _ _ _ _ _ _ us hl => match us, hl with | [_], _ => rfl
  have FH := fun_mk (st := sHand) lH cH kH
  have bH := FH.binds (ps := ["script", "k"]) fun _ _ _ _ _ _ us hl => match us, hl with | [_, _], _ => rfl
  have FD := fun_mk (st := sDraw) lD cD kD
  have bD := FD.binds (ps := ["pool", "many"]) fun _ _ _ _ _ _ us hl => match us, hl with | [_, _], _ => rfl
  have FPr := fun_mk (st := sPair) lPr cPr kPr
  have bPr := FPr.binds (ps := ["pool", "size_here"]) fun _ _ _ _ _ _ us hl => match us, hl with | [_, _], _ => rfl
  have FLs := fun_mk (st := sLSide) lLs cLs kLs
  have bLs := FLs.binds (ps := ["a", "b", "p"]) fun _ _ _ _ _ _ us hl => match us, hl with | [_, _, _], _ => rfl
  have FCn := fun_mk (st := sCorn) lCn cCn kCn
  have bCn := FCn.binds (ps := ["pool", "size_here"]) fun _ _ _ _ _ _ us hl => match us, hl with | [_, _], _ => rfl
  have FCp := fun_mk (st := sCP) lCp cCp kCp
  have bCp := FCp.binds (ps := ["pool", "wide", "high"]) fun _ _ _ _ _ _ us hl => match us, hl with | [_, _, _], _ => rfl
  have FSp := fun_mk (st := sSplit) lSp cSp kSp
  have bSp := FSp.binds (ps := ["pool", "three"]) fun _ _ _ _ _ _ us hl => match us, hl with | [_, _], _ => rfl
  have FLm := fun_mk (st := sLMesh) lLm cLm kLm
  have bLm := FLm.binds (ps := ["pool"]) fun _ _ _ _ _ _ us hl => match us, hl with | [_], _ => rfl
  have FLd := fun_mk (st := sLaid) lLd cLd kLd
  have bLd := FLd.binds (ps := ["threes"]) fun _ _ _ _ _ _ us hl => match us, hl with | [_], _ => rfl
  have FSu := fun_mk (st := sLSum) lSu cSu kSu
  have bSu := FSu.binds (ps := ["one", "other"]) fun _ _ _ _ _ _ us hl => match us, hl with | [_, _], _ => rfl
  have FSa := fun_mk (st := sLSame) lSa cSa kSa
  have bSa := FSa.binds (ps := ["one", "other"]) fun _ _ _ _ _ _ us hl => match us, hl with | [_, _], _ => rfl
  have FZ := fun_mk (st := sLaw) lZ cZ kZ
  have T : Txt K mg C := ⟨⟨pg, hd, po, sa⟩, nX, nY, PySem.W.mg_of X G aC, PySem.W.mg_none_of X G z_isinstance, PySem.W.mg_none_of X G z_len, PySem.W.mg_none_of X G z_int, PySem.W.mg_none_of X G z_bool, PySem.W.mg_none_of X G z_tuple, ha, hn, htk, hm, kTC, kCC⟩
  have TLm : TxtL mg := ⟨PySem.W.mg_none_of X G z_int, PySem.W.mg_none_of X G z_range, PySem.W.mg_none_of X G z_max, PySem.W.mg_none_of X G z_min, PySem.W.mg_none_of X G z_len⟩
  have Df : Defs K mg C fW fI fP fA fO _ _ _ _ _ := ⟨T, FW, bW, PySem.W.mg_of X G aW, ⟨mk, aI, iI, kc⟩, FI, bI, FP, bP, PySem.W.mg_of X G aP, FA, bA, PySem.W.mg_of X G aA, FO, bO, PySem.W.mg_of X G aO⟩
  have TT : TxtT K mg CT := ⟨⟨pgT, hdT, poT, saT⟩, nTT, PySem.W.mg_of X G aCT, PySem.W.mg_none_of X G z_list, PySem.W.mg_none_of X G z_all, haT, hmT, kLT, kTT⟩
  have Td : TDefs K mg C CT fS fTI fCo fEd fAr fEq fAd pAr _ _ _ _ _ _ _ := ⟨TT, FS, bS, PySem.W.mg_of X G aS, ⟨mkT, aTI, iTI, kcT⟩, FTI, bTI, FCo, bCo, ⟨aCo, iCo, kCo⟩, FEd, bEd, ⟨aEd, iEd, kEd⟩, FAr, bAr, ⟨aAr, gAr, tAr, ⟨_, rAr⟩⟩, FEq, bEq, aEq, iEq, FAd, bAd, ⟨sf, aAd, iAd⟩⟩
  have xtIp : FoX_thing.XTxt l.prog K mg CIp gIp := ⟨⟨_, _, _, _, _, _, _, _, _, _, _, _, _, _, _, lCIp, rvIp⟩, saIp, gaIp, ggIp, noIp, inIp, tyIp, kpIp, exIp, tcIp, hdIp, suIp, tpI, PySem.W.mg_none_of X G z_super, veIp, mrIp, tsI, ⟨quIp, msIp, _, _, _, _, _, _, ccIp, cdaIp, _, _, p1Ip, p2Ip, r1Ip, r2Ip, r3Ip, r4Ip, r5Ip, r6Ip, q1Ip, q2Ip, q3Ip, q4Ip, jIp, _, _, _, _, vsIp, _, _, fiIp, tfIp, lgIp, cgIp, lcIp, vfIp, flIp, lnIp, leIp⟩⟩
  have TXx : TxtX l.prog K mg C CIp gIp := ⟨kNC, kBC, kIC, kSC, kLC, xtIp, PySem.W.mg_of X G aCIp⟩
  have Vd : VDefs K mg fG fWe fCk fVa _ _ _ _ := ⟨⟨PySem.W.mg_none_of X G z_sum, PySem.W.mg_none_of X G z_zip, PySem.W.mg_none_of X G z_enumerate, PySem.W.mg_none_of X G z_list, PySem.W.mg_none_of X G z_abs⟩, FG, bG, PySem.W.mg_of X G aG, FWe, bWe, PySem.W.mg_of X G aWe, FCk, bCk, PySem.W.mg_of X G aCk, FVa, bVa, PySem.W.mg_of X G aVa⟩
  have Md : MDefs K mg CM fCu fAp fMI fMT _ _ _ _ := ⟨⟨pgM, hdM, poM, saM⟩, nMP, PySem.W.mg_of X G aCM, ⟨_, PySem.W.mg_of X G aMO⟩, PySem.W.mg_none_of X G z_range, PySem.W.mg_none_of X G z_any, PySem.W.mg_none_of X G z_enumerate, PySem.W.mg_none_of X G z_list, FCu, bCu, PySem.W.mg_of X G aCu, FAp, bAp, PySem.W.mg_of X G aAp, ⟨mkM, aMI, iMI, kcM⟩, FMI, bMI, FMT, bMT, ⟨aMT, iMT, kMT⟩⟩
  have Lf : LDefs K mg CT fH fD fPr fLs fCn fCp fSp fLm fLd fSu fSa fTin _ _ _ _ _ _ _ _ _ _ _ _ := ⟨TLm, FH, bH, PySem.W.mg_of X G aH, FD, bD, PySem.W.mg_of X G aD, FPr, bPr, PySem.W.mg_of X G aPr, FLs, bLs, PySem.W.mg_of X G aLs, FCn, bCn, PySem.W.mg_of X G aCn, FCp, bCp, PySem.W.mg_of X G aCp, FSp, bSp, PySem.W.mg_of X G aSp, FLm, bLm, PySem.W.mg_of X G aLm, FLd, bLd, PySem.W.mg_of X G aLd, FSu, bSu, PySem.W.mg_of X G aSu, FSa, bSa, PySem.W.mg_of X G aSa, FTin, bTin, ⟨aTin, iTin⟩⟩
  exact ⟨PySem.W.fnOf "law" "law" (defArgs sLaw) (defBody sLaw) (defScope sLaw) .none kVZ dcZ pmZ anZ cdZ ctZ, fun s v => .of_eq rfl, fun base _ _ => ok_law FZ Df Td Vd Md TXx Lf⟩
theorem walk {l : PySem.W.OpenLaw} {q : Program} {loose : List Str} {XP : (Str → Option Value) → Heap → Prop} {YP : World → Heap → Prop} {d : DefRec} {K : Params → PySem.W.Frag} (hn : l.most = some 63) (hdf : d.params.defaults = [])
    (hY : ∀ (w : World) (h : Heap), YP w h → (K w.params).In h)
    (F : ∀ (w : World) (mg : Str → Option Value) (fa : Addr) (h : Heap), (K w.params).In h → h.Ns mainGlobals mg → mg d.name = some (.ref fa) →
      ∃ fd : FuncData, (∀ (s : Shared) (u : Value), BindsTo s fd ⟨[u], []⟩ [("script", u)]) ∧ ∀ base : Heap, (K w.params).In base → base.Ns mainGlobals mg → FnOk l.prog w (K w.params) mg base CX0 13 fa fd ["script"] (spLaw (K w.params))) :
    PySem.W.WalkO q loose XP YP l.row.toRowW d [] (fun f vs => PySem.call f vs) :=
  L2.walk_of (n := 63) (k := 13) (x := "script") (CX := fun _ => CX0) (sp := fun w => spLaw (K w.params)) hn (by decide) hdf ⟨rfl, by decide, by decide⟩ hY F (fun _ _ a ns hl _ hS => ⟨a, ns, rfl, hS, hl, fun _ => rfl⟩) fun _ _ _ _ _ z => z
end Fo

open PySem PySem.W PyProof.Rows in
set_option maxRecDepth 100000 in
set_option maxHeartbeats 0 in
theorem PySem.Challenge.cw_filledonce_k74_whole_values_even_holds : PySem.Challenge.rw_filledonce_k74_whole_values_even.Holds := by
  w_on; o_law; k_head; (case hw => w_witness2)
  k_fill
  refine Fo.walk (l := PySem.Challenge.rw_filledonce_k74_whole_values_even) rfl rfl (fun w h Y => PySem.W.kIn_of Y) ?F
  case F =>
    intro w mg fa h KX G hmg
    refine' Fo.all_mk KX G hmg ?aCM ?aC ?aCT ?aW ?lW ?cW ?kW ?aI ?iI ?lI ?cI ?kI ?aP ?lP ?cP ?kP ?aA ?lA ?cA ?kA ?aO ?lO ?cO ?kO ?aS ?lS ?cS ?kS ?aTI ?iTI ?lTI ?cTI ?kTI ?aCo ?iCo ?lCo ?cCo ?kCo ?aEd ?iEd ?lEd ?cEd ?kEd ?aAr ?gAr ?tAr ?rAr ?lAr ?cAr ?kAr ?aEq ?iEq ?lEq ?cEq ?kEq ?aAd ?iAd ?lAd ?cAd ?kAd ?aG ?lG ?cG ?kG ?aWe ?lWe ?cWe ?kWe ?aCk ?lCk ?cCk ?kCk ?aVa ?lVa ?cVa ?kVa ?aTin ?iTin ?lTin ?cTin ?kTin ?aCu ?lCu ?cCu ?kCu ?aAp ?lAp ?cAp ?kAp ?aMI ?iMI ?lMI ?cMI ?kMI ?aMT ?iMT ?lMT ?cMT ?kMT ?aH ?lH ?cH ?kH ?aD ?lD ?cD ?kD ?aPr ?lPr ?cPr ?kPr ?aLs ?lLs ?cLs ?kLs ?aCn ?lCn ?cCn ?kCn ?aCp ?lCp ?cCp ?kCp ?aSp ?lSp ?cSp ?kSp ?aLm ?lLm ?cLm ?kLm ?aLd ?lLd ?cLd ?kLd ?aSu ?lSu ?cSu ?kSu ?aSa ?lSa ?cSa ?kSa ?aZ ?lZ ?cZ ?kZ ?pg ?hd ?po ?sa ?mk ?kc ?nX ?nY ?ha ?hn ?htk ?hm ?kTC ?kCC ?sf ?pgT ?hdT ?poT ?saT ?mkT ?kcT ?nTT ?haT ?hmT ?kLT ?kTT ?pgM ?hdM ?poM ?saM ?mkM ?kcM ?nMP ?aMO ?z_isinstance ?z_len ?z_int ?z_bool ?z_tuple ?z_range ?z_max ?z_min ?z_list ?z_all ?z_repr ?z_super ?z_sum ?z_zip ?z_enumerate ?z_abs ?z_any ?kNC ?kBC ?kIC ?kSC ?kLC ?aCF ?tpI ?tsI ?aCIp ?lCIp ?rvIp ?saIp ?gaIp ?ggIp ?noIp ?inIp ?tyIp ?kpIp ?exIp ?tcIp ?hdIp ?suIp ?veIp ?mrIp ?lgIp ?cgIp ?lcIp ?vfIp ?flIp ?lnIp ?leIp ?caIp ?moIp ?emIp ?ksIp
    (case aCM => first | k_is | rfl | decide +kernel)
    (case aC => first | k_is | rfl | decide +kernel)
    (case aCT => first | k_is | rfl | decide +kernel)
    (case aW => first | k_is | rfl | decide +kernel)
    (case lW => first | k_is | rfl | decide +kernel)
    (case cW => first | k_is | rfl | decide +kernel)
    (case kW => first | k_is | rfl | decide +kernel)
    (case aI => first | k_is | rfl | decide +kernel)
    (case iI => first | k_is | rfl | decide +kernel)
    (case lI => first | k_is | rfl | decide +kernel)
    (case cI => first | k_is | rfl | decide +kernel)
    (case kI => first | k_is | rfl | decide +kernel)
    (case aP => first | k_is | rfl | decide +kernel)
    (case lP => first | k_is | rfl | decide +kernel)
    (case cP => first | k_is | rfl | decide +kernel)
    (case kP => first | k_is | rfl | decide +kernel)
    (case aA => first | k_is | rfl | decide +kernel)
    (case lA => first | k_is | rfl | decide +kernel)
    (case cA => first | k_is | rfl | decide +kernel)
    (case kA => first | k_is | rfl | decide +kernel)
    (case aO => first | k_is | rfl | decide +kernel)
    (case lO => first | k_is | rfl | decide +kernel)
    (case cO => first | k_is | rfl | decide +kernel)
    (case kO => first | k_is | rfl | decide +kernel)
    (case aS => first | k_is | rfl | decide +kernel)
    (case lS => first | k_is | rfl | decide +kernel)
    (case cS => first | k_is | rfl | decide +kernel)
    (case kS => first | k_is | rfl | decide +kernel)
    (case aTI => first | k_is | rfl | decide +kernel)
    (case iTI => first | k_is | rfl | decide +kernel)
    (case lTI => first | k_is | rfl | decide +kernel)
    (case cTI => first | k_is | rfl | decide +kernel)
    (case kTI => first | k_is | rfl | decide +kernel)
    (case aCo => first | k_is | rfl | decide +kernel)
    (case iCo => first | k_is | rfl | decide +kernel)
    (case lCo => first | k_is | rfl | decide +kernel)
    (case cCo => first | k_is | rfl | decide +kernel)
    (case kCo => first | k_is | rfl | decide +kernel)
    (case aEd => first | k_is | rfl | decide +kernel)
    (case iEd => first | k_is | rfl | decide +kernel)
    (case lEd => first | k_is | rfl | decide +kernel)
    (case cEd => first | k_is | rfl | decide +kernel)
    (case kEd => first | k_is | rfl | decide +kernel)
    (case aAr => first | k_is | rfl | decide +kernel)
    (case gAr => first | k_is | rfl | decide +kernel)
    (case tAr => first | k_is | rfl | decide +kernel)
    (case rAr => first | k_is | rfl | decide +kernel)
    (case lAr => first | k_is | rfl | decide +kernel)
    (case cAr => first | k_is | rfl | decide +kernel)
    (case kAr => first | k_is | rfl | decide +kernel)
    (case aEq => first | k_is | rfl | decide +kernel)
    (case iEq => first | k_is | rfl | decide +kernel)
    (case lEq => first | k_is | rfl | decide +kernel)
    (case cEq => first | k_is | rfl | decide +kernel)
    (case kEq => first | k_is | rfl | decide +kernel)
    (case aAd => first | k_is | rfl | decide +kernel)
    (case iAd => first | k_is | rfl | decide +kernel)
    (case lAd => first | k_is | rfl | decide +kernel)
    (case cAd => first | k_is | rfl | decide +kernel)
    (case kAd => first | k_is | rfl | decide +kernel)
    (case aG => first | k_is | rfl | decide +kernel)
    (case lG => first | k_is | rfl | decide +kernel)
    (case cG => first | k_is | rfl | decide +kernel)
    (case kG => first | k_is | rfl | decide +kernel)
    (case aWe => first | k_is | rfl | decide +kernel)
    (case lWe => first | k_is | rfl | decide +kernel)
    (case cWe => first | k_is | rfl | decide +kernel)
    (case kWe => first | k_is | rfl | decide +kernel)
    (case aCk => first | k_is | rfl | decide +kernel)
    (case lCk => first | k_is | rfl | decide +kernel)
    (case cCk => first | k_is | rfl | decide +kernel)
    (case kCk => first | k_is | rfl | decide +kernel)
    (case aVa => first | k_is | rfl | decide +kernel)
    (case lVa => first | k_is | rfl | decide +kernel)
    (case cVa => first | k_is | rfl | decide +kernel)
    (case kVa => first | k_is | rfl | decide +kernel)
    (case aTin => first | k_is | rfl | decide +kernel)
    (case iTin => first | k_is | rfl | decide +kernel)
    (case lTin => first | k_is | rfl | decide +kernel)
    (case cTin => first | k_is | rfl | decide +kernel)
    (case kTin => first | k_is | rfl | decide +kernel)
    (case aCu => first | k_is | rfl | decide +kernel)
    (case lCu => first | k_is | rfl | decide +kernel)
    (case cCu => first | k_is | rfl | decide +kernel)
    (case kCu => first | k_is | rfl | decide +kernel)
    (case aAp => first | k_is | rfl | decide +kernel)
    (case lAp => first | k_is | rfl | decide +kernel)
    (case cAp => first | k_is | rfl | decide +kernel)
    (case kAp => first | k_is | rfl | decide +kernel)
    (case aMI => first | k_is | rfl | decide +kernel)
    (case iMI => first | k_is | rfl | decide +kernel)
    (case lMI => first | k_is | rfl | decide +kernel)
    (case cMI => first | k_is | rfl | decide +kernel)
    (case kMI => first | k_is | rfl | decide +kernel)
    (case aMT => first | k_is | rfl | decide +kernel)
    (case iMT => first | k_is | rfl | decide +kernel)
    (case lMT => first | k_is | rfl | decide +kernel)
    (case cMT => first | k_is | rfl | decide +kernel)
    (case kMT => first | k_is | rfl | decide +kernel)
    (case aH => first | k_is | rfl | decide +kernel)
    (case lH => first | k_is | rfl | decide +kernel)
    (case cH => first | k_is | rfl | decide +kernel)
    (case kH => first | k_is | rfl | decide +kernel)
    (case aD => first | k_is | rfl | decide +kernel)
    (case lD => first | k_is | rfl | decide +kernel)
    (case cD => first | k_is | rfl | decide +kernel)
    (case kD => first | k_is | rfl | decide +kernel)
    (case aPr => first | k_is | rfl | decide +kernel)
    (case lPr => first | k_is | rfl | decide +kernel)
    (case cPr => first | k_is | rfl | decide +kernel)
    (case kPr => first | k_is | rfl | decide +kernel)
    (case aLs => first | k_is | rfl | decide +kernel)
    (case lLs => first | k_is | rfl | decide +kernel)
    (case cLs => first | k_is | rfl | decide +kernel)
    (case kLs => first | k_is | rfl | decide +kernel)
    (case aCn => first | k_is | rfl | decide +kernel)
    (case lCn => first | k_is | rfl | decide +kernel)
    (case cCn => first | k_is | rfl | decide +kernel)
    (case kCn => first | k_is | rfl | decide +kernel)
    (case aCp => first | k_is | rfl | decide +kernel)
    (case lCp => first | k_is | rfl | decide +kernel)
    (case cCp => first | k_is | rfl | decide +kernel)
    (case kCp => first | k_is | rfl | decide +kernel)
    (case aSp => first | k_is | rfl | decide +kernel)
    (case lSp => first | k_is | rfl | decide +kernel)
    (case cSp => first | k_is | rfl | decide +kernel)
    (case kSp => first | k_is | rfl | decide +kernel)
    (case aLm => first | k_is | rfl | decide +kernel)
    (case lLm => first | k_is | rfl | decide +kernel)
    (case cLm => first | k_is | rfl | decide +kernel)
    (case kLm => first | k_is | rfl | decide +kernel)
    (case aLd => first | k_is | rfl | decide +kernel)
    (case lLd => first | k_is | rfl | decide +kernel)
    (case cLd => first | k_is | rfl | decide +kernel)
    (case kLd => first | k_is | rfl | decide +kernel)
    (case aSu => first | k_is | rfl | decide +kernel)
    (case lSu => first | k_is | rfl | decide +kernel)
    (case cSu => first | k_is | rfl | decide +kernel)
    (case kSu => first | k_is | rfl | decide +kernel)
    (case aSa => first | k_is | rfl | decide +kernel)
    (case lSa => first | k_is | rfl | decide +kernel)
    (case cSa => first | k_is | rfl | decide +kernel)
    (case kSa => first | k_is | rfl | decide +kernel)
    (case aZ => first | k_is | rfl | decide +kernel)
    (case lZ => first | k_is | rfl | decide +kernel)
    (case cZ => first | k_is | rfl | decide +kernel)
    (case kZ => first | k_is | rfl | decide +kernel)
    (case pg => first | k_is | rfl | decide +kernel)
    (case hd => first | k_is | rfl | decide +kernel)
    (case po => first | k_is | rfl | decide +kernel)
    (case sa => first | k_is | rfl | decide +kernel)
    (case mk => first | k_is | rfl | decide +kernel)
    (case kc => first | k_is | rfl | decide +kernel)
    (case nX => first | k_is | rfl | decide +kernel)
    (case nY => first | k_is | rfl | decide +kernel)
    (case ha => first | k_is | rfl | decide +kernel)
    (case hn => first | k_is | rfl | decide +kernel)
    (case htk => first | k_is | rfl | decide +kernel)
    (case hm => first | k_is | rfl | decide +kernel)
    (case kTC => first | k_is | rfl | decide +kernel)
    (case kCC => first | k_is | rfl | decide +kernel)
    (case sf => first | k_is | rfl | decide +kernel)
    (case pgT => first | k_is | rfl | decide +kernel)
    (case hdT => first | k_is | rfl | decide +kernel)
    (case poT => first | k_is | rfl | decide +kernel)
    (case saT => first | k_is | rfl | decide +kernel)
    (case mkT => first | k_is | rfl | decide +kernel)
    (case kcT => first | k_is | rfl | decide +kernel)
    (case nTT => first | k_is | rfl | decide +kernel)
    (case haT => first | k_is | rfl | decide +kernel)
    (case hmT => first | k_is | rfl | decide +kernel)
    (case kLT => first | k_is | rfl | decide +kernel)
    (case kTT => first | k_is | rfl | decide +kernel)
    (case pgM => first | k_is | rfl | decide +kernel)
    (case hdM => first | k_is | rfl | decide +kernel)
    (case poM => first | k_is | rfl | decide +kernel)
    (case saM => first | k_is | rfl | decide +kernel)
    (case mkM => first | k_is | rfl | decide +kernel)
    (case kcM => first | k_is | rfl | decide +kernel)
    (case nMP => first | k_is | rfl | decide +kernel)
    (case aMO => first | k_is | rfl | decide +kernel)
    (case z_isinstance => first | k_is | rfl | decide +kernel)
    (case z_len => first | k_is | rfl | decide +kernel)
    (case z_int => first | k_is | rfl | decide +kernel)
    (case z_bool => first | k_is | rfl | decide +kernel)
    (case z_tuple => first | k_is | rfl | decide +kernel)
    (case z_range => first | k_is | rfl | decide +kernel)
    (case z_max => first | k_is | rfl | decide +kernel)
    (case z_min => first | k_is | rfl | decide +kernel)
    (case z_list => first | k_is | rfl | decide +kernel)
    (case z_all => first | k_is | rfl | decide +kernel)
    (case z_repr => first | k_is | rfl | decide +kernel)
    (case z_super => first | k_is | rfl | decide +kernel)
    (case z_sum => first | k_is | rfl | decide +kernel)
    (case z_zip => first | k_is | rfl | decide +kernel)
    (case z_enumerate => first | k_is | rfl | decide +kernel)
    (case z_abs => first | k_is | rfl | decide +kernel)
    (case z_any => first | k_is | rfl | decide +kernel)
    (case kNC => first | k_is | rfl | decide +kernel)
    (case kBC => first | k_is | rfl | decide +kernel)
    (case kIC => first | k_is | rfl | decide +kernel)
    (case kSC => first | k_is | rfl | decide +kernel)
    (case kLC => first | k_is | rfl | decide +kernel)
    (case aCF => first | k_is | rfl | decide +kernel)
    (case tpI => first | k_is | rfl | decide +kernel)
    (case tsI => first | k_is | rfl | decide +kernel)
    (case aCIp => first | k_is | rfl | decide +kernel)
    (case lCIp => first | k_is | rfl | decide +kernel)
    (case rvIp => first | k_is | rfl | decide +kernel)
    (case saIp => first | k_is | rfl | decide +kernel)
    (case gaIp => first | k_is | rfl | decide +kernel)
    (case ggIp => first | k_is | rfl | decide +kernel)
    (case noIp => first | k_is | rfl | decide +kernel)
    (case inIp => first | k_is | rfl | decide +kernel)
    (case tyIp => first | k_is | rfl | decide +kernel)
    (case kpIp => first | k_is | rfl | decide +kernel)
    (case exIp => first | k_is | rfl | decide +kernel)
    (case tcIp => first | k_is | rfl | decide +kernel)
    (case hdIp => first | k_is | rfl | decide +kernel)
    (case suIp => first | k_is | rfl | decide +kernel)
    (case veIp => first | k_is | rfl | decide +kernel)
    (case mrIp => first | k_is | rfl | decide +kernel)
    (case lgIp => first | k_is | rfl | decide +kernel)
    (case cgIp => first | k_is | rfl | decide +kernel)
    (case lcIp => first | k_is | rfl | decide +kernel)
    (case vfIp => first | k_is | rfl | decide +kernel)
    (case flIp => first | k_is | rfl | decide +kernel)
    (case lnIp => first | k_is | rfl | decide +kernel)
    (case leIp => first | k_is | rfl | decide +kernel)
    (case caIp => first | k_is | rfl | decide +kernel)
    (case moIp => first | k_is | rfl | decide +kernel)
    (case emIp => first | k_is | rfl | decide +kernel)
    (case ksIp => first | k_is | rfl | decide +kernel)
