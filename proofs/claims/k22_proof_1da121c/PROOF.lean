import PyProof.Rows.All
import Wide.All
import OpenK.AllK
import Wide.FinOn
import HandS.ForMost
import HandS.Wide
import HandS.IsInst
import HandS.Deep
import HandS.Strs
import HandS.ForExc
import PyProof.ReprRoads
import PyProof.CallFns
import KE.KExcIs
import HandS.Exc
import KE.KExcSuper
import HandS.ExcCtx
import HandS.HotCalls
import KE.KCallOwn
import HandS.Property
import HandS.OwnEq
import HandS.NoneIn
import HandS.Evl
import HandS.More
import HandS.Style
import PySem.Challenge.RW_filledonce_k22_whole_small_shifts
set_option Elab.async false
set_option linter.all false
set_option maxRecDepth 100000
set_option maxHeartbeats 2000000
/-! own binary operators over the hand layer -/
namespace FoOps
open PySem PySem.W PyProof.Rows
section
variable {prog : Program} {w : World} {A : Around} {E : Value → Shared → Prop} {s : Shared} {K : Frag} {x C L f : Addr} {h₀ : Heap} {m : Str → Option Value} {ox : Obj} {od : Option Obj}
theorem tup_add : fillsNumberSlot (.type "tuple") "add" = pure false := by
  unfold fillsNumberSlot
  simp only [typeLookup_type, builtinLookup_eq_fast]
  kernel_rfl
theorem tup_sub : fillsNumberSlot (.type "tuple") "sub" = pure false := by
  unfold fillsNumberSlot
  simp only [typeLookup_type, builtinLookup_eq_fast]
  kernel_rfl
theorem binop_KT {op : Operator} {b : Value} {T : String} {Q : Value → Shared → Prop} (X : K.In s.heap) (I : InstAt s.heap x ox C od) (hT : s.TypeIs b T)
    (hfl : fillsNumberSlot (.type T) op.info.2 = pure false) (hc : selfFirst K C = true)
    (hs : findIn K (.ref C) (PySem.dunder op.info.2) = some (some (.ref f))) (hf : isFn K (.ref f) = true)
    (h : wpAny (model prog w) A (call (.ref f) [.ref x, b]) (PySem.W.CmpBack Q) E s) : wpAny (model prog w) A (binaryOp op (.ref x) b) Q E s := by
  obtain ⟨cd, hcd, hm⟩ := any_some hc
  obtain ⟨rest, hm⟩ : ∃ rest, cd.mro = .ref C :: rest := by
    cases q : cd.mro with
    | nil => rw [q] at hm; cases hm
    | cons a r => rw [q] at hm; exact ⟨r, by rw [List.head?_cons] at hm; cases (beq_iff_eq.mp hm); rfl⟩
  unfold binaryOp
  refine wpAny_holding (wpAny_bind ?_)
  unfold binaryOp1
  refine wpAny_bind (I.type.here (wpAny_bind (wpAny_typeOf hT (wpAny_bind ((fills_K X hcd hm hs).here ?_)))))
  have e : (Value.ref C == Value.type T) = false := by simp
  simp only [e, Bool.false_eq_true, if_false]
  refine wpAny_bind (wpAny_of_eq hfl ?_)
  simp only [Bool.and_false, Bool.false_eq_true, if_false, Bool.false_and, if_true]
  refine wpAny_bind (wpAny_pure ?_)
  simp only [Bool.false_eq_true, if_false]
  refine wpAny_bind (m := tryMethod (.ref x) _ b) ?_
  unfold tryMethod
  refine wpAny_bind (special_fn X I hs (beq_iff_eq.mp hf) (wpAny_mono h (fun v s' hv => ?_) fun _ _ e => e))
  cases v <;> first | exact hv.elim | exact wpAny_pure (wpAny_pure (wpAny_pure hv))
end
end FoOps

namespace L2
open PySem PySem.Spec PyProof.Rows
/-- an own class whose operator nm is the def at f -/
structure OwnOp (K : PySem.W.Frag) (C : Addr) (op : Operator) (f : Addr) : Prop where
  sf : PySem.W.selfFirst K C = true
  at_ : PySem.W.findIn K (.ref C) (PySem.dunder op.info.2) = some (some (.ref f))
  fn : PySem.W.isFn K (.ref f) = true
/-- a op b, a an instance of the class at C, b one too or a tracked tuple -/
def rOwnOp (C : Addr) (sp : Sp) (E : XK) : R2 := fun x y H Q => ∃ a dx fs, x = .ref a ∧ H a = some (.ins C dx fs) ∧
  ((∃ b dy gs, y = .ref b ∧ H b = some (.ins C dy gs)) ∨ ∃ b xs, y = .ref b ∧ H b = some (.tup xs)) ∧ sp [x, y] H Q E
section
variable {X : Cx} {CX : CXT} {k : Nat} {f C : Addr} {fd : FuncData} {ps : List Str} {sp : Sp} {E : XK}
theorem not_ni {z : V} {v : Value} (r : RelV z v) : v ≠ .notImplemented := by
  intro e
  subst e
  cases z <;> first | (cases r; done) | (obtain ⟨_, r⟩ := r; cases r)
theorem cmpBack_of {Q : Value → Shared → Prop} {v : Value} {s : Shared} (hn : v ≠ .notImplemented) (h : Q v s) : PySem.W.CmpBack Q v s := by
  cases v <;> first | exact h | exact absurd rfl hn
theorem op_own {op : Operator} (O : OwnOp X.K C op f) (hfl : fillsNumberSlot (.type "tuple") op.info.2 = pure false) (F : FnOk X.prog X.w X.K X.mg X.base CX k f fd ps sp) (hr : Room k X.A) (hb : Binds X.K fd ps []) (hx : Passes CX X E) :
    OpR X (binaryOp op) (rOwnOp C sp E) := by
  intro pins s σ H x y v u Q I rx ry h
  obtain ⟨a, dx, fs, rfl, ha, hy, q⟩ := h
  obtain rfl : v = Value.ref a := rx
  obtain ⟨mA, J, _⟩ := ins_get I.hok ha
  obtain ⟨od, J, _⟩ := J.look
  obtain ⟨m, hF⟩ := I.fr
  have run : wpAny (model X.prog X.w) X.A (call (.ref f) [.ref a, u]) (PySem.W.CmpBack (EP X pins σ Q)) X.xe s := by
    refine wpAny_mono (run_fn (us := [.ref a, u]) (vs := [.ref a, y]) F hr hb .nil hx I (.cons rfl (.cons ry .nil)) q) (fun r s' z => ?_) fun _ _ z => z
    obtain ⟨z1, H1, I1, rz, qz⟩ := z
    exact cmpBack_of (not_ni rz) ⟨z1, H1, I1, rz, qz⟩
  rcases hy with ⟨b, dy, gs, rfl, hb'⟩ | ⟨b, xs, rfl, hb'⟩
  · obtain rfl : u = Value.ref b := ry
    obtain ⟨mB, J', _⟩ := ins_get I.hok hb'
    obtain ⟨od', J', _⟩ := J'.look
    exact PySem.W.binop_K hF I.ok.mod.kin J J'.type O.sf O.at_ O.fn run
  · obtain rfl : u = Value.ref b := ry
    obtain ⟨_, _, _, o, h1, h2, _⟩ := (show ObjOk X.prog X.w H s.heap b (.tup xs) from I.hok b _ hb')
    exact FoOps.binop_KT I.kIn J ⟨o, h1, h2⟩ hfl O.sf O.at_ O.fn run
end
end L2
set_option Elab.async false
set_option linter.all false
set_option maxRecDepth 100000
set_option maxHeartbeats 2000000
/-! != by an own __eq__, t.index of data -/
namespace FoOps
open PySem PySem.W PyProof.Rows
theorem slot_ne : Slot "object" "__ne__" "object.__ne__" :=
  .of (owner := "object") (n := "__ne__") (by rw [typeLookup_type, builtinLookup_eq_fast]; kernel_rfl) (by decide +kernel) (by decide +kernel) (by decide +kernel)
    (by first | exact .inl (by decide +kernel) | exact .inr (by decide +kernel)) (by rw [isSubtype_type]; kernel_rfl)
section
variable {prog : Program} {w : World} {A : Around} {E : Value → Shared → Prop} {s : Shared} {K : Frag} {x C f : Addr} {ox : Obj} {od : Option Obj} {b : Value}
theorem ne_entry {Q : Fin → Shared → Prop} (X : K.In s.heap) (I : InstAt s.heap x ox C od) (hu : A.units < cLine) (hs : findIn K (.ref C) "__eq__" = some (some (.ref f))) (hf : isFn K (.ref f) = true)
    (h : wpAny (model prog w) A (call (.ref f) [.ref x, b]) (fun v s' => ∃ k, v = .bool k ∧ Q (.done (.ret (.bool (!k)))) s') E s) :
    wpAny (model prog w) A (Builtin.«object.__ne__» ⟨[.ref x, b], []⟩) Q E s := by
  unfold Builtin.«object.__ne__»
  repeat (first
    | with_reducible refine wpAny_cRoomFor hu ?_
    | (refine wpAny_bind (m := callSpecialIfBound? (.ref x) (Str.ofString "__eq__") [b])
        (PySem.W.ifBound_K X I hs hf (wpAny_mono h (fun r s' hr => by
          obtain ⟨k, rfl, hq⟩ := hr
          repeat (first | exact hq | exact wpAny_pure hq | exact wpAny_truthy_bool hq | (refine wpAny_bind (m := truthy (.bool _)) (wpAny_truthy_bool ?_)) | wp_step)) fun _ _ e => e)))
    | wp_step)
theorem ne_own {Q : Value → Shared → Prop} (X : K.In s.heap) (I : InstAt s.heap x ox C od) (hb : Looks (model prog w) s.heap (typeOf b) (.ref C)) (hu : A.units + 1 < cLine)
    (hne : findIn K (.ref C) "__ne__" = some (some (.builtin "object.__ne__"))) (hs : findIn K (.ref C) "__eq__" = some (some (.ref f))) (hf : isFn K (.ref f) = true) (hm : mroIn K C (.type "object") = some true)
    (h : wpAny (model prog w) A.in1 (call (.ref f) [.ref x, b]) (fun v s' => ∃ k, v = .bool k ∧ Q (.bool (!k)) s') E s) : wpAny (model prog w) A (richCompare .NotEq (.ref x) b) Q E s := by
  have sub : Looks (model prog w) s.heap (isInstance (.ref x) (.type "object")) true := I.type.andThen (looks_mroIn X hm)
  have one : wpAny (model prog w) A (tryCompare (.ref x) "__ne__" b) (fun r s' => ∃ v, r = some v ∧ Q v s') E s := by
    unfold tryCompare
    refine wpAny_bind ?_
    simp only [callSpecialIfBound?, bindSpecialIfBound?]
    refine wpAny_holding (wpAny_bind (wpAny_bind (wpAny_bind (I.type.here ((looks_findIn X hne).here ?_)))))
    refine wpAny_bind (wpAny_askSetting (wpAny_ite ?_))
    have fin : wpAny (model prog w) A (call (.builtin "object.__ne__") [.ref x, b]) (fun v s' => ∃ k, v = .bool k ∧ Q (.bool k) s') E s := by
      refine wpAny_call (codeAny_call_builtin slot_ne.plain F.cmpEntry_ne (check_slot F.cmpKind_ne F.cmpSplit_ne sub (F.cmpArgs_ne _ _) ?_))
      refine ne_entry (A := A.in1) X I hu hs hf (wpAny_mono h (fun v s' hv => ?_) fun _ _ z => z)
      obtain ⟨k, rfl, q⟩ := hv
      exact ⟨k, rfl, !k, rfl, q⟩
    have fin2 : wpAny (model prog w) A (call (.builtin "object.__ne__") ([.ref x] ++ [b]) >>= fun v => pure (some v)) (fun a s₁ => wpAny (model prog w) A (match a with | some .notImplemented | none => pure none | some v => pure (some v)) (fun r s' => ∃ v, r = some v ∧ Q v s') E s₁) E s := by
      refine wpAny_bind (wpAny_mono fin (fun v s' hv => ?_) fun _ _ z => z)
      obtain ⟨k, rfl, q⟩ := hv
      exact wpAny_pure (wpAny_pure ⟨_, rfl, q⟩)
    have hbind : bindSpecial (.builtin "object.__ne__") (.ref x) = pure (.builtin "object.__ne__", [.ref x]) := slot_ne.bind _
    split
    · exact wpAny_bind (wpAny_of_eq hbind (wpAny_pure (by exact fin2)))
    · exact wpAny_tryCatch (wpAny_bind (wpAny_of_eq hbind (wpAny_pure (by exact fin2))))
  unfold richCompare
  simp only [oneThing_ref]
  refine wpAny_holding (wpAny_bind (wpAny_cRoomFor (by omega) ?_))
  refine wpAny_bind (I.type.here (wpAny_bind (hb.here ?_)))
  simp only [bne_self_eq_false, Bool.false_eq_true, if_false]
  refine wpAny_bind (wpAny_pure ?_)
  simp only [Bool.false_eq_true, if_false]
  refine wpAny_bind (wpAny_mono one (fun r s' z => ?_) fun _ _ e => e)
  obtain ⟨v, rfl, hq⟩ := z
  exact wpAny_pure hq
end
end FoOps
namespace L2
open PySem PySem.Spec PyProof.Rows
/-- an own class with an own __eq__ at f, and no __ne__ -/
structure OwnEqC (K : PySem.W.Frag) (C f : Addr) : Prop where
  eq : PySem.W.findIn K (.ref C) "__eq__" = some (some (.ref f))
  fn : PySem.W.isFn K (.ref f) = true
  ne : PySem.W.findIn K (.ref C) "__ne__" = some (some (.builtin "object.__ne__"))
  mo : PySem.W.mroIn K C (.type "object") = some true
  nt : PySem.W.notFirst K C (.type "tuple") = true
def rOwnEq (C : Addr) (sp : Sp) (E : XK) : R2 := fun x y H Q => ∃ a dx fs, x = .ref a ∧ H a = some (.ins C dx fs) ∧
  ((∃ b dy gs, y = .ref b ∧ H b = some (.ins C dy gs)) ∨ ∃ b xs, y = .ref b ∧ H b = some (.tup xs)) ∧ sp [x, y] H Q E
def rOwnNe (C : Addr) (sp : Sp) (E : XK) : R2 := fun x y H Q => ∃ a dx fs b dy gs, x = .ref a ∧ H a = some (.ins C dx fs) ∧ y = .ref b ∧ H b = some (.ins C dy gs) ∧
  sp [x, y] H (fun v H' => ∃ k, v = .bl k ∧ Q (.bl (!k)) H') E
section
variable {X : Cx} {CX : CXT} {k : Nat} {f C : Addr} {fd : FuncData} {ps : List Str} {sp : Sp} {E : XK}
theorem op_ownEq (O : OwnEqC X.K C f) (F : FnOk X.prog X.w X.K X.mg X.base CX k f fd ps sp) (hr : Room k X.A) (hb : Binds X.K fd ps []) (hx : Passes CX X E) :
    OpR X (compareOp .Eq) (rOwnEq C sp E) := by
  intro pins s σ H x y v u Q I rx ry h
  obtain ⟨a, dx, fs, rfl, ha, hy, q⟩ := h
  obtain rfl : v = Value.ref a := rx
  obtain ⟨mA, J, _⟩ := ins_get I.hok ha
  obtain ⟨od, J, _⟩ := J.look
  obtain ⟨m, hF⟩ := I.fr
  have run : wpAny (model X.prog X.w) X.A (call (.ref f) [.ref a, u]) (PySem.W.CmpBack (EP X pins σ Q)) X.xe s := by
    refine wpAny_mono (run_fn (us := [.ref a, u]) (vs := [.ref a, y]) F hr hb .nil hx I (.cons rfl (.cons ry .nil)) q) (fun r s' z => ?_) fun _ _ z => z
    obtain ⟨z1, H1, I1, rz, qz⟩ := z
    exact cmpBack_of (not_ni rz) ⟨z1, H1, I1, rz, qz⟩
  show wpAny (model X.prog X.w) X.A (richCompare .Eq (.ref a) u) (EP X pins σ Q) X.xe s
  rcases hy with ⟨b, dy, gs, rfl, hb'⟩ | ⟨b, xs, rfl, hb'⟩
  · obtain rfl : u = Value.ref b := ry
    obtain ⟨mB, J', _⟩ := ins_get I.hok hb'
    obtain ⟨od', J', _⟩ := J'.look
    exact PySem.W.cmp_K (op := .Eq) (tb := .ref C) hr.units0 hF I.ok.mod.kin J J'.type (by simp [PySem.W.notFirst]) O.eq O.fn run
  · obtain rfl : u = Value.ref b := ry
    obtain ⟨_, _, _, o, h1, h2, _⟩ := (show ObjOk X.prog X.w H s.heap b (.tup xs) from I.hok b _ hb')
    have lk : PySem.W.Looks (model X.prog X.w) s.heap (typeOf (.ref b)) (.type "tuple") := fun A Q E s' k q => wpAny_typeOf ⟨o, k _ _ h1, h2⟩ q
    exact PySem.W.cmp_K (op := .Eq) (tb := .type "tuple") hr.units0 hF I.ok.mod.kin J lk O.nt O.eq O.fn run
theorem op_ownNe (O : OwnEqC X.K C f) (F : FnOk X.prog X.w X.K X.mg X.base CX k f fd ps sp) (hr : Room (k + 1) X.A) (hb : Binds X.K fd ps []) (hx : Passes CX X E) :
    OpR X (compareOp .NotEq) (rOwnNe C sp E) := by
  intro pins s σ H x y v u Q I rx ry h
  obtain ⟨a, dx, fs, b, dy, gs, rfl, ha, rfl, hb', q⟩ := h
  obtain rfl : v = Value.ref a := rx
  obtain rfl : u = Value.ref b := ry
  obtain ⟨mA, J, _⟩ := ins_get I.hok ha
  obtain ⟨od, J, _⟩ := J.look
  obtain ⟨mB, J', _⟩ := ins_get I.hok hb'
  obtain ⟨od', J', _⟩ := J'.look
  show wpAny (model X.prog X.w) X.A (richCompare .NotEq (.ref a) (.ref b)) (EP X pins σ Q) X.xe s
  refine FoOps.ne_own I.kIn J J'.type (hu_of hr) O.ne O.eq O.fn O.mo ?_
  have hl := F.len _ _ _ _ q
  have r2 : Vals [V.ref a, V.ref b] [Value.ref a, Value.ref b] := .cons rfl (.cons rfl .nil)
  refine wpAny_call (codeAny_mono (F.run X.A.in1 X.stack s H ⟨[.ref a, .ref b], []⟩ [.ref a, .ref b] [.ref a, .ref b] _ E hr.in1 I.env0.in1 (by
    have := hb s [.ref a, .ref b] I.kIn (by simpa using hl)
    simpa using this) r2 q) fun r s' hq => ?_)
  cases r with
  | error e => exact hx pins σ H s e s' I hq
  | ok fl =>
    cases fl with
    | ret w =>
      obtain ⟨z, H', I', rz, kk, ez, ex⟩ := I.after hq
      subst ez
      cases rz
      exact ⟨kk, rfl, .bl (!kk), H', I', rfl, ex⟩
    | next => exact False.elim hq
    | brk => exact False.elim hq
    | cont => exact False.elim hq
/-- two lists of the very same objects -/
def rNeRefs : R2 := fun x y H Q => ∃ (a b : Addr) (rs : List Addr), x = .ref a ∧ y = .ref b ∧ H a = some (.lst (rs.map V.ref)) ∧ H b = some (.lst (rs.map V.ref)) ∧ Q (.bl false) H
theorem vals_refs : ∀ {rs : List Addr} {us : List Value}, Vals (rs.map V.ref) us → us = rs.map Value.ref
  | [], _, h => by
    cases h
    rfl
  | r :: rs, _, h => by
    cases h with
    | cons h1 h2 =>
      have e1 := vals_refs h2
      cases h1
      rw [e1]
      rfl
theorem op_neRefs (hu : X.A.units < cLine) : OpR X (compareOp .NotEq) rNeRefs := by
  intro pins s σ H x y v u Q I rx ry h
  obtain ⟨a, b, rs, rfl, rfl, ha, hb, q⟩ := h
  obtain rfl : v = Value.ref a := rx
  obtain rfl : u = Value.ref b := ry
  obtain ⟨_, its, n1, r1, e1⟩ := (show ObjOk X.prog X.w H s.heap a (.lst (rs.map V.ref)) from I.hok a _ ha)
  obtain ⟨_, its2, n2, r2, e2⟩ := (show ObjOk X.prog X.w H s.heap b (.lst (rs.map V.ref)) from I.hok b _ hb)
  have q1 := vals_refs r1
  have q2 := vals_refs r2
  subst q1
  subst q2
  have hl1 : s.heap.IsList a (rs.map Value.ref).toArray := ⟨_, e1, rfl, _, rfl⟩
  have hl2 : s.heap.IsList b (rs.map Value.ref).toArray := ⟨_, e2, rfl, _, rfl⟩
  have k := PySem.SeqAt.RcNeAt.lists (A := X.A) (s := s) (e := fun _ => true) hl1 hl2 rfl hu (fun j h1 h2 => PySem.SeqAt.EqAt.same _)
  have e : (!(List.range (rs.map Value.ref).toArray.size).all fun _ => true) = false := by simp
  rw [e] at k
  exact k X.prog X.w X.xe _ ⟨.bl false, H, I, rfl, q⟩
/-- t.index(x) of data: the first place of an equal one -/
def rTIndexD (K : PySem.W.Frag) : V → List V → Hp → VK → Prop := fun x xs H Q => ∃ (a : Addr) (y : V) (d : PyData) (ds : List PyData) (j : Nat) (z : PyData), x = V.ref a ∧ xs = [y] ∧ Dp K H (V.ref a) (.tuple ds) ∧ Dp K H y d ∧
  SeqAt.shaped (.tuple ds) = true ∧ SeqAt.shaped d = true ∧ ds[j]? = some z ∧ PyData.eqv z d = true ∧ (∀ (m : Nat) (z' : PyData), m < j → ds[m]? = some z' → PyData.eqv z' d = false) ∧ Q (.int (j : Nat)) H
theorem mt_tindexD (hu : X.A.units + 65 < cLine) : MtR X "tuple.index" (rTIndexD X.K) := by
  intro pins s σ H x xs v us Q I rx rxs h
  obtain ⟨a, y, d, ds, j, z, rfl, rfl, hl, hy, sl, sd, hz, hzj, hno, q⟩ := h
  cases rx
  cases rxs with
  | cons ry rt =>
    rename_i uy ut
    cases rt
    obtain ⟨bs, r1⟩ := Dp.reads I d y uy hy ry
    have hxs : PyData.canLayAll0 ds = true := SeqAt.canLay_of_shaped sl
    have hroom : X.A.units + 1 + min (PyData.depthAll ds) d.depth < cLine := room_in_shaped sd hu
    cases hl with
    | tup hs ha =>
      obtain ⟨its, rv, pl, hlen⟩ := I.tuple hs
      obtain ⟨⟨cls, dd, dt, sls⟩, ho, hc, n, hd⟩ := pl
      simp only at hc hd
      subst hc
      subst hd
      obtain ⟨as, h4⟩ := Dp.readsAll I ds _ its ha rv
      have hn : its.length = ds.length := SeqAt.ReadsAll.length ds its as h4
      have hmap : its.map (SeqAt.readOf s.heap) = ds := SeqAt.readsAll_map ds its as hxs h4
      obtain ⟨hjd, _⟩ := List.getElem?_eq_some_iff.mp hz
      have hjl : j < its.length := by omega
      have hj : j < its.toArray.size := by simpa using hjl
      have at_ : ∀ (m : Nat) (hm : m < its.toArray.size) (z' : PyData), ds[m]? = some z' → SeqAt.readOf s.heap its.toArray[m] = z' := by
        intro m hm z' hz'
        have hml : m < its.length := by simpa using hm
        rw [← hmap, List.getElem?_map, List.getElem?_eq_getElem hml] at hz'
        have e1 : SeqAt.readOf s.heap its[m] = z' := Option.some.inj (show some (SeqAt.readOf s.heap its[m]) = some z' from hz')
        simpa using e1
      refine call_meets PySem.F.slot_tuple_index ⟨_, ho, rfl⟩ PySem.F.entry_tuple_index (PySem.F.args_tuple_index_2 _ _)
        (TI.tuple_indexAt a its.toArray n dd sls uy (fun u => PyData.eqv (SeqAt.readOf s.heap u) d) j hj ?_ ?_) ⟨ho, SeqAt.items_eqAt (vs := its.toArray) (show ReadsAll s.heap its.toArray.toList ds as from h4) r1 hxs (SeqAt.canLay_of_shaped sd) hroom, ?_⟩
      · show PyData.eqv (SeqAt.readOf s.heap its.toArray[j]) d = true
        rw [at_ j hj z hz]
        exact hzj
      · intro m hm hmj
        have hmd : m < ds.length := by omega
        have hz' : ds[m]? = some ds[m] := List.getElem?_eq_getElem hmd
        show PyData.eqv (SeqAt.readOf s.heap its.toArray[m]) d = false
        rw [at_ m hm _ hz']
        exact hno m _ hmj hz'
      · exact ⟨.int (j : Nat), H, I.tok _, ⟨_, rfl⟩, q⟩
end
end L2
set_option Elab.async false
set_option linter.all false
set_option maxRecDepth 100000
set_option maxHeartbeats 2000000
/-! a * n by an own __mul__, n an int -/
namespace FoOps
open PySem PySem.W PyProof.Rows
theorem int_mul : fillsNumberSlot (.type "int") "mul" = pure true := by
  unfold fillsNumberSlot
  simp only [typeLookup_type, builtinLookup_eq_fast]
  kernel_rfl
theorem look_int : typeLookup (.type "int") (dunderR "mul") = pure (some (.builtin "int.__rmul__")) := by
  rw [typeLookup_type, builtinLookup_eq_fast]
  kernel_rfl
section
variable {prog : Program} {w : World} {A : Around} {E : Value → Shared → Prop} {s : Shared} {K : Frag} {x C f g : Addr} {ox : Obj} {od : Option Obj}
theorem inPython_K {M : Model} {h : Heap} {nm : String} (X : K.In h) (hs : findIn K (.ref C) (PySem.dunder nm) = some (some (.ref f))) (hr : findIn K (.ref C) (dunderR nm) = some (some (.ref g))) : Looks M h (numberSlotInPython (.ref C) nm) true := by
  intro A Q E s k q
  unfold numberSlotInPython
  refine wpAny_bind (looks_findIn X hs A _ E s k ?_)
  show wpAny M A (calledByName (.ref C) (PySem.dunder nm) (some (.ref f)) >>= _) Q E s
  refine wpAny_bind (wpAny_pure ?_)
  refine wpAny_bind (looks_findIn X hr A _ E s k ?_)
  show wpAny M A (calledByName (.ref C) (dunderR nm) (some (.ref g)) >>= _) Q E s
  refine wpAny_bind (wpAny_pure ?_)
  rw [if_pos (by rfl)]
  exact wpAny_pure q
theorem mul_KI {i : Int} {t : Tok} {Q : Value → Shared → Prop} (X : K.In s.heap) (I : InstAt s.heap x ox C od) (hc : selfFirst K C = true) (hsub : subIn K (.type "int") (.ref C) = some false)
    (hs : findIn K (.ref C) (PySem.dunder "mul") = some (some (.ref f))) (hf : isFn K (.ref f) = true) (hr : findIn K (.ref C) (dunderR "mul") = some (some (.ref g)))
    (h : wpAny (model prog w) A (call (.ref f) [.ref x, .int i t]) (PySem.W.CmpBack Q) E s) : wpAny (model prog w) A (binaryOp .Mult (.ref x) (.int i t)) Q E s := by
  obtain ⟨cd, hcd, hm⟩ := any_some hc
  obtain ⟨rest, hm⟩ : ∃ rest, cd.mro = .ref C :: rest := by
    cases q : cd.mro with
    | nil => rw [q] at hm; cases hm
    | cons a r => rw [q] at hm; exact ⟨r, by rw [List.head?_cons] at hm; cases (beq_iff_eq.mp hm); rfl⟩
  unfold binaryOp
  refine wpAny_holding (wpAny_bind ?_)
  show wpAny _ _ (binaryOp1 "mul" (.ref x) (.int i t)) _ _ _
  unfold binaryOp1
  refine wpAny_bind (I.type.here (wpAny_bind (wpAny_typeOf (T := "int") rfl (wpAny_bind ((fills_K X hcd hm hs).here ?_)))))
  have e : (Value.ref C == Value.type "int") = false := by simp
  simp only [e, Bool.false_eq_true, if_false]
  refine wpAny_bind (wpAny_of_eq int_mul ?_)
  simp only [Bool.and_self, if_true]
  refine wpAny_bind ((looks_subIn X hsub).here ?_)
  simp only [Bool.false_eq_true, if_false, Bool.not_false, Bool.and_true, if_true]
  refine wpAny_bind ((inPython_K X hs hr).here ?_)
  simp only [if_true]
  refine wpAny_bind (wpAny_of_eq (show numberSlotInPython (.type "int") "mul" = pure false from rfl) ?_)
  simp only [Bool.not_false, if_true]
  refine wpAny_bind (wpAny_of_eq look_int ?_)
  dsimp only
  refine wpAny_bind (m := tryMethod (.ref x) _ _) ?_
  unfold tryMethod
  refine wpAny_bind (special_fn X I hs (beq_iff_eq.mp hf) (wpAny_mono h (fun v s' hv => ?_) fun _ _ e => e))
  cases v <;> first | exact hv.elim | exact wpAny_pure (wpAny_pure (wpAny_pure hv))
end
end FoOps
namespace L2
open PySem PySem.Spec PyProof.Rows
structure OwnMul (K : PySem.W.Frag) (C f g : Addr) : Prop where
  sf : PySem.W.selfFirst K C = true
  at_ : PySem.W.findIn K (.ref C) "__mul__" = some (some (.ref f))
  fn : PySem.W.isFn K (.ref f) = true
  rat : PySem.W.findIn K (.ref C) "__rmul__" = some (some (.ref g))
  sb : PySem.W.subIn K (.type "int") (.ref C) = some false
def rOwnMul (C : Addr) (sp : Sp) (E : XK) : R2 := fun x y H Q => ∃ a dx fs i, x = .ref a ∧ H a = some (.ins C dx fs) ∧ y = .int i ∧ sp [x, y] H Q E
section
variable {X : Cx} {CX : CXT} {k : Nat} {f g C : Addr} {fd : FuncData} {ps : List Str} {sp : Sp} {E : XK}
theorem op_ownMul (O : OwnMul X.K C f g) (F : FnOk X.prog X.w X.K X.mg X.base CX k f fd ps sp) (hr : Room k X.A) (hb : Binds X.K fd ps []) (hx : Passes CX X E) :
    OpR X (binaryOp .Mult) (rOwnMul C sp E) := by
  intro pins s σ H x y v u Q I rx ry h
  obtain ⟨a, dx, fs, i, rfl, ha, rfl, q⟩ := h
  obtain rfl : v = Value.ref a := rx
  obtain ⟨mA, J, _⟩ := ins_get I.hok ha
  obtain ⟨od, J, _⟩ := J.look
  have run : wpAny (model X.prog X.w) X.A (call (.ref f) [.ref a, u]) (PySem.W.CmpBack (EP X pins σ Q)) X.xe s := by
    refine wpAny_mono (run_fn (us := [.ref a, u]) (vs := [.ref a, .int i]) F hr hb .nil hx I (.cons rfl (.cons ry .nil)) q) (fun r s' z => ?_) fun _ _ z => z
    obtain ⟨z1, H1, I1, rz, qz⟩ := z
    exact cmpBack_of (not_ni rz) ⟨z1, H1, I1, rz, qz⟩
  obtain ⟨t, rfl⟩ := ry
  exact FoOps.mul_KI I.kIn J O.sf O.sb O.at_ O.fn O.rat run
end
end L2
set_option Elab.async false
set_option linter.all false
set_option maxRecDepth 100000
set_option maxHeartbeats 2000000
/-! defs that are called where no guard stands (so that repr of lists and tuples can be told) -/
namespace L2
open PySem PySem.Spec PyProof.Rows
/-- the promise of a def, where nothing is being shown around it -/
structure FnG (P : Program) (w : World) (K : PySem.W.Frag) (mg : Str → Option Value) (base : Heap) (CX : CXT) (k : Nat) (f : Addr) (fd : FuncData) (ps : List Str) (sp : Sp) : Prop where
  len : ∀ vs H Q E, sp vs H Q E → vs.length = ps.length
  run : ∀ (A : Around), A.guards = some [] → ∀ (outer : List Env) (s : Shared) (H : Hp) (args : Args) (us : List Value) (vs : List V) (Q : VK) (E : XK), Room k A → Env0 P w K mg base A outer s H → BindsTo s fd args (ps.zip us) → Vals vs us → sp vs H Q E →
    codeAny (model P w) A (.call (.ref f) args) (CR CX outer P w H s Q E) s
section
variable {P : Program} {w : World} {K : PySem.W.Frag} {mg : Str → Option Value} {base : Heap}
/-- by its body -/
theorem Fun.okG {x qual : Str} {st : Stmt} {f : Addr} {fd : FuncData} {N ps : List Str} {k : Nat} {sp : Sp} (F : Fun K x qual st f fd) (S : FnScope N ps (defScope st)) (len : ∀ vs H Q E, sp vs H Q E → vs.length = ps.length)
    (walk : ∀ (cdv : Value) (A : Around) (outer : List Env) (s : Shared) (H : Hp) (vs : List V) (Q : VK) (E : XK), A.guards = some [] → Room k (A.deeper (envOfC qual (defScope st) s.heap.objs.size f cdv)) → sp vs H Q E →
      ∃ t, PSs (cxOf CX0 P w K mg base N qual (defScope st) f cdv A outer s H E).nox (defBody st) t ∧ t { nx := fun _ H' => Q .non H', rt := Q } (start N vs) H) : FnG P w K mg base CX0 (k + 1) f fd ps sp := by
  obtain ⟨oc, od, kV, doc, pm, an, cdv, ct, osl, rfl, lk, hcd⟩ := F.ex
  constructor
  · exact len
  intro A hgd outer s H args us vs Q E room env bind rel want
  have inB : ∀ b o, base.get? b = some o → s.heap.get? b = some o := fun b o z => (env.bs b o z).1
  have inK := env.mod.kin.keeps inB
  have kinds : ∀ y ∈ ps.zip us, (defScope st).names.lookup y.1 = some .local ∨ ((defScope st).names.lookup y.1 = some .cell ∧ ((cellsFrom (s.heap.objs.size + 1) (defScope st).names []).lookup y.1).isSome = true) := by
    rintro ⟨n, v⟩ hy
    exact (S.par n (List.of_mem_zip hy).1).imp id fun q => ⟨q, PySem.W.cellsFrom_some _ _ _ (.inl q)⟩
  refine codeAny_call_function room.depth (inK _ _ lk) rfl S.co S.gen rfl (PySem.W.codeRec_of inK hcd) (bind _ _ _ _ (wpAny_newFunctionEnv_cells S.kind kinds ?_))
  rintro _ rfl s1 entry
  refine ⟨(env.mod.nolimit.keeps inB).keeps entry.toInCall.keep, codeAny_func ?_⟩
  obtain ⟨t, body, told⟩ := walk cdv A outer s H vs Q E hgd (room.deeper _) want
  have start0 := inv_start (CX := CX0) (E := E) S room.hd env (len _ _ _ _ want) rel entry
  refine wpAny_mono (body.nox.run [] s1 (start N vs) H _ start0 told) ?_ fun _ _ z => z
  intro fl s' z
  cases fl with
  | ret u =>
    obtain ⟨v, σ', H', J, rv, q⟩ := z
    exact ⟨v, H', J.os, J.bare, J.base, J.hok, rv, q⟩
  | next =>
    obtain ⟨σ', H', J, q⟩ := z
    exact ⟨.non, H', J.os, J.bare, J.base, J.hok, rfl, q⟩
  | brk => exact z.elim fun _ z => z.elim fun _ z => z.2.elim
  | cont => exact z.elim fun _ z => z.elim fun _ z => z.2.elim
end
section
variable {X : Cx} {CX : CXT} {k : Nat} {f : Addr} {fd : FuncData} {ps : List Str} {sp : Sp} {E : XK} {x : Str} {p pos : Pos} {e : Expr} {es : List Expr} {t : TA}
/-- f(e, ..) of such a def -/
theorem pe_callG (F : FnG X.prog X.w X.K X.mg X.base CX k f fd ps sp) (hgd : X.A.guards = some []) (hr : Room k X.A) (hg : Gl X x) (hm : X.mg x = some (.ref f)) (hk : PySem.W.keepIn X.K (.ref f) = true) (hb : Binds X.K fd ps []) (hx : Passes CX X E)
    (ha : PA X (e :: es) t) (hdb : (x == ("__debug__" : Str)) = false := by decide) (he : starEach (e :: es) X.env = (false, eval e X.env) :: starEach es X.env := by rfl) (hpl : (backTo pos (starEach es X.env)).any (·.1) = false := by rfl) :
    PE X (.Call (.Name x p) (e :: es) [] pos) (tCall sp [] E t) := by
  constructor
  intro pins s σ H Q I h
  refine wpAny_Call_Name_kw (ld_glob I hg hm (PySem.W.callWith_K (h₀ := X.base) I.ok.mod.kin hk (thn (ha.run pos pins s σ H _ I h) ?_) he hpl) hdb)
  rintro us s1 ⟨vs, H1, I1, rel, want⟩
  refine ⟨I1.kIn, ?_⟩
  rw [List.append_nil] at want
  have ln : us.length = ps.length := rel.length.symm.trans (F.len _ _ _ _ want)
  have bnd := hb s1 us I1.kIn (by rw [List.append_nil]; exact ln)
  rw [List.append_nil] at bnd
  refine wpAny_call (codeAny_mono (F.run X.A hgd X.stack s1 H1 ⟨us, []⟩ us vs Q E hr I1.env0 bnd rel want) ?_)
  intro r s' z
  rcases r with e | (u | _ | _ | _)
  · exact hx pins σ H1 s1 e s' I1 z
  all_goals first | exact I1.after z | exact False.elim z
end
end L2
namespace L2
open PySem PySem.Spec PyProof.Rows
/-- the end of a law whose def is such a one -/
theorem walk_ofG {l : PySem.W.OpenLaw} {n k : Nat} {q : Program} {loose : List Str} {XP : (Str → Option Value) → Heap → Prop} {YP : World → Heap → Prop} {d : DefRec} {K : Params → PySem.W.Frag} {sp : World → Sp} {x : Str}
    (hn : l.most = some n) (hn2 : n ≤ sizeLine) (hdf : d.params.defaults = []) (hr : Room k callerA) (hY : ∀ (w : World) (h : Heap), YP w h → (K w.params).In h)
    (F : ∀ (w : World) (mg : Str → Option Value) (fa : Addr) (h : Heap), (K w.params).In h → h.Ns mainGlobals mg → mg d.name = some (.ref fa) →
      ∃ fd : FuncData, (∀ (s : Shared) (u : Value), BindsTo s fd ⟨[u], []⟩ [(x, u)]) ∧ ∀ base : Heap, (K w.params).In base → base.Ns mainGlobals mg → FnG l.prog w (K w.params) mg base CX0 k fa fd [x] (sp w))
    (hsp : ∀ (w : World) (H : Hp) (a : Addr) (ns : List Int), ns.length ≤ n → SqL (K w.params) H a (ns.map V.int) → sp w [.ref a] H (fun v _ => v = .bl true) E0) :
    PySem.W.WalkO q loose XP YP l.row.toRowW d [] (fun f vs => PySem.call f vs) := by
  refine Att.attach_call hn hdf fun w s₀ s₁ mg mb fa o pm cd doc a vs ns G Y _ _ _ hmg hobj hints hlen hg => ?_
  have inK := hY w _ Y
  obtain ⟨fd, bind, told⟩ := F w mg fa _ inK G.T.g hmg
  have rel := vals_ints hints
  have long : ns.length ≤ sizeLine := Nat.le_trans hlen hn2
  -- any abstract heap that knows at most the script, as it lies
  have key : ∀ H : Hp, (∀ b u, H b = some u → b = a ∧ (K w.params).lookup a = none ∧ u = .frz { cls := .type "list", data := .seq vs.toArray } (.lst (ns.map V.int))) → SqL (K w.params) H a (ns.map V.int) → HOk l.prog w H s₁.heap →
      codeAny (model l.prog w) callerA (.call (.ref fa) ⟨[.ref a], []⟩) (fun r s' => r = .ok (.ret (.bool true)) ∧ OldK s₁.heap s'.heap ∧ s'.os = s₁.os ∧ AllBare s'.gens) s₁ := by
    intro H only sq ok
    have keepN : ∀ {b : Addr} {m : Str → Option Value}, s₁.heap.Ns b m → (hidT s₁.heap H).Ns b m := by
      rintro b m ⟨ob, es, ep, h1, h2, r⟩
      refine ⟨ob, es, ep, hidT_get h1 ?_, h2, r⟩
      cases hH : H b with
      | none => rfl
      | some u =>
        obtain ⟨rfl, _, _⟩ := only b u hH
        rw [hobj] at h1
        cases h1
        cases h2
    have kIn' : (K w.params).In (hidT s₁.heap H) := fun b ob z => hidT_get (inK b ob z) (by
      cases hH : H b with
      | none => rfl
      | some u =>
        obtain ⟨rfl, hno, _⟩ := only b u hH
        rw [hno] at z
        cases z)
    obtain ⟨mc, c1, c2⟩ := G.T.nolimit
    have env : Env0 l.prog w (K w.params) mg (hidT s₁.heap H) callerA [] s₁ H := by
      refine ⟨rfl, ⟨kIn', keepN G.T.g, ⟨mb, keepN G.T.b, G.T.builtins⟩, ⟨mc, keepN c1, c2⟩⟩, fun b ob z => of_hidT z, Nat.le_of_eq (hidT_size _ _), trivial, fun b hb => ?_, ok, .of_eq hg⟩
      have hb' : b ∈ ([] : List Addr) := hb
      cases hb'
    refine codeAny_mono ((told _ kIn' (keepN G.T.g)).run callerA rfl [] s₁ H ⟨[.ref a], []⟩ [.ref a] [.ref a] _ _ hr env (bind s₁ (.ref a)) (.cons rfl .nil) (hsp w H a ns hlen sq)) ?_
    intro r s' z
    cases r with
    | error e => exact False.elim z
    | ok fl =>
      cases fl with
      | next => exact False.elim z
      | brk => exact False.elim z
      | cont => exact False.elim z
      | ret u =>
        obtain ⟨v, H', os, bare, un, ok', rv, ev⟩ := z
        have ev' : v = .bl true := ev
        subst ev'
        obtain rfl : u = Value.bool true := rv
        refine ⟨rfl, OldK.of_keep fun b ob hb => ?_, os, bare⟩
        cases hH : H b with
        | none =>
          refine un.keep b ob hb hH (fun hm => ?_) (by simp)
          have hm' : b ∈ ([] : List Addr) := hm
          cases hm'
        | some u =>
          obtain ⟨rfl, _, rfl⟩ := only b u hH
          obtain ⟨e1, _⟩ := ok b _ hH
          obtain ⟨e2, _⟩ := ok' b _ (un.frzs b _ _ hH)
          rw [hb] at e1
          cases e1
          exact e2
  by_cases hk : (K w.params).lookup a = none
  · refine key (fun b => if b = a then some (.frz { cls := .type "list", data := .seq vs.toArray } (.lst (ns.map V.int))) else none) (fun b u z => ?_) (.inl (.inr ⟨_, if_pos rfl⟩)) (fun b u z => ?_)
    · try dsimp only at z
      by_cases hb : b = a
      · rw [if_pos hb] at z
        exact ⟨hb, hk, (Option.some.inj z).symm⟩
      · rw [if_neg hb] at z
        cases z
    · try dsimp only at z
      by_cases hb : b = a
      · rw [if_pos hb] at z
        cases z
        subst hb
        exact ⟨hobj, by rw [List.length_map]; exact long, vs, _, rel, hobj⟩
      · rw [if_neg hb] at z
        cases z
  · obtain ⟨ob, hob⟩ := Option.ne_none_iff_exists'.mp hk
    have same := inK a ob hob
    rw [hobj] at same
    cases same
    refine key (fun _ => none) (fun b u z => by cases z) (.inr ⟨_, vs.toArray, _, hob, rfl, rfl, rfl, ?_, by simpa using rel⟩) (fun b u z => by cases z)
    rw [List.size_toArray, hints.length]
    exact long
end L2
set_option Elab.async false
set_option linter.all false
set_option maxRecDepth 100000
set_option maxHeartbeats 2000000
/-! repr of data, where no guard stands -/
namespace L2
open PySem PySem.Spec PyProof.Rows
def rReprD (K : PySem.W.Frag) : List V → Hp → VK → Prop := fun xs H Q => ∃ x d, xs = [x] ∧ Dp K H x d ∧ d.showable = true ∧ d.hasDict = false ∧ d.depth ≤ 60 ∧ d.shown.length ≤ sizeLine ∧ Q (.str d.shown) H
theorem call_reprD {X : Cx} (hgd : X.A.guards = some []) (hu : X.A.units + 64 < cLine) : CallR X (.builtin "repr") (rReprD X.K) := by
  intro pins s σ H xs us Q I r h
  obtain ⟨x, d, rfl, hd, hs, hnd, hdp, hz, q⟩ := h
  obtain ⟨u, rfl, rx⟩ := vals1 r
  obtain ⟨as, rd⟩ := Dp.reads I d x u hd rx
  cases hd with
  | non =>
    obtain rfl : u = Value.none := rx
    exact PySem.P.repr_of_none ⟨.str "None", H, I.tok _, ⟨_, rfl⟩, q⟩
  | bl b =>
    obtain rfl : u = Value.bool b := rx
    exact PySem.P.repr_of_bool ⟨.str _, H, I.tok _, ⟨_, rfl⟩, q⟩
  | int i =>
    obtain ⟨t, rfl⟩ := rx
    exact PySem.P.repr_of_int (by simpa [PyData.showable] using hs) ⟨.str (toString i), H, I.tok _, ⟨_, rfl⟩, q⟩
  | str y =>
    obtain ⟨t, rfl⟩ := rx
    exact PySem.P.repr_of_str ⟨.str (reprText y), H, I.tok _, ⟨_, rfl⟩, q⟩ hz
  | @lst a ys ds h1 h2 =>
    obtain rfl : u = Value.ref a := rx
    exact repr_of_reads' rd hs (fun z => by rw [hnd] at z; cases z) hgd (by omega) (fun _ _ z => z) (fun h' v tk k => ⟨.str _, H, I.kept k, ⟨_, rfl⟩, q⟩) hz
  | @tup a ys ds h1 h2 =>
    obtain rfl : u = Value.ref a := rx
    exact repr_of_reads' rd hs (fun z => by rw [hnd] at z; cases z) hgd (by omega) (fun _ _ z => z) (fun h' v tk k => ⟨.str _, H, I.kept k, ⟨_, rfl⟩, q⟩) hz
end L2
namespace L2
open PySem PySem.Spec PyProof.Rows
/-- what an own error class says, so that isinstance asks its instances rightly -/
structure XIsC (K : PySem.W.Frag) (D : Addr) : Prop where
  hg : PySem.W.findIn K (.ref D) "__getattribute__" = some (some (.builtin "BaseException.__getattribute__"))
  hk : PySem.W.findIn K (.ref D) "__getattr__" = some none
  hs : PySem.W.subIn K (.ref D) (.type "BaseException") = some true
  hd : PySem.W.hasDictIn K D = true
  ha : PySem.W.findIn K (.ref D) "__class__" = some (some (.builtin "object.__class__"))
  hn : PySem.W.specialIn K (.builtin "object.__class__") "__get__" = some (some (.builtin "getset_descriptor.__get__"))
  ht : PySem.W.takesIn K (.builtin "object.__class__") = some true
  hm : PySem.W.mroIn K D (.type "object") = some true
end L2
namespace L2
open PySem PySem.Spec PyProof.Rows
/-- isinstance(e, c), e the error that the suite holds (at a; its class cls, its dict d) -/
def rIsX (K : PySem.W.Frag) (a : Addr) (cls : Value) (d : Option Addr) : List V → Hp → VK → Prop := fun xs H Q => ∃ (D dd : Addr) (fs : List (Str × V)) (c : V) (cv : Value) (b : Bool), xs = [.ref a, c] ∧ cls = .ref D ∧ d = some dd ∧ H dd = some (.xd fs) ∧ ClsV c cv ∧ XIsC K D ∧
  PySem.W.kitOne K (.ref D) cv = some b ∧ Q (.bl b) H
theorem call_isX {X : Cx} {a : Addr} {oe : Obj} {cls : Value} {d : Option Addr} {pn : List (Addr × Obj)} (hz : Zc cls d oe) (hf : ∃ vs, oe.data = .fields vs) : CallR (X.suite a ((a, oe) :: pn)) (.builtin "isinstance") (rIsX X.K a cls d) := by
  intro pins s σ H xs us Q I r h
  obtain ⟨D, dd, fs, c, cv, b, rfl, rfl, rfl, hdd, hcv, T, e, q⟩ := h
  obtain ⟨u1, u2, rfl, r1, r2⟩ := vals2 r
  obtain rfl : u1 = Value.ref a := r1
  obtain rfl := hcv.eq r2
  obtain ⟨ha, _⟩ := I.pin (a, oe) (List.mem_append_left _ List.mem_cons_self)
  obtain ⟨vs, hd⟩ := hf
  obtain ⟨mA, hns, _⟩ := (show ObjOk X.prog X.w H s.heap dd (.xd fs) from I.hok dd _ hdd)
  obtain ⟨od, ho, _⟩ := lookIn_ns hns
  have J : PySem.W.InstAt s.heap a oe D (some od) := ⟨ha, hz.1, by unfold PySem.W.notCls; rw [hd] <;> rfl, by rw [hz.2]; exact ho⟩
  have hcl : (PySem.W.clsIn X.K D).isSome = true := by
    obtain ⟨cd, hc, _⟩ := PySem.W.any_some T.hd
    rw [hc]
    rfl
  exact PySem.W.kia_one (PySem.W.kitx_exc hcl T.hg T.hk T.hs T.ha T.hn T.ht T.hm) I.kIn J e (fun z => nomatch z) fun tk => ⟨.bl b, H, I.kept (t' := tk) fun _ _ z => z, rfl, q⟩
end L2
set_option Elab.async false
set_option linter.all false
set_option maxRecDepth 100000
set_option maxHeartbeats 2000000
/-! an own error over ValueError (perhaps over others between), whose __init__ says super().__init__(text) and keeps one field -/
namespace FoX
open PySem PySem.W PySem.Calls PyProof.Rows PySem.HandSPX
theorem one_sz (v : Value) : [v].length ≤ sizeLine := by
  rw [sizeLine_eq]
  exact (by decide : 1 ≤ 16777216)
section
variable {prog : Program} {w : World} {A : Around} {E : Value → Shared → Prop} {h : Heap} {g : Array GenState} {d : Drawn} {t : Nat} {os : OsState}
/-- the bound built-in __init__ called -/
theorem mw_call {nm q : Str} {C N u e t0 : Addr} {bs bm : List Value} {hdct : Bool} {sn : List Str} {sub : List Value} {ab : Bool} {col : Option Bool} {dd : Option Addr} {k0 k1 k2 k3 k5 : Option Value} {rest : List Value} {Q : Value → Shared → Prop}
    (hC : h.get? C = some (excClassObj nm q C N bs bm hdct sn sub ab col dd k0 k1 k2 k3 k5 "ValueError.__new__")) (he : h.get? e = some (HandSPX.excO C t0)) (hu : h.get? u = some (kxs_mw "ValueError.__init__" e)) (hz : rest.length ≤ sizeLine)
    (hq : ∀ h' t1, (∀ b o, b ≠ e → h.get? b = some o → h'.get? b = some o) → h'.get? e = some (HandSPX.excO C t1) → Q .none ⟨h', g, d, t, os⟩) :
    wpAny (model prog w) A (call (.ref u) rest) Q E ⟨h, g, d, t, os⟩ := by
  refine wpAny_call (codeAny_of_tree ?_)
  show wpAny (model prog w) A.in1 (callAny (.ref u) ⟨rest, []⟩) _ _ _
  simp only [callAny]
  refine wpAny_bind (wpAny_load hu ?_)
  have tb : (Value.type "method-wrapper" == Value.type "method" || Value.type "method-wrapper" == Value.type "builtin_function_or_method" || Value.type "method-wrapper" == Value.type "method-wrapper") = true := by decide
  simp only [kxs_mw, tb, if_true]
  refine KFB.if_so (by decide) (wpAny_bind (check_bound_init F.excBase_ValueError.toExcCallFacts hC he rfl ?_))
  refine wpAny_bind (wpAny_pure (wpAny_pure ⟨plainId_quiet F.excBase_ValueError.init.plain _, codeAny_builtin F.excBase_ValueError.initEntry ?_⟩))
  exact exc_init_tree (cls := .ref C) (t0 := t0) (dv := none) (c2 := .none) (c3 := .none) (b4 := .bool false) he hz fun h' k e' _ => hq h' _ k e'
end
end FoX
set_option Elab.async false
set_option linter.all false
set_option maxRecDepth 100000
set_option maxHeartbeats 2000000
namespace FoX_thing
open PySem PySem.W PySem.Calls PyProof.Rows PySem.HandSPX FoX
/-- the text of such an __init__ -/
def xB (msg : Str) (a1 a2 a3 a4 a5 a6 q1 q2 q3 q4 : Pos) (j : Nat) : List Stmt :=
  [.Expr (.Call (.Attribute (.Call (.Name "super" a1) [] [] a2) "__init__" a3) [.Constant (.str msg) j a4] [] a5) a6, .Assign [.Attribute (.Name "self" q1) (Str.ofString "thing") q2] (.Name (Str.ofString "thing") q3) q4]
def xS : Scope := { kind := .function, names := [(Str.ofString "self", .local), ((Str.ofString "thing"), .local), (Str.ofString "__class__", .free), (Str.ofString "super", .globalImplicit)], isGenerator := false, isCoroutine := false, more := [] }
def xA (p1 p2 : Pos) : Arguments := { posonlyargs := [], args := [{ arg := "self", annotation := none, pos := p1 }, { arg := (Str.ofString "thing"), annotation := none, pos := p2 }], vararg := none, kwonlyargs := [], kw_defaults := [], kwarg := none, defaults := [] }
/-- what the written part says of the class at C and its __init__ at fI -/
structure XTxt (P : Program) (K : Frag) (mg : Str → Option Value) (C fI : Addr) : Prop where
  cls : ∃ nm q N bs bm sn sub ab col dd k0 k1 k2 k3 k5, K.lookup C = some (excClassObj nm q C N bs bm true sn sub ab col dd k0 k1 k2 k3 k5 "ValueError.__new__") ∧ refsVE bm = true
  sa : findIn K (.ref C) "__setattr__" = some (some (.builtin "object.__setattr__"))
  ga : findIn K (.ref C) "__getattribute__" = some (some (.builtin "BaseException.__getattribute__"))
  gg : findIn K (.ref C) "__getattr__" = some none
  noN : findIn K (.ref C) (Str.ofString "thing") = some none
  iC : findIn K (.ref C) "__init__" = some (some (.ref fI))
  tC : typeIn K (.ref fI) = some (.type "function")
  kC : keepIn K (.ref C) = true
  exC : subIn K (.ref C) (.type "BaseException") = some true
  tyC : typeIn K (.ref C) = some (.type "type")
  hdC : hasDictIn K C = true
  sup : ks_superIn K C C "__init__" = some (some (.builtin "ValueError.__init__"))
  tp : nsIn K cStatics "thirdparty.any" = some none
  zs : mg "super" = none
  ve : subIn K (.ref C) (.type "ValueError") = some true
  mr : mroIn K C (.ref C) = some true
  top : (P.main.scope.names.lookup ("super" : Str)).isSome = false
  fn : ∃ (qual msg : Str) (oc : Value) (od : Option Addr) (doc pm kV : Value) (an : Option Addr) (cc cda : Addr) (ct : Value) (osl : Array (Option Value)) (p1 p2 a1 a2 a3 a4 a5 a6 q1 q2 q3 q4 : Pos) (j : Nat) (ccl cl : Value) (cdd cld : Option Addr) (vs : Array Value) (ccs csl : Array (Option Value)) (file : Str) (tf : Tok),
    K.lookup fI = some ⟨oc, od, .func (ksFn "__init__" qual (xA p1 p2) (xB msg a1 a2 a3 a4 a5 a6 q1 q2 q3 q4 j) xS .none kV doc pm an (.ref cda) ct cc), osl⟩ ∧ codeIn K (.ref cda) qual = true ∧
    K.lookup cda = some ⟨ccl, cdd, .fields vs, ccs⟩ ∧ vs[2]? = some (.str file tf) ∧ ((P.main.file : Str) == file) = true ∧ (a3.endLine == a5.line) = true ∧ K.lookup cc = some ⟨cl, cld, .cell (some (.ref C)), csl⟩
theorem xcel : ∀ y ∈ xS.names, y.2 ≠ .cell := by decide
/-- the call of super's method, its tree -/
theorem x_tree (msg : Str) (a1 a2 a3 a4 a5 : Pos) (j : Nat) (env : Env) (hl : (a3.endLine == a5.line) = true) : eval (.Call (.Attribute (.Call (.Name "super" a1) [] [] a2) "__init__" a3) [.Constant (.str msg) j a4] [] a5) env = (do
      let ov ← attributeBase (.Call (.Name "super" a1) [] [] a2) "__init__" env (eval (.Call (.Name "super" a1) [] [] a2) env)
      standAt a3.atName
      let (f, first) ← holding [ov] (getMethod ov "__init__" (do return (← importBound (.Call (.Name "super" a1) [] [] a2) env).getD true))
      callWith a5 f first (backTo a5 (starEach [.Constant (.str msg) j a4] env)) []) := by
  rw [arm_eval_Call]
  unfold methodCall methodCallPos
  simp only [hl, Bool.or_true, if_true]
  rfl
/-- what __init__ leaves of a fresh error at x -/
structure XEnd (h h' : Heap) (x C dx : Addr) (v : Value) : Prop where
  keep : ∀ b o, b ≠ x → h.get? b = some o → h'.get? b = some o
  obj : ∃ t1 : Addr, h'.get? x = some { cls := .ref C, dict := some dx, data := .fields #[.ref t1, .none, .none, .none, .bool false, .none] }
  dbig : h.objs.size ≤ dx
  dne : dx ≠ x
  ns : h'.Ns1 dx (fun y => if y = (Str.ofString "thing") then some v else none)
section
variable {prog : Program} {w : World} {A : Around} {E : Value → Shared → Prop} {R : Result → Shared → Prop} {s : Shared} {K : Frag} {mg : Str → Option Value} {C fI : Addr}
theorem x_init (T : XTxt prog K mg C fI) {x t0 : Addr} {v : Value} (X : K.In s.heap) (hg : s.heap.Ns mainGlobals mg) (hbl : ∃ mb, s.heap.Ns builtinsNs mb ∧ ∀ y : Str, y ≠ "__name__" → mb y = bootBuiltins y) (hlim : s.heap.NoLimit)
    (hx : s.heap.get? x = some (HandSPX.excO C t0)) (hnx : K.lookup x = none) (hroom : A.depth < recursionLimit) (hq : ∀ h' tk dx, XEnd s.heap h' x C dx v → R (.ok (.ret .none)) { s with heap := h', toks := tk }) :
    codeAny (model prog w) A (.call (.ref fI) ⟨[.ref x, v], []⟩) R s := by
  obtain ⟨qual, msg, oc, od, doc, pm, kV, an, cc, cda, ct, osl, p1, p2, a1, a2, a3, a4, a5, a6, q1, q2, q3, q4, j, ccl, cl, cdd, cld, vs, ccs, csl, file, tf, ho, hcd, hcode, hvs, hfile, hline, hcell⟩ := T.fn
  obtain ⟨nm, q, N, bs, bm, sn, sub, ab, col, dd, k0, k1, k2, k3, k5, hC, hbm⟩ := T.cls
  have hcl : clsIn K C = some { name := nm, bases := bs, mro := .ref C :: bm, ns := N, qualname := q, hasDict := true, slotNames := sn, subclasses := sub, abstract := ab, collection := col, hasDel := false } := by unfold clsIn; rw [hC] <;> rfl
  obtain ⟨hp, g, d, tk, os⟩ := s
  refine ks_codeAny_call_defAt (fd := ksFn "__init__" qual (xA p1 p2) (xB msg a1 a2 a3 a4 a5 a6 q1 q2 q3 q4 j) xS .none kV doc pm an (.ref cda) ct cc) (body := xB msg a1 a2 a3 a4 a5 a6 q1 q2 q3 q4 j) (binds := [(Str.ofString "self", .ref x), ((Str.ofString "thing"), v)]) hroom (X _ _ ho) rfl hlim (codeRec_of X hcd) rfl (BindsTo.of_eq rfl) xcel ?_ (fun h₁ hns k => ?_) rfl rfl rfl
  · intro y hy
    rcases List.mem_cons.mp hy with rfl | hy
    · exact rfl
    · rcases List.mem_cons.mp hy with rfl | hy
      · exact rfl
      · cases hy
  have X₁ : K.In h₁ := X.keeps k
  have hx₁ : h₁.get? x = some (HandSPX.excO C t0) := k _ _ hx
  have I₁ : InstAt h₁ x (HandSPX.excO C t0) C none := ⟨hx₁, rfl, rfl, trivial⟩
  have vself : (fun y : Str => List.lookup y (List.reverse [((Str.ofString "self"), Value.ref x), ((Str.ofString "thing"), v)])) (Str.ofString "self") = some (.ref x) := by
    have e : ((Str.ofString "self") == (Str.ofString "thing")) = false := by decide +kernel
    simp [List.lookup, e]
  have vfld : (fun y : Str => List.lookup y (List.reverse [((Str.ofString "self"), Value.ref x), ((Str.ofString "thing"), v)])) (Str.ofString "thing") = some v := by
    simp [List.lookup]
  obtain ⟨mb, hb1, hb2⟩ := hbl
  -- super().__init__(text)
  refine ks_wpAt_execs_cons (ks_wpAt_Expr_any (ks_wpAt_MethodCall ?_ (x_tree msg a1 a2 a3 a4 a5 j _ hline)) rfl rfl)
  refine ks_wpAt_super_base (f := fI) (fd := ksFn "__init__" qual (xA p1 p2) (xB msg a1 a2 a3 a4 a5 a6 q1 q2 q3 q4 j) xS .none kV doc pm an (.ref cda) ct cc) (ar := { arg := "self", annotation := none, pos := p1 }) rfl rfl rfl rfl (X₁ _ _ ho) rfl rfl rfl (X₁ _ _ hcode) rfl hvs hfile T.top ?_
  refine ks_loadName_global rfl rfl (loadGlobal_builtin (hg.keeps k) T.zs (hb1.keeps k) ((hb2 _ (by decide +kernel)).trans (by decide +kernel)) ⟨rfl, ?_⟩)
  refine wpAny_loadName_free rfl rfl rfl ⟨_, X₁ _ _ hcell, rfl⟩ ?_
  refine wpAny_loadName_local rfl rfl hns vself ?_
  obtain ⟨oD, hD1, hD2⟩ : ∃ oD, h₁.get? C = some oD ∧ oD.data = .cls { name := nm, bases := bs, mro := .ref C :: bm, ns := N, qualname := q, hasDict := true, slotNames := sn, subclasses := sub, abstract := ab, collection := col, hasDel := false } := ⟨_, X₁ _ _ hC, rfl⟩
  refine ks_wpAny_isType_cls hD1 hD2 ⟨rfl, ?_⟩
  refine ks_wpAny_call_super hD1 hD2 hx₁ rfl (fun c e => by cases e) (looks_mroIn X₁ T.mr) (fun h₂ e₂ k₂ => ?_)
  have X₂ : K.In h₂ := X₁.keeps k₂
  have hx₂ : h₂.get? x = some (HandSPX.excO C t0) := k₂ _ _ hx₁
  have I₂ : InstAt h₂ x (HandSPX.excO C t0) C none := ⟨hx₂, rfl, rfl, trivial⟩
  have hsup := T.sup
  unfold ks_superIn at hsup
  rw [hcl] at hsup
  have hmro : Looks (model prog w) h₂ (mroOf (.ref C)) (.ref C :: bm) := (looks_clsIn X₂ hcl).andThen .now
  refine kxs_getMethod kxs_ValueError e₂ (looks_opaque X₂ T.tp) hmro rfl X₂ hsup (I₂.type.andThen (looks_subIn X₂ T.ve)) (ks_ne X₂ I₂ hcl) rfl ?_
  -- the wrapper called
  have hk₃ : ∀ b o, h₂.get? b = some o → (h₂.push (kxs_mw "ValueError.__init__" x)).get? b = some o := fun b o e => Heap.get?_push_of_some _ e
  have hu₃ : (h₂.push (kxs_mw "ValueError.__init__" x)).get? h₂.objs.size = some (kxs_mw "ValueError.__init__" x) := Heap.get?_push_at rfl rfl
  refine kxs_callWith (i := "ValueError.__init__") (x := x) rfl (evalArgs_plain (Calls.spliced_cons (Calls.Constant_str (pos := a4) (k := j) (Calls.spliced_nil ⟨hu₃, ?_⟩))))
  refine mw_call (X₂.keeps hk₃ _ _ hC) (hk₃ _ _ hx₂) hu₃ (one_sz _) (fun h₄ t1 k₄ hx₄ => ?_)
  have kall : ∀ b o, b ≠ x → hp.get? b = some o → h₄.get? b = some o := fun b o hb e => k₄ b o hb (hk₃ b o (k₂ b o (k b o e)))
  have xC : x ≠ C := ks_ne X₂ I₂ hcl
  have X₄ : K.In h₄ := fun b o e => kall b o (fun z => by rw [z, hnx] at e; cases e) (X b o e)
  have hL : hp.objs.size ≠ x := Nat.ne_of_gt (Heap.lt_size hx)
  have hns₄ : h₄.Ns hp.objs.size (fun y => List.lookup y (List.reverse [((Str.ofString "self"), Value.ref x), ((Str.ofString "thing"), v)])) := by
    obtain ⟨oL, es, ep, hoL, r⟩ := hns
    exact ⟨oL, es, ep, k₄ _ _ hL (hk₃ _ _ (k₂ _ _ hoL)), r⟩
  -- self.field = field
  refine wpAt_of_wpAny ?_
  refine wpAny_execs_cons (plainObj_wpAny_Assign_Attribute ?_)
  refine wpAny_Name (wpAny_loadName_local rfl rfl hns₄ vfld (wpAny_Name (wpAny_loadName_local rfl rfl hns₄ vself ?_) (by decide))) (by decide)
  refine set_plain X₄ (ox := HandSPX.excO C t1) (od := none) ⟨hx₄, rfl, rfl, trivial⟩ T.sa ?_
  refine exc_osa X₄ hx₄ hcl (show refsVE (.ref C :: bm) = true from hbm) rfl T.noN (fun h₅ tk₅ dx k₅ dn dne hx₅ hn₅ => ?_)
  refine wpAny_execs_nil (hq h₅ tk₅ dx ⟨fun b o hb e => k₅ b o hb (kall b o hb e), ⟨t1, hx₅⟩, ?_, dne, hn₅⟩)
  have z1 : hp.objs.size < h₄.objs.size := hns₄.lt
  exact Nat.le_of_lt (Nat.lt_of_lt_of_le z1 dn)
/-- a made error -/
structure XMade (h h' : Heap) (e C d : Addr) (v : Value) : Prop where
  keep : ∀ b o, h.get? b = some o → h'.get? b = some o
  new : h.objs.size ≤ e
  obj : ∃ oe vs, h'.get? e = some oe ∧ oe.cls = .ref C ∧ oe.dict = some d ∧ oe.data = .fields vs ∧ vs[1]? = some .none ∧ vs[2]? = some .none
  dbig : h.objs.size ≤ d
  dne : d ≠ e
  ns : h'.Ns1 d (fun y => if y = (Str.ofString "thing") then some v else none)
theorem x_made (T : XTxt prog K mg C fI) {v : Value} (X : K.In s.heap) (hg : s.heap.Ns mainGlobals mg) (hbl : ∃ mb, s.heap.Ns builtinsNs mb ∧ ∀ y : Str, y ≠ "__name__" → mb y = bootBuiltins y) (hlim : s.heap.NoLimit) (hroom : A.depth + 1 < recursionLimit)
    (hq : ∀ h' tk e d, XMade s.heap h' e C d v → R (.ok (.ret (.ref e))) { s with heap := h', toks := tk }) : codeAny (model prog w) A (.call (.ref C) ⟨[v], []⟩) R s := by
  obtain ⟨nm, q, N, bs, bm, sn, sub, ab, col, dd, k0, k1, k2, k3, k5, hC, hbm⟩ := T.cls
  obtain ⟨hp, g, dr, tk, os⟩ := s
  have k : ∀ b o, hp.get? b = some o → ((hp.push (kdv_tup [v])).push (HandSPX.excO C hp.objs.size)).get? b = some o := fun b o e => Heap.get?_push_of_some _ (Heap.get?_push_of_some _ e)
  have hget : ((hp.push (kdv_tup [v])).push (HandSPX.excO C hp.objs.size)).get? (hp.objs.size + 1) = some (HandSPX.excO C hp.objs.size) := by heap_get
  have hnx : K.lookup (hp.objs.size + 1) = none := by
    cases e : K.lookup (hp.objs.size + 1) with
    | none => rfl
    | some o => exact absurd (Nat.lt_of_succ_lt (Heap.lt_size (X _ _ e))) (Nat.lt_irrefl _)
  refine call_own F.excBase_ValueError (fun Y => refsVE_contains Y bm hbm) (X _ _ hC) (looks_findIn X T.iC) (fun self => bind_fn X self T.tC) (one_sz v) ?_
  obtain ⟨mb, hb1, hb2⟩ := hbl
  refine x_init (s := ⟨(hp.push (kdv_tup [v])).push (HandSPX.excO C hp.objs.size), g, dr, tk, os⟩) T (X.keeps k) (hg.keeps k) ⟨mb, hb1.keeps k, hb2⟩ (hlim.keeps k) hget hnx ?_ fun h' tk' dx ⟨k', ⟨t1, hx⟩, dn, dne, hns⟩ => ?_
  · show A.depth + 1 < recursionLimit
    exact hroom
  · have old : ∀ b o, hp.get? b = some o → h'.get? b = some o := fun b o e => k' b o (Nat.ne_of_lt (Nat.lt_succ_of_lt (Heap.lt_size e))) (k b o e)
    have z : hp.objs.size + 1 + 1 ≤ dx := by
      first
        | (simpa only [Heap.size_push] using dn)
        | exact dn
        | (have q := dn; rw [Heap.size_push, Heap.size_push] at q; exact q)
    exact ⟨rfl, hq h' tk' (hp.objs.size + 1) dx ⟨old, Nat.le_succ _, ⟨_, _, hx, rfl, rfl, rfl, rfl, rfl⟩, Nat.le_trans (Nat.le_trans (Nat.le_succ _) (Nat.le_succ _)) z, dne, hns⟩⟩
end
end FoX_thing
namespace L2
open PySem PySem.Spec PyProof.Rows
theorem relO_thing {v : V} {v' : Value} (r : RelV v v') (f : Str) : RelO (List.lookup f [((Str.ofString "thing"), v)]) (if f = (Str.ofString "thing") then some v' else none) := by
  by_cases hw : f = (Str.ofString "thing")
  · subst hw
    rw [if_pos rfl]
    have q : List.lookup (Str.ofString "thing") [((Str.ofString "thing"), v)] = some v := by simp [List.lookup]
    rw [q]
    exact r
  · rw [if_neg hw]
    have qw : (f == (Str.ofString "thing")) = false := by simpa using hw
    have q2 : List.lookup f [((Str.ofString "thing"), v)] = none := by simp [List.lookup, qw]
    rw [q2]
    trivial
section
variable {X : Cx} {C fI : Addr} {nm : Str}
/-- Name(e) -/
def tMkX_thing (C : Addr) (ta : TA) : St → Hp → XK → Prop := fun σ H Q => ta σ H fun vs H1 => ∃ v, vs = [v] ∧ ∀ d, H1 d = none → Q (.ref C) (some d) (upd H1 d (.xd [((Str.ofString "thing"), v)]))
theorem pmkN_thing {a : Expr} {ta : TA} {p pos : Pos} {k : Nat} (T : FoX_thing.XTxt X.prog X.K X.mg C fI) (gC : X.mg nm = some (.ref C)) (hr : Room k X.A) (ha : PA X [a] ta) (hg : Gl X nm) (hdb : (nm == ("__debug__" : Str)) = false)
    (he : starEach (a :: []) X.env = (false, eval a X.env) :: starEach [] X.env := by rfl) (hpl : (backTo pos (starEach [] X.env)).any (·.1) = false := by rfl) :
    L2N.PMk X (.Call (.Name nm p) [a] [] pos) (tMkX_thing C ta) := by
  intro pins s σ H Q I h
  refine wpAny_Call_Name_kw (ld_glob I hg gC ?_ hdb)
  refine PySem.W.callWith_K (h₀ := X.base) I.ok.mod.kin T.kC (thn (ha.run pos pins s σ H _ I h) fun us s1 hh => ?_) he hpl
  obtain ⟨vs, H1, I1, r1, v, ev, q1⟩ := hh
  subst ev
  refine ⟨I1.kIn, ?_⟩
  cases r1 with
  | cons rv rn =>
    rename_i v' us'
    cases rn
    show wpAny _ _ (call (.ref C) [v']) _ _ _
    have hlim := I1.nolimit
    have hgl : s1.heap.Ns mainGlobals X.mg := I1.mod.glob.keeps I1.bk
    obtain ⟨mb, hb1, hb2⟩ := I1.mod.blt
    have hbl : ∃ mb, s1.heap.Ns builtinsNs mb ∧ ∀ y : Str, y ≠ "__name__" → mb y = bootBuiltins y := ⟨mb, hb1.keeps I1.bk, hb2⟩
    obtain ⟨hp, g, dr, tk, os⟩ := s1
    refine wpAny_call (FoX_thing.x_made T I1.kIn hgl hbl hlim (by have := hr.dp; omega) fun h' tk' e d M => ?_)
    show L2N.MkP X pins σ Q (.ref e) ⟨h', g, dr, tk', os⟩
    obtain ⟨oe, fv, hoe, hc, hd, hdat, h1, h2⟩ := M.obj
    have hns := M.ns
    obtain ⟨G', g1, g2⟩ := restrict h' fun b => decide (b ≠ e)
    have gk : ∀ b, b ≠ e → G'.get? b = h'.get? b := fun b hb => g1 b (decide_eq_true hb)
    have ge : G'.get? e = none := g2 e (by simp)
    have old : ∀ b o, hp.get? b = some o → G'.get? b = some o := fun b o q => (gk b (Nat.ne_of_lt (Nat.lt_of_lt_of_le (Heap.lt_size q) M.new))).trans (M.keep b o q)
    have ob : ObjOk X.prog X.w (upd H1 d (.xd [((Str.ofString "thing"), v)])) G' d (.xd [((Str.ofString "thing"), v)]) :=
      ⟨_, hns.at (fun o q => (gk d M.dne).trans q), fun f => relO_thing rv f⟩
    have J : Inv X pins σ (upd H1 d (.xd [((Str.ofString "thing"), v)])) ⟨G', g, dr, tk', os⟩ := I1.laid (t' := tk') old M.dbig ob
    refine ⟨e, oe, fv, ⟨G', g, dr, tk', os⟩, _, .ref C, some d, rfl, J, fun b o q => ?_, ge, hoe, ⟨hc, hd, fun vs e => by rw [hdat] at e; cases e; exact h2⟩, hdat, h1, ?_, rfl, I1.bare, raises_own T.exC T.tyC, q1 d (I1.hok.fresh M.dbig)⟩
    · by_cases hb : b = e
      · have q' : G'.get? b = some o := q
        rw [hb, ge] at q'; cases q'
      · exact (gk b hb).symm.trans q
    · rw [upd_ne (Ne.symm M.dne)]
      exact I1.hok.fresh M.new
theorem pmk_thing {a : Expr} {ta : TA} {p pos : Pos} {k : Nat} (T : FoX_thing.XTxt X.prog X.K X.mg C fI) (gC : X.mg nm = some (.ref C)) (hr : Room k X.A) (ha : PA X [a] ta) (hg : Gl X nm) (hdb : (nm == ("__debug__" : Str)) = false)
    (he : starEach (a :: []) X.env = (false, eval a X.env) :: starEach [] X.env := by rfl) (hpl : (backTo pos (starEach [] X.env)).any (·.1) = false := by rfl) :
    PMk X (.Call (.Name nm p) [a] [] pos) (tMkX_thing C ta) := by
  intro pins s σ H Q I h
  refine wpAny_mono (pmkN_thing T gC hr ha hg hdb he hpl pins s σ H Q I h) (fun u s' z => ?_) fun _ _ x => x
  obtain ⟨e, oe, vs, sI, H', cls, d, r1, r2, r3, r4, r5, r6, r7⟩ := z
  exact ⟨e, oe, vs, sI, H', cls, d, r1, r2, r3, r4, r5, r6.zc, r7⟩
/-- raise Name(e) -/
def tRaiseX_thing (C : Addr) (W : WX) (ta : TA) : TS := fun _ σ H => tMkX_thing C ta σ H fun cls d H' => W cls d σ H'
theorem ps_raise_thing {a : Expr} {ta : TA} {W : WX} {p pos pos2 : Pos} {k : Nat} (hc : X.calm = true) (T : FoX_thing.XTxt X.prog X.K X.mg C fI) (gC : X.mg nm = some (.ref C)) (hr : Room k X.A) (tk : Takes X W) (ha : PA X [a] ta) (hg : Gl X nm := by rfl) (hdb : (nm == ("__debug__" : Str)) = false := by decide)
    (he : starEach (a :: []) X.env = (false, eval a X.env) :: starEach [] X.env := by rfl) (hpl : (backTo pos (starEach [] X.env)).any (·.1) = false := by rfl) :
    PS X (.Raise (some (.Call (.Name nm p) [a] [] pos)) none pos2) (tRaiseX_thing C W ta) := ps_raise hc tk (pmk_thing T gC hr ha hg hdb he hpl)
theorem ps_raiseN_thing {a : Expr} {ta : TA} {W : WX} {p pos pos2 : Pos} {k : Nat} (hc : X.calm = true) (T : FoX_thing.XTxt X.prog X.K X.mg C fI) (gC : X.mg nm = some (.ref C)) (hr : Room k X.A) (tk : L2N.Takes X W) (ha : PA X [a] ta) (hg : Gl X nm := by rfl) (hdb : (nm == ("__debug__" : Str)) = false := by decide)
    (he : starEach (a :: []) X.env = (false, eval a X.env) :: starEach [] X.env := by rfl) (hpl : (backTo pos (starEach [] X.env)).any (·.1) = false := by rfl) :
    PS X (.Raise (some (.Call (.Name nm p) [a] [] pos)) none pos2) (tRaiseX_thing C W ta) := L2N.ps_raise hc tk (pmkN_thing T gC hr ha hg hdb he hpl)
/-- e.field, e the error that the suite holds (at a; its class cls, its dict d) -/
def tByX_thing (C : Addr) (a : Addr) (cls : Value) (d : Option Addr) (te : TE) : TE := fun σ H Q => te σ H fun x H1 => x = .ref a ∧ cls = .ref C ∧ ∃ (dd : Addr) (v : V), d = some dd ∧ H1 dd = some (.xd [((Str.ofString "thing"), v)]) ∧ Q v H1
theorem pe_by_thing {a : Addr} {oe : Obj} {cls : Value} {d : Option Addr} {pn : List (Addr × Obj)} {e : Expr} {te : TE} {pos : Pos} (T : FoX_thing.XTxt X.prog X.K X.mg C fI) (hz : Zc cls d oe) (hf : ∃ vs, oe.data = .fields vs) (he : PE (X.suite a ((a, oe) :: pn)) e te)
    (hb : attributeBase e (Str.ofString "thing") X.env (eval e X.env) = eval e X.env := by rfl) :
    PE (X.suite a ((a, oe) :: pn)) (.Attribute e (Str.ofString "thing") pos) (tByX_thing C a cls d te) := by
  refine ⟨fun pins s σ H Q I h => ?_⟩
  refine attr_of hb (thn (he.run pins s σ H _ I h) fun u s1 hh => ?_)
  obtain ⟨x, H1, I1, rx, ex, ec, dd, v, ed, ea, q⟩ := hh
  subst ex
  obtain rfl : u = Value.ref a := rx
  subst ec
  subst ed
  obtain ⟨ha, _⟩ := I1.pin (a, oe) (List.mem_append_left _ List.mem_cons_self)
  obtain ⟨vs, hd⟩ := hf
  have hx : ObjOk X.prog X.w H1 s1.heap dd (.xd [((Str.ofString "thing"), v)]) := I1.hok dd _ ea
  obtain ⟨mA, hns, hr⟩ := hx
  obtain ⟨od, ho, hl⟩ := lookIn_ns hns
  have l : List.lookup (Str.ofString "thing") [((Str.ofString "thing"), v)] = some v := by simp [List.lookup]
  obtain ⟨u, hu, ru⟩ := RelO.some_of (v := v) (o := mA (Str.ofString "thing")) (by rw [← l]; exact hr (Str.ofString "thing"))
  have J : PySem.W.InstAt s1.heap a oe C (some od) := ⟨ha, hz.1, by unfold PySem.W.notCls; rw [hd] <;> rfl, by rw [hz.2]; exact ho⟩
  exact HandSPX.exc_get I1.kIn J T.ga T.gg T.exC (PySem.W.findObj_own T.hdC T.noN rfl (by rw [hl, hu])) (handed_of ru) ⟨v, H1, I1.tok _, ru, q⟩
end
end L2
set_option Elab.async false
set_option linter.all false
set_option maxRecDepth 100000
set_option maxHeartbeats 2000000
namespace FoX_number
open PySem PySem.W PySem.Calls PyProof.Rows PySem.HandSPX FoX
/-- the text of such an __init__ -/
def xB (msg : Str) (a1 a2 a3 a4 a5 a6 q1 q2 q3 q4 : Pos) (j : Nat) : List Stmt :=
  [.Expr (.Call (.Attribute (.Call (.Name "super" a1) [] [] a2) "__init__" a3) [.Constant (.str msg) j a4] [] a5) a6, .Assign [.Attribute (.Name "self" q1) (Str.ofString "number") q2] (.Name (Str.ofString "number") q3) q4]
def xS : Scope := { kind := .function, names := [(Str.ofString "self", .local), ((Str.ofString "number"), .local), (Str.ofString "__class__", .free), (Str.ofString "super", .globalImplicit)], isGenerator := false, isCoroutine := false, more := [] }
def xA (p1 p2 : Pos) : Arguments := { posonlyargs := [], args := [{ arg := "self", annotation := none, pos := p1 }, { arg := (Str.ofString "number"), annotation := none, pos := p2 }], vararg := none, kwonlyargs := [], kw_defaults := [], kwarg := none, defaults := [] }
/-- what the written part says of the class at C and its __init__ at fI -/
structure XTxt (P : Program) (K : Frag) (mg : Str → Option Value) (C fI : Addr) : Prop where
  cls : ∃ nm q N bs bm sn sub ab col dd k0 k1 k2 k3 k5, K.lookup C = some (excClassObj nm q C N bs bm true sn sub ab col dd k0 k1 k2 k3 k5 "ValueError.__new__") ∧ refsVE bm = true
  sa : findIn K (.ref C) "__setattr__" = some (some (.builtin "object.__setattr__"))
  ga : findIn K (.ref C) "__getattribute__" = some (some (.builtin "BaseException.__getattribute__"))
  gg : findIn K (.ref C) "__getattr__" = some none
  noN : findIn K (.ref C) (Str.ofString "number") = some none
  iC : findIn K (.ref C) "__init__" = some (some (.ref fI))
  tC : typeIn K (.ref fI) = some (.type "function")
  kC : keepIn K (.ref C) = true
  exC : subIn K (.ref C) (.type "BaseException") = some true
  tyC : typeIn K (.ref C) = some (.type "type")
  hdC : hasDictIn K C = true
  sup : ks_superIn K C C "__init__" = some (some (.builtin "ValueError.__init__"))
  tp : nsIn K cStatics "thirdparty.any" = some none
  zs : mg "super" = none
  ve : subIn K (.ref C) (.type "ValueError") = some true
  mr : mroIn K C (.ref C) = some true
  top : (P.main.scope.names.lookup ("super" : Str)).isSome = false
  fn : ∃ (qual msg : Str) (oc : Value) (od : Option Addr) (doc pm kV : Value) (an : Option Addr) (cc cda : Addr) (ct : Value) (osl : Array (Option Value)) (p1 p2 a1 a2 a3 a4 a5 a6 q1 q2 q3 q4 : Pos) (j : Nat) (ccl cl : Value) (cdd cld : Option Addr) (vs : Array Value) (ccs csl : Array (Option Value)) (file : Str) (tf : Tok),
    K.lookup fI = some ⟨oc, od, .func (ksFn "__init__" qual (xA p1 p2) (xB msg a1 a2 a3 a4 a5 a6 q1 q2 q3 q4 j) xS .none kV doc pm an (.ref cda) ct cc), osl⟩ ∧ codeIn K (.ref cda) qual = true ∧
    K.lookup cda = some ⟨ccl, cdd, .fields vs, ccs⟩ ∧ vs[2]? = some (.str file tf) ∧ ((P.main.file : Str) == file) = true ∧ (a3.endLine == a5.line) = true ∧ K.lookup cc = some ⟨cl, cld, .cell (some (.ref C)), csl⟩
theorem xcel : ∀ y ∈ xS.names, y.2 ≠ .cell := by decide
/-- the call of super's method, its tree -/
theorem x_tree (msg : Str) (a1 a2 a3 a4 a5 : Pos) (j : Nat) (env : Env) (hl : (a3.endLine == a5.line) = true) : eval (.Call (.Attribute (.Call (.Name "super" a1) [] [] a2) "__init__" a3) [.Constant (.str msg) j a4] [] a5) env = (do
      let ov ← attributeBase (.Call (.Name "super" a1) [] [] a2) "__init__" env (eval (.Call (.Name "super" a1) [] [] a2) env)
      standAt a3.atName
      let (f, first) ← holding [ov] (getMethod ov "__init__" (do return (← importBound (.Call (.Name "super" a1) [] [] a2) env).getD true))
      callWith a5 f first (backTo a5 (starEach [.Constant (.str msg) j a4] env)) []) := by
  rw [arm_eval_Call]
  unfold methodCall methodCallPos
  simp only [hl, Bool.or_true, if_true]
  rfl
/-- what __init__ leaves of a fresh error at x -/
structure XEnd (h h' : Heap) (x C dx : Addr) (v : Value) : Prop where
  keep : ∀ b o, b ≠ x → h.get? b = some o → h'.get? b = some o
  obj : ∃ t1 : Addr, h'.get? x = some { cls := .ref C, dict := some dx, data := .fields #[.ref t1, .none, .none, .none, .bool false, .none] }
  dbig : h.objs.size ≤ dx
  dne : dx ≠ x
  ns : h'.Ns1 dx (fun y => if y = (Str.ofString "number") then some v else none)
section
variable {prog : Program} {w : World} {A : Around} {E : Value → Shared → Prop} {R : Result → Shared → Prop} {s : Shared} {K : Frag} {mg : Str → Option Value} {C fI : Addr}
theorem x_init (T : XTxt prog K mg C fI) {x t0 : Addr} {v : Value} (X : K.In s.heap) (hg : s.heap.Ns mainGlobals mg) (hbl : ∃ mb, s.heap.Ns builtinsNs mb ∧ ∀ y : Str, y ≠ "__name__" → mb y = bootBuiltins y) (hlim : s.heap.NoLimit)
    (hx : s.heap.get? x = some (HandSPX.excO C t0)) (hnx : K.lookup x = none) (hroom : A.depth < recursionLimit) (hq : ∀ h' tk dx, XEnd s.heap h' x C dx v → R (.ok (.ret .none)) { s with heap := h', toks := tk }) :
    codeAny (model prog w) A (.call (.ref fI) ⟨[.ref x, v], []⟩) R s := by
  obtain ⟨qual, msg, oc, od, doc, pm, kV, an, cc, cda, ct, osl, p1, p2, a1, a2, a3, a4, a5, a6, q1, q2, q3, q4, j, ccl, cl, cdd, cld, vs, ccs, csl, file, tf, ho, hcd, hcode, hvs, hfile, hline, hcell⟩ := T.fn
  obtain ⟨nm, q, N, bs, bm, sn, sub, ab, col, dd, k0, k1, k2, k3, k5, hC, hbm⟩ := T.cls
  have hcl : clsIn K C = some { name := nm, bases := bs, mro := .ref C :: bm, ns := N, qualname := q, hasDict := true, slotNames := sn, subclasses := sub, abstract := ab, collection := col, hasDel := false } := by unfold clsIn; rw [hC] <;> rfl
  obtain ⟨hp, g, d, tk, os⟩ := s
  refine ks_codeAny_call_defAt (fd := ksFn "__init__" qual (xA p1 p2) (xB msg a1 a2 a3 a4 a5 a6 q1 q2 q3 q4 j) xS .none kV doc pm an (.ref cda) ct cc) (body := xB msg a1 a2 a3 a4 a5 a6 q1 q2 q3 q4 j) (binds := [(Str.ofString "self", .ref x), ((Str.ofString "number"), v)]) hroom (X _ _ ho) rfl hlim (codeRec_of X hcd) rfl (BindsTo.of_eq rfl) xcel ?_ (fun h₁ hns k => ?_) rfl rfl rfl
  · intro y hy
    rcases List.mem_cons.mp hy with rfl | hy
    · exact rfl
    · rcases List.mem_cons.mp hy with rfl | hy
      · exact rfl
      · cases hy
  have X₁ : K.In h₁ := X.keeps k
  have hx₁ : h₁.get? x = some (HandSPX.excO C t0) := k _ _ hx
  have I₁ : InstAt h₁ x (HandSPX.excO C t0) C none := ⟨hx₁, rfl, rfl, trivial⟩
  have vself : (fun y : Str => List.lookup y (List.reverse [((Str.ofString "self"), Value.ref x), ((Str.ofString "number"), v)])) (Str.ofString "self") = some (.ref x) := by
    have e : ((Str.ofString "self") == (Str.ofString "number")) = false := by decide +kernel
    simp [List.lookup, e]
  have vfld : (fun y : Str => List.lookup y (List.reverse [((Str.ofString "self"), Value.ref x), ((Str.ofString "number"), v)])) (Str.ofString "number") = some v := by
    simp [List.lookup]
  obtain ⟨mb, hb1, hb2⟩ := hbl
  -- super().__init__(text)
  refine ks_wpAt_execs_cons (ks_wpAt_Expr_any (ks_wpAt_MethodCall ?_ (x_tree msg a1 a2 a3 a4 a5 j _ hline)) rfl rfl)
  refine ks_wpAt_super_base (f := fI) (fd := ksFn "__init__" qual (xA p1 p2) (xB msg a1 a2 a3 a4 a5 a6 q1 q2 q3 q4 j) xS .none kV doc pm an (.ref cda) ct cc) (ar := { arg := "self", annotation := none, pos := p1 }) rfl rfl rfl rfl (X₁ _ _ ho) rfl rfl rfl (X₁ _ _ hcode) rfl hvs hfile T.top ?_
  refine ks_loadName_global rfl rfl (loadGlobal_builtin (hg.keeps k) T.zs (hb1.keeps k) ((hb2 _ (by decide +kernel)).trans (by decide +kernel)) ⟨rfl, ?_⟩)
  refine wpAny_loadName_free rfl rfl rfl ⟨_, X₁ _ _ hcell, rfl⟩ ?_
  refine wpAny_loadName_local rfl rfl hns vself ?_
  obtain ⟨oD, hD1, hD2⟩ : ∃ oD, h₁.get? C = some oD ∧ oD.data = .cls { name := nm, bases := bs, mro := .ref C :: bm, ns := N, qualname := q, hasDict := true, slotNames := sn, subclasses := sub, abstract := ab, collection := col, hasDel := false } := ⟨_, X₁ _ _ hC, rfl⟩
  refine ks_wpAny_isType_cls hD1 hD2 ⟨rfl, ?_⟩
  refine ks_wpAny_call_super hD1 hD2 hx₁ rfl (fun c e => by cases e) (looks_mroIn X₁ T.mr) (fun h₂ e₂ k₂ => ?_)
  have X₂ : K.In h₂ := X₁.keeps k₂
  have hx₂ : h₂.get? x = some (HandSPX.excO C t0) := k₂ _ _ hx₁
  have I₂ : InstAt h₂ x (HandSPX.excO C t0) C none := ⟨hx₂, rfl, rfl, trivial⟩
  have hsup := T.sup
  unfold ks_superIn at hsup
  rw [hcl] at hsup
  have hmro : Looks (model prog w) h₂ (mroOf (.ref C)) (.ref C :: bm) := (looks_clsIn X₂ hcl).andThen .now
  refine kxs_getMethod kxs_ValueError e₂ (looks_opaque X₂ T.tp) hmro rfl X₂ hsup (I₂.type.andThen (looks_subIn X₂ T.ve)) (ks_ne X₂ I₂ hcl) rfl ?_
  -- the wrapper called
  have hk₃ : ∀ b o, h₂.get? b = some o → (h₂.push (kxs_mw "ValueError.__init__" x)).get? b = some o := fun b o e => Heap.get?_push_of_some _ e
  have hu₃ : (h₂.push (kxs_mw "ValueError.__init__" x)).get? h₂.objs.size = some (kxs_mw "ValueError.__init__" x) := Heap.get?_push_at rfl rfl
  refine kxs_callWith (i := "ValueError.__init__") (x := x) rfl (evalArgs_plain (Calls.spliced_cons (Calls.Constant_str (pos := a4) (k := j) (Calls.spliced_nil ⟨hu₃, ?_⟩))))
  refine mw_call (X₂.keeps hk₃ _ _ hC) (hk₃ _ _ hx₂) hu₃ (one_sz _) (fun h₄ t1 k₄ hx₄ => ?_)
  have kall : ∀ b o, b ≠ x → hp.get? b = some o → h₄.get? b = some o := fun b o hb e => k₄ b o hb (hk₃ b o (k₂ b o (k b o e)))
  have xC : x ≠ C := ks_ne X₂ I₂ hcl
  have X₄ : K.In h₄ := fun b o e => kall b o (fun z => by rw [z, hnx] at e; cases e) (X b o e)
  have hL : hp.objs.size ≠ x := Nat.ne_of_gt (Heap.lt_size hx)
  have hns₄ : h₄.Ns hp.objs.size (fun y => List.lookup y (List.reverse [((Str.ofString "self"), Value.ref x), ((Str.ofString "number"), v)])) := by
    obtain ⟨oL, es, ep, hoL, r⟩ := hns
    exact ⟨oL, es, ep, k₄ _ _ hL (hk₃ _ _ (k₂ _ _ hoL)), r⟩
  -- self.field = field
  refine wpAt_of_wpAny ?_
  refine wpAny_execs_cons (plainObj_wpAny_Assign_Attribute ?_)
  refine wpAny_Name (wpAny_loadName_local rfl rfl hns₄ vfld (wpAny_Name (wpAny_loadName_local rfl rfl hns₄ vself ?_) (by decide))) (by decide)
  refine set_plain X₄ (ox := HandSPX.excO C t1) (od := none) ⟨hx₄, rfl, rfl, trivial⟩ T.sa ?_
  refine exc_osa X₄ hx₄ hcl (show refsVE (.ref C :: bm) = true from hbm) rfl T.noN (fun h₅ tk₅ dx k₅ dn dne hx₅ hn₅ => ?_)
  refine wpAny_execs_nil (hq h₅ tk₅ dx ⟨fun b o hb e => k₅ b o hb (kall b o hb e), ⟨t1, hx₅⟩, ?_, dne, hn₅⟩)
  have z1 : hp.objs.size < h₄.objs.size := hns₄.lt
  exact Nat.le_of_lt (Nat.lt_of_lt_of_le z1 dn)
/-- a made error -/
structure XMade (h h' : Heap) (e C d : Addr) (v : Value) : Prop where
  keep : ∀ b o, h.get? b = some o → h'.get? b = some o
  new : h.objs.size ≤ e
  obj : ∃ oe vs, h'.get? e = some oe ∧ oe.cls = .ref C ∧ oe.dict = some d ∧ oe.data = .fields vs ∧ vs[1]? = some .none ∧ vs[2]? = some .none
  dbig : h.objs.size ≤ d
  dne : d ≠ e
  ns : h'.Ns1 d (fun y => if y = (Str.ofString "number") then some v else none)
theorem x_made (T : XTxt prog K mg C fI) {v : Value} (X : K.In s.heap) (hg : s.heap.Ns mainGlobals mg) (hbl : ∃ mb, s.heap.Ns builtinsNs mb ∧ ∀ y : Str, y ≠ "__name__" → mb y = bootBuiltins y) (hlim : s.heap.NoLimit) (hroom : A.depth + 1 < recursionLimit)
    (hq : ∀ h' tk e d, XMade s.heap h' e C d v → R (.ok (.ret (.ref e))) { s with heap := h', toks := tk }) : codeAny (model prog w) A (.call (.ref C) ⟨[v], []⟩) R s := by
  obtain ⟨nm, q, N, bs, bm, sn, sub, ab, col, dd, k0, k1, k2, k3, k5, hC, hbm⟩ := T.cls
  obtain ⟨hp, g, dr, tk, os⟩ := s
  have k : ∀ b o, hp.get? b = some o → ((hp.push (kdv_tup [v])).push (HandSPX.excO C hp.objs.size)).get? b = some o := fun b o e => Heap.get?_push_of_some _ (Heap.get?_push_of_some _ e)
  have hget : ((hp.push (kdv_tup [v])).push (HandSPX.excO C hp.objs.size)).get? (hp.objs.size + 1) = some (HandSPX.excO C hp.objs.size) := by heap_get
  have hnx : K.lookup (hp.objs.size + 1) = none := by
    cases e : K.lookup (hp.objs.size + 1) with
    | none => rfl
    | some o => exact absurd (Nat.lt_of_succ_lt (Heap.lt_size (X _ _ e))) (Nat.lt_irrefl _)
  refine call_own F.excBase_ValueError (fun Y => refsVE_contains Y bm hbm) (X _ _ hC) (looks_findIn X T.iC) (fun self => bind_fn X self T.tC) (one_sz v) ?_
  obtain ⟨mb, hb1, hb2⟩ := hbl
  refine x_init (s := ⟨(hp.push (kdv_tup [v])).push (HandSPX.excO C hp.objs.size), g, dr, tk, os⟩) T (X.keeps k) (hg.keeps k) ⟨mb, hb1.keeps k, hb2⟩ (hlim.keeps k) hget hnx ?_ fun h' tk' dx ⟨k', ⟨t1, hx⟩, dn, dne, hns⟩ => ?_
  · show A.depth + 1 < recursionLimit
    exact hroom
  · have old : ∀ b o, hp.get? b = some o → h'.get? b = some o := fun b o e => k' b o (Nat.ne_of_lt (Nat.lt_succ_of_lt (Heap.lt_size e))) (k b o e)
    have z : hp.objs.size + 1 + 1 ≤ dx := by
      first
        | (simpa only [Heap.size_push] using dn)
        | exact dn
        | (have q := dn; rw [Heap.size_push, Heap.size_push] at q; exact q)
    exact ⟨rfl, hq h' tk' (hp.objs.size + 1) dx ⟨old, Nat.le_succ _, ⟨_, _, hx, rfl, rfl, rfl, rfl, rfl⟩, Nat.le_trans (Nat.le_trans (Nat.le_succ _) (Nat.le_succ _)) z, dne, hns⟩⟩
end
end FoX_number
namespace L2
open PySem PySem.Spec PyProof.Rows
theorem relO_number {v : V} {v' : Value} (r : RelV v v') (f : Str) : RelO (List.lookup f [((Str.ofString "number"), v)]) (if f = (Str.ofString "number") then some v' else none) := by
  by_cases hw : f = (Str.ofString "number")
  · subst hw
    rw [if_pos rfl]
    have q : List.lookup (Str.ofString "number") [((Str.ofString "number"), v)] = some v := by simp [List.lookup]
    rw [q]
    exact r
  · rw [if_neg hw]
    have qw : (f == (Str.ofString "number")) = false := by simpa using hw
    have q2 : List.lookup f [((Str.ofString "number"), v)] = none := by simp [List.lookup, qw]
    rw [q2]
    trivial
section
variable {X : Cx} {C fI : Addr} {nm : Str}
/-- Name(e) -/
def tMkX_number (C : Addr) (ta : TA) : St → Hp → XK → Prop := fun σ H Q => ta σ H fun vs H1 => ∃ v, vs = [v] ∧ ∀ d, H1 d = none → Q (.ref C) (some d) (upd H1 d (.xd [((Str.ofString "number"), v)]))
theorem pmkN_number {a : Expr} {ta : TA} {p pos : Pos} {k : Nat} (T : FoX_number.XTxt X.prog X.K X.mg C fI) (gC : X.mg nm = some (.ref C)) (hr : Room k X.A) (ha : PA X [a] ta) (hg : Gl X nm) (hdb : (nm == ("__debug__" : Str)) = false)
    (he : starEach (a :: []) X.env = (false, eval a X.env) :: starEach [] X.env := by rfl) (hpl : (backTo pos (starEach [] X.env)).any (·.1) = false := by rfl) :
    L2N.PMk X (.Call (.Name nm p) [a] [] pos) (tMkX_number C ta) := by
  intro pins s σ H Q I h
  refine wpAny_Call_Name_kw (ld_glob I hg gC ?_ hdb)
  refine PySem.W.callWith_K (h₀ := X.base) I.ok.mod.kin T.kC (thn (ha.run pos pins s σ H _ I h) fun us s1 hh => ?_) he hpl
  obtain ⟨vs, H1, I1, r1, v, ev, q1⟩ := hh
  subst ev
  refine ⟨I1.kIn, ?_⟩
  cases r1 with
  | cons rv rn =>
    rename_i v' us'
    cases rn
    show wpAny _ _ (call (.ref C) [v']) _ _ _
    have hlim := I1.nolimit
    have hgl : s1.heap.Ns mainGlobals X.mg := I1.mod.glob.keeps I1.bk
    obtain ⟨mb, hb1, hb2⟩ := I1.mod.blt
    have hbl : ∃ mb, s1.heap.Ns builtinsNs mb ∧ ∀ y : Str, y ≠ "__name__" → mb y = bootBuiltins y := ⟨mb, hb1.keeps I1.bk, hb2⟩
    obtain ⟨hp, g, dr, tk, os⟩ := s1
    refine wpAny_call (FoX_number.x_made T I1.kIn hgl hbl hlim (by have := hr.dp; omega) fun h' tk' e d M => ?_)
    show L2N.MkP X pins σ Q (.ref e) ⟨h', g, dr, tk', os⟩
    obtain ⟨oe, fv, hoe, hc, hd, hdat, h1, h2⟩ := M.obj
    have hns := M.ns
    obtain ⟨G', g1, g2⟩ := restrict h' fun b => decide (b ≠ e)
    have gk : ∀ b, b ≠ e → G'.get? b = h'.get? b := fun b hb => g1 b (decide_eq_true hb)
    have ge : G'.get? e = none := g2 e (by simp)
    have old : ∀ b o, hp.get? b = some o → G'.get? b = some o := fun b o q => (gk b (Nat.ne_of_lt (Nat.lt_of_lt_of_le (Heap.lt_size q) M.new))).trans (M.keep b o q)
    have ob : ObjOk X.prog X.w (upd H1 d (.xd [((Str.ofString "number"), v)])) G' d (.xd [((Str.ofString "number"), v)]) :=
      ⟨_, hns.at (fun o q => (gk d M.dne).trans q), fun f => relO_number rv f⟩
    have J : Inv X pins σ (upd H1 d (.xd [((Str.ofString "number"), v)])) ⟨G', g, dr, tk', os⟩ := I1.laid (t' := tk') old M.dbig ob
    refine ⟨e, oe, fv, ⟨G', g, dr, tk', os⟩, _, .ref C, some d, rfl, J, fun b o q => ?_, ge, hoe, ⟨hc, hd, fun vs e => by rw [hdat] at e; cases e; exact h2⟩, hdat, h1, ?_, rfl, I1.bare, raises_own T.exC T.tyC, q1 d (I1.hok.fresh M.dbig)⟩
    · by_cases hb : b = e
      · have q' : G'.get? b = some o := q
        rw [hb, ge] at q'; cases q'
      · exact (gk b hb).symm.trans q
    · rw [upd_ne (Ne.symm M.dne)]
      exact I1.hok.fresh M.new
theorem pmk_number {a : Expr} {ta : TA} {p pos : Pos} {k : Nat} (T : FoX_number.XTxt X.prog X.K X.mg C fI) (gC : X.mg nm = some (.ref C)) (hr : Room k X.A) (ha : PA X [a] ta) (hg : Gl X nm) (hdb : (nm == ("__debug__" : Str)) = false)
    (he : starEach (a :: []) X.env = (false, eval a X.env) :: starEach [] X.env := by rfl) (hpl : (backTo pos (starEach [] X.env)).any (·.1) = false := by rfl) :
    PMk X (.Call (.Name nm p) [a] [] pos) (tMkX_number C ta) := by
  intro pins s σ H Q I h
  refine wpAny_mono (pmkN_number T gC hr ha hg hdb he hpl pins s σ H Q I h) (fun u s' z => ?_) fun _ _ x => x
  obtain ⟨e, oe, vs, sI, H', cls, d, r1, r2, r3, r4, r5, r6, r7⟩ := z
  exact ⟨e, oe, vs, sI, H', cls, d, r1, r2, r3, r4, r5, r6.zc, r7⟩
/-- raise Name(e) -/
def tRaiseX_number (C : Addr) (W : WX) (ta : TA) : TS := fun _ σ H => tMkX_number C ta σ H fun cls d H' => W cls d σ H'
theorem ps_raise_number {a : Expr} {ta : TA} {W : WX} {p pos pos2 : Pos} {k : Nat} (hc : X.calm = true) (T : FoX_number.XTxt X.prog X.K X.mg C fI) (gC : X.mg nm = some (.ref C)) (hr : Room k X.A) (tk : Takes X W) (ha : PA X [a] ta) (hg : Gl X nm := by rfl) (hdb : (nm == ("__debug__" : Str)) = false := by decide)
    (he : starEach (a :: []) X.env = (false, eval a X.env) :: starEach [] X.env := by rfl) (hpl : (backTo pos (starEach [] X.env)).any (·.1) = false := by rfl) :
    PS X (.Raise (some (.Call (.Name nm p) [a] [] pos)) none pos2) (tRaiseX_number C W ta) := ps_raise hc tk (pmk_number T gC hr ha hg hdb he hpl)
theorem ps_raiseN_number {a : Expr} {ta : TA} {W : WX} {p pos pos2 : Pos} {k : Nat} (hc : X.calm = true) (T : FoX_number.XTxt X.prog X.K X.mg C fI) (gC : X.mg nm = some (.ref C)) (hr : Room k X.A) (tk : L2N.Takes X W) (ha : PA X [a] ta) (hg : Gl X nm := by rfl) (hdb : (nm == ("__debug__" : Str)) = false := by decide)
    (he : starEach (a :: []) X.env = (false, eval a X.env) :: starEach [] X.env := by rfl) (hpl : (backTo pos (starEach [] X.env)).any (·.1) = false := by rfl) :
    PS X (.Raise (some (.Call (.Name nm p) [a] [] pos)) none pos2) (tRaiseX_number C W ta) := L2N.ps_raise hc tk (pmkN_number T gC hr ha hg hdb he hpl)
/-- e.field, e the error that the suite holds (at a; its class cls, its dict d) -/
def tByX_number (C : Addr) (a : Addr) (cls : Value) (d : Option Addr) (te : TE) : TE := fun σ H Q => te σ H fun x H1 => x = .ref a ∧ cls = .ref C ∧ ∃ (dd : Addr) (v : V), d = some dd ∧ H1 dd = some (.xd [((Str.ofString "number"), v)]) ∧ Q v H1
theorem pe_by_number {a : Addr} {oe : Obj} {cls : Value} {d : Option Addr} {pn : List (Addr × Obj)} {e : Expr} {te : TE} {pos : Pos} (T : FoX_number.XTxt X.prog X.K X.mg C fI) (hz : Zc cls d oe) (hf : ∃ vs, oe.data = .fields vs) (he : PE (X.suite a ((a, oe) :: pn)) e te)
    (hb : attributeBase e (Str.ofString "number") X.env (eval e X.env) = eval e X.env := by rfl) :
    PE (X.suite a ((a, oe) :: pn)) (.Attribute e (Str.ofString "number") pos) (tByX_number C a cls d te) := by
  refine ⟨fun pins s σ H Q I h => ?_⟩
  refine attr_of hb (thn (he.run pins s σ H _ I h) fun u s1 hh => ?_)
  obtain ⟨x, H1, I1, rx, ex, ec, dd, v, ed, ea, q⟩ := hh
  subst ex
  obtain rfl : u = Value.ref a := rx
  subst ec
  subst ed
  obtain ⟨ha, _⟩ := I1.pin (a, oe) (List.mem_append_left _ List.mem_cons_self)
  obtain ⟨vs, hd⟩ := hf
  have hx : ObjOk X.prog X.w H1 s1.heap dd (.xd [((Str.ofString "number"), v)]) := I1.hok dd _ ea
  obtain ⟨mA, hns, hr⟩ := hx
  obtain ⟨od, ho, hl⟩ := lookIn_ns hns
  have l : List.lookup (Str.ofString "number") [((Str.ofString "number"), v)] = some v := by simp [List.lookup]
  obtain ⟨u, hu, ru⟩ := RelO.some_of (v := v) (o := mA (Str.ofString "number")) (by rw [← l]; exact hr (Str.ofString "number"))
  have J : PySem.W.InstAt s1.heap a oe C (some od) := ⟨ha, hz.1, by unfold PySem.W.notCls; rw [hd] <;> rfl, by rw [hz.2]; exact ho⟩
  exact HandSPX.exc_get I1.kIn J T.ga T.gg T.exC (PySem.W.findObj_own T.hdC T.noN rfl (by rw [hl, hu])) (handed_of ru) ⟨v, H1, I1.tok _, ru, q⟩
end
end L2
set_option Elab.async false
set_option linter.all false
set_option maxRecDepth 100000
set_option maxHeartbeats 2000000
/-! promises joined; a def called within an except suite with the error -/
namespace L2
open PySem PySem.Spec PyProof.Rows
section
variable {P : Program} {w : World} {K : PySem.W.Frag} {mg : Str → Option Value} {base : Heap} {k j : Nat} {f : Addr} {fd : FuncData} {ps : List Str} {sp sp' : Sp}
theorem FnOk.or {CX : CXT} (a : FnOk P w K mg base CX k f fd ps sp) (b : FnOk P w K mg base CX k f fd ps sp') : FnOk P w K mg base CX k f fd ps (fun vs H Q E => sp vs H Q E ∨ sp' vs H Q E) :=
  ⟨fun vs H Q E h => h.elim (a.len vs H Q E) (b.len vs H Q E), fun A outer s H args us vs Q E hr e0 hb r h => h.elim (a.run A outer s H args us vs Q E hr e0 hb r) (b.run A outer s H args us vs Q E hr e0 hb r)⟩
theorem FnOk.up {CX : CXT} (a : FnOk P w K mg base CX0 k f fd ps sp) : FnOk P w K mg base CX k f fd ps sp :=
  ⟨a.len, fun A outer s H args us vs Q E hr e0 hb r h => codeAny_mono (a.run A outer s H args us vs Q E hr e0 hb r h) fun r s' z => by
    cases r with
    | error e => exact False.elim z
    | ok fl => cases fl <;> exact z⟩
theorem FnOk.lift {CX : CXT} (a : FnOk P w K mg base CX k f fd ps sp) (h : k ≤ j) : FnOk P w K mg base CX j f fd ps sp :=
  ⟨a.len, fun A outer s H args us vs Q E hr e0 hb r => a.run A outer s H args us vs Q E (hr.mono h) e0 hb r⟩
end
/-- what a def promises that is called within an except suite, the error (at p) among its arguments, where nothing is being shown -/
structure FnE (P : Program) (w : World) (K : PySem.W.Frag) (mg : Str → Option Value) (base : Heap) (k : Nat) (f : Addr) (fd : FuncData) (ps : List Str) (sp : Addr × Obj → Sp) : Prop where
  len : ∀ p vs H Q E, sp p vs H Q E → vs.length = ps.length
  run : ∀ (A : Around), A.guards = some [] → ∀ (outer : List Env) (s : Shared) (H : Hp) (args : Args) (us : List Value) (vs : List V) (Q : VK) (E : XK) (p : Addr × Obj), L2H.RoomH k A → L2H.PinOk outer H s p → Env0 P w K mg base A outer s H → BindsTo s fd args (ps.zip us) → Vals vs us → sp p vs H Q E →
    codeAny (model P w) A (.call (.ref f) args) (CR CX0 outer P w H s Q E) s
section
variable {P : Program} {w : World} {K : PySem.W.Frag} {mg : Str → Option Value} {base : Heap}
theorem Fun.okE {x qual : Str} {st : Stmt} {f : Addr} {fd : FuncData} {N ps : List Str} {k : Nat} {sp : Addr × Obj → Sp} (F : Fun K x qual st f fd) (S : FnScope N ps (defScope st)) (len : ∀ p vs H Q E, sp p vs H Q E → vs.length = ps.length)
    (walk : ∀ (cdv : Value) (A : Around) (outer : List Env) (s : Shared) (H : Hp) (vs : List V) (Q : VK) (E : XK) (p : Addr × Obj), A.guards = some [] → L2H.RoomH k (A.deeper (envOfC qual (defScope st) s.heap.objs.size f cdv)) → sp p vs H Q E →
      ∃ t, PSs (L2H.cxH CX0 P w K mg base N qual (defScope st) f cdv A outer s H E p).nox (defBody st) t ∧ t { nx := fun _ H' => Q .non H', rt := Q } (start N vs) H) : FnE P w K mg base (k + 1) f fd ps sp := by
  obtain ⟨oc, od, kV, doc, pm, an, cdv, ct, osl, rfl, lk, hcd⟩ := F.ex
  refine ⟨len, fun A hgd outer s H args us vs Q E p room hpin env bind rel want => ?_⟩
  have inB : ∀ b o, base.get? b = some o → s.heap.get? b = some o := fun b o z => (env.bs b o z).1
  have inK := env.mod.kin.keeps inB
  have kinds : ∀ y ∈ ps.zip us, (defScope st).names.lookup y.1 = some .local ∨ ((defScope st).names.lookup y.1 = some .cell ∧ ((cellsFrom (s.heap.objs.size + 1) (defScope st).names []).lookup y.1).isSome = true) := by
    rintro ⟨n, v⟩ hy
    exact (S.par n (List.of_mem_zip hy).1).imp id fun q => ⟨q, PySem.W.cellsFrom_some _ _ _ (.inl q)⟩
  refine codeAny_call_function room.depth (inK _ _ lk) rfl S.co S.gen rfl (PySem.W.codeRec_of inK hcd) (bind _ _ _ _ (wpAny_newFunctionEnv_cells S.kind kinds ?_))
  rintro _ rfl s1 entry
  refine ⟨(env.mod.nolimit.keeps inB).keeps entry.toInCall.keep, codeAny_func ?_⟩
  obtain ⟨t, body, told⟩ := walk cdv A outer s H vs Q E p hgd (room.deeper _) want
  have start0 : Inv (L2H.cxH CX0 P w K mg base N qual (defScope st) f cdv A outer s H E p) [] (L2.start N vs) H s1 := L2H.inv_startH S hpin env (len _ _ _ _ _ want) rel entry
  refine wpAny_mono (body.nox.run [] s1 (start N vs) H _ start0 told) ?_ fun _ _ z => z
  intro fl s' z
  cases fl with
  | ret u =>
    obtain ⟨v, σ', H', J, rv, q⟩ := z
    exact ⟨v, H', J.os, J.bare, J.base, J.hok, rv, q⟩
  | next =>
    obtain ⟨σ', H', J, q⟩ := z
    exact ⟨.non, H', J.os, J.bare, J.base, J.hok, rfl, q⟩
  | brk => exact z.elim fun _ z => z.elim fun _ z => z.2.elim
  | cont => exact z.elim fun _ z => z.elim fun _ z => z.2.elim
end
section
variable {X : Cx} {k : Nat} {f : Addr} {fd : FuncData} {ps : List Str} {sp : Addr × Obj → Sp} {x : Str} {q pos : Pos} {e : Expr} {es : List Expr} {t : TA} {p : Addr × Obj}
theorem pe_callE {sp' : Sp} (hsp : ∀ vs H Q, sp' vs H Q E0 → sp p vs H Q E0) (F : FnE X.prog X.w X.K X.mg X.base k f fd ps sp) (hgd : X.A.guards = some []) (hr : L2H.RoomH k X.A) (hp : p ∈ X.pn) (hg : Gl X x) (hm : X.mg x = some (.ref f)) (hk : PySem.W.keepIn X.K (.ref f) = true) (hb : Binds X.K fd ps [])
    (ha : PA X (e :: es) t) (hdb : (x == ("__debug__" : Str)) = false := by decide) (he : starEach (e :: es) X.env = (false, eval e X.env) :: starEach es X.env := by rfl) (hpl : (backTo pos (starEach es X.env)).any (·.1) = false := by rfl) :
    PE X (.Call (.Name x q) (e :: es) [] pos) (tCall sp' [] E0 t) := by
  constructor
  intro pins s σ H Q I h
  refine wpAny_Call_Name_kw (ld_glob I hg hm (PySem.W.callWith_K (h₀ := X.base) I.ok.mod.kin hk (thn (ha.run pos pins s σ H _ I h) ?_) he hpl) hdb)
  rintro us s1 ⟨vs, H1, I1, rel, want⟩
  refine ⟨I1.kIn, ?_⟩
  rw [List.append_nil] at want
  replace want := hsp _ _ _ want
  have ln : us.length = ps.length := rel.length.symm.trans (F.len _ _ _ _ _ want)
  have bnd := hb s1 us I1.kIn (by rw [List.append_nil]; exact ln)
  rw [List.append_nil] at bnd
  have P1 := I1.pin p (List.mem_append_left _ hp)
  have hpin : L2H.PinOk X.stack H1 s1 p := ⟨P1.1, P1.2.1, fun hm => (List.mem_cons.mp (I1.stkSub p.1 hm)).elim P1.2.2.1 P1.2.2.2.1, P1.2.2.2.2⟩
  refine wpAny_call (codeAny_mono (F.run X.A hgd X.stack s1 H1 ⟨us, []⟩ us vs Q E0 p hr hpin I1.env0 bnd rel want) ?_)
  intro r s' z
  rcases r with e | (u | _ | _ | _)
  all_goals first | exact I1.after z | exact False.elim z
end
/-- isinstance(e, c), e an error that is pinned -/
theorem call_isP {X : Cx} {a : Addr} {oe : Obj} {cls : Value} {d : Option Addr} (hp : (a, oe) ∈ X.pn) (hz : Zc cls d oe) (hf : ∃ vs, oe.data = .fields vs) : CallR X (.builtin "isinstance") (rIsX X.K a cls d) := by
  intro pins s σ H xs us Q I r h
  obtain ⟨D, dd, fs, c, cv, b, rfl, rfl, rfl, hdd, hcv, T, e, q⟩ := h
  obtain ⟨u1, u2, rfl, r1, r2⟩ := vals2 r
  obtain rfl : u1 = Value.ref a := r1
  obtain rfl := hcv.eq r2
  obtain ⟨ha, _⟩ := I.pin (a, oe) (List.mem_append_left _ hp)
  obtain ⟨vs, hd⟩ := hf
  obtain ⟨mA, hns, _⟩ := (show ObjOk X.prog X.w H s.heap dd (.xd fs) from I.hok dd _ hdd)
  obtain ⟨od, ho, _⟩ := lookIn_ns hns
  have J : PySem.W.InstAt s.heap a oe D (some od) := ⟨ha, hz.1, by unfold PySem.W.notCls; rw [hd] <;> rfl, by rw [hz.2]; exact ho⟩
  have hcl : (PySem.W.clsIn X.K D).isSome = true := by
    obtain ⟨cd, hc, _⟩ := PySem.W.any_some T.hd
    rw [hc]
    rfl
  exact PySem.W.kia_one (PySem.W.kitx_exc hcl T.hg T.hk T.hs T.ha T.hn T.ht T.hm) I.kIn J e (fun z => nomatch z) fun tk => ⟨.bl b, H, I.kept (t' := tk) fun _ _ z => z, rfl, q⟩
/-- e.thing of such a one -/
def tByP (P : Program) (K : PySem.W.Frag) (mg : Str → Option Value) (a : Addr) (cls : Value) (d : Option Addr) (te : TE) : TE := fun σ H Q => te σ H fun x H1 => x = .ref a ∧ ∃ C fI : Addr, FoX_thing.XTxt P K mg C fI ∧ cls = .ref C ∧ ∃ (dd : Addr) (v : V), d = some dd ∧ H1 dd = some (.xd [((Str.ofString "thing"), v)]) ∧ Q v H1
theorem pe_byP {X : Cx} {a : Addr} {oe : Obj} {cls : Value} {d : Option Addr} {e : Expr} {te : TE} {pos : Pos} (hp : (a, oe) ∈ X.pn) (hz : Zc cls d oe) (hf : ∃ vs, oe.data = .fields vs) (he : PE X e te)
    (hb : attributeBase e (Str.ofString "thing") X.env (eval e X.env) = eval e X.env := by rfl) :
    PE X (.Attribute e (Str.ofString "thing") pos) (tByP X.prog X.K X.mg a cls d te) := by
  refine ⟨fun pins s σ H Q I h => ?_⟩
  refine attr_of hb (thn (he.run pins s σ H _ I h) fun u s1 hh => ?_)
  obtain ⟨x, H1, I1, rx, ex, C, fI, T, ec, dd, v, ed, ea, q⟩ := hh
  subst ex
  obtain rfl : u = Value.ref a := rx
  subst ec
  subst ed
  obtain ⟨ha, _⟩ := I1.pin (a, oe) (List.mem_append_left _ hp)
  obtain ⟨vs, hd⟩ := hf
  have hx : ObjOk X.prog X.w H1 s1.heap dd (.xd [((Str.ofString "thing"), v)]) := I1.hok dd _ ea
  obtain ⟨mA, hns, hr⟩ := hx
  obtain ⟨od, ho, hl⟩ := lookIn_ns hns
  have l : List.lookup (Str.ofString "thing") [((Str.ofString "thing"), v)] = some v := by simp [List.lookup]
  obtain ⟨u, hu, ru⟩ := RelO.some_of (v := v) (o := mA (Str.ofString "thing")) (by rw [← l]; exact hr (Str.ofString "thing"))
  have J : PySem.W.InstAt s1.heap a oe C (some od) := ⟨ha, hz.1, by unfold PySem.W.notCls; rw [hd] <;> rfl, by rw [hz.2]; exact ho⟩
  exact HandSPX.exc_get I1.kIn J T.ga T.gg T.exC (PySem.W.findObj_own T.hdC T.noN rfl (by rw [hl, hu])) (handed_of ru) ⟨v, H1, I1.tok _, ru, q⟩
end L2
set_option Elab.async false
set_option linter.all false
set_option maxRecDepth 100000
set_option maxHeartbeats 2000000
/-! o(..) by an own __call__, o.f = e by a property's setter -/
namespace FoRul
open PySem PySem.Spec PySem.Calls PyProof.Rows PySem.W
section
variable {M : Model} {A : Around} {E : Value → Shared → Prop} {s : Shared} {env : Env} {pos : Pos} {x : Addr} {first : List Value} {Q : Value → Shared → Prop}
theorem callWith_inst {e : Expr} {rest : List Expr} (h : wpAny M A (spliced (backTo pos (starEach (e :: rest) env))) (fun vs s₁ => (∃ ox, s₁.heap.get? x = some ox ∧ ox.data = .plain) ∧ wpAny M A (call (.ref x) (first ++ vs)) Q E s₁) E s)
    (he : starEach (e :: rest) env = (false, eval e env) :: starEach rest env) (hpl : (backTo pos (starEach rest env)).any (·.1) = false) : wpAny M A (callWith pos (.ref x) first (backTo pos (starEach (e :: rest) env)) []) Q E s := by
  rw [he] at h ⊢
  have plain : (((backTo pos ((false, eval e env) :: starEach rest env)).any (·.1)) || ([] : List (Option Str × Sem Value)).any (·.1.isNone)) = false := by
    show ((false || (backTo pos (starEach rest env)).any (·.1)) || false) = false
    rw [hpl]
    rfl
  have ev : wpAny M A (evalArgs (.ref x) true (backTo pos ((false, eval e env) :: starEach rest env)) []) (fun a s₁ => (∃ ox, s₁.heap.get? x = some ox ∧ ox.data = .plain) ∧ wpAny M A (call (.ref x) (first ++ a.pos) a.kw) Q E s₁) E s := evalArgs_plain h
  unfold callWith
  refine wpAny_bind (wpAny_holding (wpAny_mono ev (fun a s₁ h₁ => wpAny_bind (wpAny_standAt ?_)) fun _ _ y => y))
  obtain ⟨⟨ox, at_, hd⟩, h₁⟩ := h₁
  have keeper : Looks M s₁.heap (keeperOf (.ref x)) .caller := by
    refine (Looks.ld (part := none) at_).andThen ?_
    simp only [hd]
    exact .now
  simp only [plain]
  refine wpAny_bind (keeper.here ?_)
  have last : ∀ {t : Sem Value}, wpAny M A t Q E s₁ → wpAny M A (t >>= fun r => holding [r] point >>= fun _ => pure r) Q E s₁ := fun ht => wpAny_bind (wpAny_mono ht (fun r s₂ hr => wpAny_bind (wpAny_holding (wpAny_point (wpAny_pure hr)))) fun _ _ y => y)
  exact last (wpAny_operateT h₁)
end
end FoRul
namespace L2
open PySem PySem.Spec PyProof.Rows
/-- a class with an own __call__ at f -/
structure OwnCall (K : PySem.W.Frag) (C f : Addr) : Prop where
  at_ : PySem.W.findIn K (.ref C) "__call__" = some (some (.ref f))
  fn : PySem.W.isFn K (.ref f) = true
  fi : PySem.W.fnIn K f = true
/-- x(..), x a local that holds an instance of the class at C -/
def tCallI (i : Nat) (C : Addr) (sp : Sp) (E : XK) (t : TA) : TE := fun σ H Q => ∃ a, σ[i]? = some (some (.ref a)) ∧ t σ H fun vs H1 => ∃ dx fs, H1 a = some (.ins C dx fs) ∧ sp (.ref a :: vs) H1 Q E
/-- a property at p whose setter is the def at g -/
structure PropSet (K : PySem.W.Frag) (C : Addr) (f : Str) (p g : Addr) : Prop where
  at_ : PySem.W.takerIn K C f = some (some (.ref p))
  ty : PySem.W.typeIn K (.ref p) = some (.type "property")
  rec_ : ∃ a rest, PySem.W.recIn K p "property" = some (a :: .ref g :: rest)
def sProp (C : Addr) (sp : Sp) (E : XK) (ta tv : TE) : TS := fun D σ H => tv σ H fun y H1 => ta σ H1 fun x H2 => ∃ a dx fs, x = .ref a ∧ H2 a = some (.ins C dx fs) ∧ sp [.ref a, y] H2 (fun _ H3 => D.nx σ H3) E
section
variable {X : Cx} {CX : CXT} {k i : Nat} {f C p g : Addr} {fd : FuncData} {ps : List Str} {sp : Sp} {E : XK} {x nm : Str} {e o value : Expr} {es : List Expr} {t : TA} {ta tv : TE} {q pos pos' : Pos}
theorem pe_callI (O : OwnCall X.K C f) (F : FnOk X.prog X.w X.K X.mg X.base CX k f fd ps sp) (hr : Room (k + 1) X.A) (hb : Binds X.K fd ps []) (hx : Passes CX X E) (hN : X.N[i]? = some x) (hv : Vis X.env.scope x) (ha : PA X (e :: es) t)
    (hd : (x == ("__debug__" : Str)) = false := by decide) (hcd : (x == ("__classdict__" : Str)) = false := by decide)
    (he : starEach (e :: es) X.env = (false, eval e X.env) :: starEach es X.env := by rfl) (hpl : (backTo pos (starEach es X.env)).any (·.1) = false := by rfl) : PE X (.Call (.Name x q) (e :: es) [] pos) (tCallI i C sp E t) := by
  refine ⟨fun pins s σ H Q I h => ?_⟩
  obtain ⟨a, hs, h⟩ := h
  refine wpAny_Call_Name_kw (thn ((pe_var (pos := q) (i := i) hN hv hd hcd).run pins s σ H (fun v H1 => v = .ref a ∧ H1 = H) I ⟨.ref a, hs, rfl, rfl⟩) fun u s1 hh => ?_)
  obtain ⟨v, H1, I1, r1, ev, eH⟩ := hh
  subst ev
  rw [eH] at I1
  cases r1
  refine FoRul.callWith_inst (thn (ha.run pos pins s1 σ H _ I1 h) fun us s2 hh => ?_) he hpl
  obtain ⟨vs, H2, I2, r, dx, fs, hins, q2⟩ := hh
  obtain ⟨mA, O2, _⟩ := ins_get I2.hok hins
  obtain ⟨od, J, _⟩ := O2.look
  refine ⟨⟨_, J.at_, rfl⟩, wpAny_call (PySem.W.kco_code I2.kIn J rfl O.at_ O.fn O.fi ?_)⟩
  have r2 : Vals (.ref a :: vs) (.ref a :: us) := .cons rfl r
  have hl := F.len _ _ _ _ q2
  have bnd := hb s2 (.ref a :: us) I2.kIn (by rw [List.append_nil, ← r2.length]; exact hl)
  rw [List.append_nil] at bnd
  refine codeAny_mono (F.run X.A X.stack s2 H2 ⟨.ref a :: us, []⟩ (.ref a :: us) (.ref a :: vs) Q E (hr.mono (Nat.le_succ _)) I2.env0 bnd r2 q2) fun z s' hq => ?_
  cases z with
  | error er => exact hx pins σ H2 s2 er s' I2 hq
  | ok fl =>
    cases fl with
    | ret u => exact I2.after hq
    | next => exact hq.elim
    | brk => exact hq.elim
    | cont => exact hq.elim
theorem ps_prop (ho : PE X o ta) (hw : PE X value tv) (c : Cls X.K C) (hp : PropSet X.K C nm p g) (F : FnOk X.prog X.w X.K X.mg X.base CX k g fd ps sp) (hr : Room (k + 2) X.A) (hb : Binds X.K fd ps []) (hx : Passes CX X E)
    (hs : swapsWith value (some (.Attribute o nm pos')) pos.line X.env = pure false := by rfl) : PS X (.Assign [.Attribute o nm pos'] value pos) (sProp C sp E ta tv) := by
  refine ⟨fun pins s σ H D I h => ?_⟩
  refine plainObj_wpAny_Assign_Attribute (thn (hw.run pins s σ H _ I h) fun u s1 hh => ?_) hs
  obtain ⟨y, H1, I1, ry, q1⟩ := hh
  refine thn (ho.run pins s1 σ H1 _ I1 q1) fun ov s2 hh => ?_
  obtain ⟨x, H2, I2, rx, a, dx, fs, ex, hins, q2⟩ := hh
  subst ex
  obtain rfl : ov = Value.ref a := rx
  obtain ⟨mA, O2, _⟩ := ins_get I2.hok hins
  obtain ⟨od, J, _⟩ := O2.look
  obtain ⟨m, hF⟩ := I2.fr
  obtain ⟨a0, rest, hrec⟩ := hp.rec_
  have I3 := I2.tok (s2.toks + 1)
  have r2 : Vals [.ref a, y] [.ref a, u] := .cons rfl (.cons ry .nil)
  have hl := F.len _ _ _ _ q2
  have bnd := hb { s2 with toks := s2.toks + 1 } [.ref a, u] I3.kIn (by simpa using hl)
  rw [List.append_nil] at bnd
  refine PySem.W.set_prop hF I2.ok.mod.kin J c.sa c.po hp.at_ hp.ty hrec ?_
  refine codeAny_mono (F.run X.A.in1.in1 X.stack { s2 with toks := s2.toks + 1 } H2 ⟨[.ref a, u], []⟩ [.ref a, u] [.ref a, y] _ E hr.in1.in1 I3.env0.in1.in1 bnd r2 q2) fun z s' hq => ?_
  cases z with
  | error er => exact hx pins σ H2 { s2 with toks := s2.toks + 1 } er s' I3 hq
  | ok fl =>
    cases fl with
    | ret u' =>
      obtain ⟨v, H', I4, rv, q3⟩ := I3.after hq
      exact ⟨σ, H', I4, q3⟩
    | next => exact hq.elim
    | brk => exact hq.elim
    | cont => exact hq.elim
end
end L2
set_option Elab.async false
set_option linter.all false
set_option maxRecDepth 100000
set_option maxHeartbeats 2000000
/-! x in o by an own __contains__; == both ways of own objects, of pairs of them, such a pair in a list -/
namespace L2
open PySem PySem.Spec PyProof.Rows
structure OwnIn (K : PySem.W.Frag) (C f : Addr) : Prop where
  at_ : PySem.W.findIn K (.ref C) "__contains__" = some (some (.ref f))
  fn : PySem.W.isFn K (.ref f) = true
def rOwnIn (C : Addr) (sp : Sp) (E : XK) (neg : Bool) : R2 := fun x y H Q => ∃ a dx fs, y = .ref a ∧ H a = some (.ins C dx fs) ∧
  sp [y, x] H (fun v H' => ∃ k, v = .bl k ∧ Q (.bl (if neg then !k else k)) H') E
section
variable {X : Cx} {CX : CXT} {k : Nat} {f C : Addr} {fd : FuncData} {ps : List Str} {sp : Sp} {E : XK}
theorem op_ownIn (O : OwnIn X.K C f) (F : FnOk X.prog X.w X.K X.mg X.base CX k f fd ps sp) (hr : Room k X.A) (hb : Binds X.K fd ps []) (hx : Passes CX X E) : OpR X (compareOp .In) (rOwnIn C sp E false) := by
  intro pins s σ H x y v u Q I rx ry h
  obtain ⟨a, dx, fs, rfl, ha, q⟩ := h
  obtain rfl : u = Value.ref a := ry
  obtain ⟨mA, J, _⟩ := ins_get I.hok ha
  obtain ⟨od, J, _⟩ := J.look
  obtain ⟨m, hF⟩ := I.fr
  refine PySem.W.in_K hF I.ok.mod.kin J O.at_ O.fn ?_
  refine wpAny_mono (run_fn (us := [.ref a, v]) (vs := [.ref a, x]) F hr hb .nil hx I (.cons rfl (.cons rx .nil)) q) (fun r s' z => ?_) fun _ _ z => z
  obtain ⟨z1, H1, I1, rz, kk, rfl, qz⟩ := z
  cases rz
  exact wpAny_truthy_bool ⟨.bl kk, H1, I1, rfl, qz⟩
theorem op_ownNotIn (O : OwnIn X.K C f) (F : FnOk X.prog X.w X.K X.mg X.base CX k f fd ps sp) (hr : Room k X.A) (hb : Binds X.K fd ps []) (hx : Passes CX X E) : OpR X (compareOp .NotIn) (rOwnIn C sp E true) := by
  intro pins s σ H x y v u Q I rx ry h
  obtain ⟨a, dx, fs, rfl, ha, q⟩ := h
  obtain rfl : u = Value.ref a := ry
  obtain ⟨mA, J, _⟩ := ins_get I.hok ha
  obtain ⟨od, J, _⟩ := J.look
  obtain ⟨m, hF⟩ := I.fr
  refine PySem.W.notIn_K hF I.ok.mod.kin J O.at_ O.fn ?_
  refine wpAny_mono (run_fn (us := [.ref a, v]) (vs := [.ref a, x]) F hr hb .nil hx I (.cons rfl (.cons rx .nil)) q) (fun r s' z => ?_) fun _ _ z => z
  obtain ⟨z1, H1, I1, rz, kk, rfl, qz⟩ := z
  cases rz
  exact wpAny_truthy_bool ⟨.bl (!kk), H1, I1, rfl, qz⟩
end
abbrev EqvB := V → V → Bool → Hp → Prop
def MonB (D : EqvB) : Prop := ∀ x y b H H', Ext H H' → D x y b H → D x y b H'
/-- == of two values inside a builtin -/
def EqB (X : Cx) (n : Nat) (D : EqvB) : Prop :=
  ∀ (A : Around) (pins : List (Addr × Obj)) (s : Shared) (σ : St) (H : Hp) (x y : V) (u v : Value) (b : Bool), Sub X n A → Inv X pins σ H s → RelV x u → RelV y v → D x y b H →
    wpAny (model X.prog X.w) A (eqBool u v) (fun r s' => r = b ∧ ∃ H', Inv X pins σ H' s' ∧ Ext H H') X.xe s
/-- two instances of the class at C, by the own == -/
def DOwn (C : Addr) (sp : Sp) (E : XK) : EqvB := fun x y b H => ∃ a c dx dy fs gs, x = .ref a ∧ y = .ref c ∧ H a = some (.ins C dx fs) ∧ H c = some (.ins C dy gs) ∧ (a = c → b = true) ∧
  sp [x, y] H (fun v H' => v = .bl b ∧ Ext H H') E
/-- two pairs -/
def DPair (K : PySem.W.Frag) (D : EqvB) : EqvB := fun x y b H => ∃ p q x1 x2 y1 y2 b1 b2, x = .ref p ∧ y = .ref q ∧ SqT K H p [x1, x2] ∧ SqT K H q [y1, y2] ∧ (p = q → b = true) ∧ D x1 y1 b1 H ∧ D x2 y2 b2 H ∧ b = (b1 && b2)
section
variable {X : Cx} {n : Nat} {D : EqvB}
theorem eqB_own {CX : CXT} {f C : Addr} {fd : FuncData} {ps : List Str} {sp : Sp} {E : XK} (F : FnOk X.prog X.w X.K X.mg X.base CX n f fd ps sp) (hs : PySem.W.findIn X.K (.ref C) "__eq__" = some (some (.ref f))) (hf : PySem.W.isFn X.K (.ref f) = true)
    (hb : Binds X.K fd ps []) (hx : Passes CX X E) : EqB X n (DOwn C sp E) := by
  intro A pins s σ H x y u v b sb I rx ry d
  obtain ⟨a, c, dx, dy, fs, gs, rfl, rfl, ha, hc, hac, hsp⟩ := d
  cases rx
  cases ry
  by_cases hq : a = c
  · rw [hac hq]
    subst hq
    exact SeqAt.EqAt.same (A := A) (s := s) (.ref a) X.prog X.w X.xe _ ⟨rfl, H, I, Ext.rfl'⟩
  refine GQ.eqBool_refG hq ?_
  obtain ⟨mA, J, _⟩ := ins_get I.hok ha
  obtain ⟨mB, J', _⟩ := ins_get I.hok hc
  obtain ⟨od, J, _⟩ := J.look
  obtain ⟨od', J', _⟩ := J'.look
  obtain ⟨m, hF⟩ := I.fr
  refine PySem.W.cmp_K (op := .Eq) (tb := .ref C) sb.room.units0 hF I.ok.mod.kin J J'.type (by simp [PySem.W.notFirst]) hs hf ?_
  have e0 : Env0 X.prog X.w X.K X.mg X.base A X.stack s H := by
    obtain ⟨g1, g2, g3, g4, g5, g6, g7, g8⟩ := I.env0
    exact ⟨by rw [sb.fr]; exact g1, g2, g3, g4, g5, g6, g7, g8⟩
  have hl := F.len _ _ _ _ hsp
  have bnd := hb s [.ref a, .ref c] I.kIn (by simpa using hl)
  refine wpAny_call (codeAny_mono (F.run A X.stack s H ⟨[.ref a, .ref c], []⟩ [.ref a, .ref c] [.ref a, .ref c] _ E sb.room e0 (by simpa using bnd) (.cons rfl (.cons rfl .nil)) hsp) fun r s' hr => ?_)
  cases r with
  | error e => exact hx pins σ H s e s' I hr
  | ok fl =>
    cases fl with
    | ret w =>
      obtain ⟨z, H', I', rz, ez, ex⟩ := I.after hr
      subst ez
      cases rz
      exact ⟨b, rfl, rfl, H', I', ex⟩
    | next => exact hr.elim
    | brk => exact hr.elim
    | cont => exact hr.elim
end
end L2
namespace L2
open PySem PySem.Spec PyProof.Rows
/-- a == l, a an instance of the class at C with its own ==, l a list -/
def rOwnEqL (C : Addr) (sp : Sp) (E : XK) : R2 := fun x y H Q => ∃ a dx fs b xs, x = .ref a ∧ H a = some (.ins C dx fs) ∧ y = .ref b ∧ H b = some (.lst xs) ∧ sp [x, y] H Q E
theorem op_ownEqL {X : Cx} {CX : CXT} {k : Nat} {f C : Addr} {fd : FuncData} {ps : List Str} {sp : Sp} {E : XK} (hs : PySem.W.findIn X.K (.ref C) "__eq__" = some (some (.ref f))) (hf : PySem.W.isFn X.K (.ref f) = true) (nl : PySem.W.notFirst X.K C (.type "list") = true)
    (F : FnOk X.prog X.w X.K X.mg X.base CX k f fd ps sp) (hr : Room k X.A) (hb : Binds X.K fd ps []) (hx : Passes CX X E) : OpR X (compareOp .Eq) (rOwnEqL C sp E) := by
  intro pins s σ H x y v u Q I rx ry h
  obtain ⟨a, dx, fs, b, xs, rfl, ha, rfl, hl, q⟩ := h
  obtain rfl : v = Value.ref a := rx
  obtain rfl : u = Value.ref b := ry
  obtain ⟨mA, J, _⟩ := ins_get I.hok ha
  obtain ⟨od, J, _⟩ := J.look
  obtain ⟨m, hF⟩ := I.fr
  obtain ⟨_, _, _, _, e⟩ := (show ObjOk X.prog X.w H s.heap b (.lst xs) from I.hok b _ hl)
  have lk : PySem.W.Looks (model X.prog X.w) s.heap (typeOf (.ref b)) (.type "list") := fun A Q E s' k q => wpAny_typeOf ⟨_, k _ _ e, rfl⟩ q
  refine PySem.W.cmp_K (op := .Eq) (tb := .type "list") hr.units0 hF I.ok.mod.kin J lk nl hs hf ?_
  refine wpAny_mono (run_fn (us := [.ref a, .ref b]) (vs := [.ref a, .ref b]) F hr hb .nil hx I (.cons rfl (.cons rfl .nil)) q) (fun r s' z => ?_) fun _ _ z => z
  obtain ⟨z1, H1, I1, rz, qz⟩ := z
  exact cmpBack_of (not_ni rz) ⟨z1, H1, I1, rz, qz⟩
end L2
set_option Elab.async false
set_option linter.all false
set_option maxRecDepth 100000
set_option maxHeartbeats 2000000
namespace FoT
open PySem PySem.Spec PyProof.Rows MeetsSeq MeetsSeq2 MeetsSeq3 SeqRoads2 GQ
open AutoSeq1 (wpAny_loadPart')
section
variable {prog : Program} {w : World} {A : Around} {R : Result → Shared → Prop}
theorem tuple_eq2 (l b : Addr) (a1 a2 b1 b2 : Value) (n n2 : Nat) (dd dd2 : Option Addr) (sl sl2 : Array (Option Value)) {s : Shared}
    (hl1 : s.heap.get? l = some { cls := .type "tuple", dict := dd, data := .seq #[a1, a2] n, slots := sl }) (hb1 : s.heap.get? b = some { cls := .type "tuple", dict := dd2, data := .seq #[b1, b2] n2, slots := sl2 })
    (h : wpAny (model prog w) A.in1 (eqBool a1 b1) (fun r s' => if r = true then wpAny (model prog w) A.in1 (eqBool a2 b2) (fun r2 s2 => R (.ok (.ret (.bool r2))) s2) (fun e s' => R (.error e) s') s' else R (.ok (.ret (.bool false))) s') (fun e s' => R (.error e) s') s) :
    wpAny (model prog w) A.in1 (Builtin.«tuple.__eq__» ⟨[.ref l, .ref b], []⟩) (FinOf prog w A R) (fun e s' => R (.error e) s') s := by
  have f2 := AutoSeq1.sub_tuple_tuple
  have h0 := h
  obtain ⟨hp, g, d, tk, os⟩ := s
  wp_walk using wpAny_loadPart' hl1, wpAny_loadPart' hb1, wpAny_forIn_list _ (fun rest st s' => st.1 = none ∧ ((rest = [(a1, b1), (a2, b2)] ∧ wpAny (model prog w) A.in1 (eqBool a1 b1) (fun r s' => if r = true then wpAny (model prog w) A.in1 (eqBool a2 b2) (fun r2 s2 => R (.ok (.ret (.bool r2))) s2) (fun e s' => R (.error e) s') s' else R (.ok (.ret (.bool false))) s') (fun e s' => R (.error e) s') s') ∨
    (rest = [(a2, b2)] ∧ wpAny (model prog w) A.in1 (eqBool a2 b2) (fun r2 s2 => R (.ok (.ret (.bool r2))) s2) (fun e s' => R (.error e) s') s') ∨ (rest = [] ∧ R (.ok (.ret (.bool true))) s'))) _
  case turn =>
    rintro ⟨y, x⟩ rest st s' ⟨hb', hz⟩
    rcases hz with ⟨hz, hq⟩ | ⟨hz, hq⟩ | ⟨hz, hq⟩
    · injection hz with h1 h2
      cases h1
      refine wpAny_bind (wpAny_mono hq (fun r s2 q2 => ?_) fun _ _ x => x)
      cases r with
      | true =>
        rw [if_pos rfl] at q2
        wp_walk
        exact ⟨rfl, .inr (.inl ⟨h2, q2⟩)⟩
      | false =>
        rw [if_neg (by decide)] at q2
        wp_walk
        exact q2
    · injection hz with h1 h2
      cases h1
      refine wpAny_bind (wpAny_mono hq (fun r s2 q2 => ?_) fun _ _ x => x)
      cases r with
      | true =>
        wp_walk
        exact ⟨rfl, .inr (.inr ⟨h2, q2⟩)⟩
      | false =>
        wp_walk
        exact q2
    · cases hz
  case fin =>
    rintro ⟨st1, st2⟩ s' ⟨hb', hz⟩
    simp only at hb'
    subst hb'
    rcases hz with ⟨hz, hq⟩ | ⟨hz, hq⟩ | ⟨hz, hq⟩
    · cases hz
    · cases hz
    · wp_walk
      simpa [Builtin.Tuple.tupleCompareSizes] using hq
  case h =>
    exact ⟨rfl, .inl ⟨rfl, h0⟩⟩
/-- the loop of x in l -/
theorem contains_loopG (l : Addr) (x : Value) (N : Nat) (B : Nat → Bool) (I : Nat → Shared → Prop)
    (hl : ∀ i s, I i s → ∃ (items : Array Value) (n : Nat), s.heap.get? l = some { cls := .type "list", data := .seq items n } ∧ items.size = N ∧
      ∀ h : i < items.size, wpAny (model prog w) A.in1 (eqBool items[i] x) (fun r s' => r = B i ∧ I (i + 1) s') (fun e s' => R (.error e) s') s)
    (finT : ∀ i s, i < N → B i = true → (∀ j, j < i → B j = false) → I (i + 1) s → R (.ok (.ret (.bool true))) s) (finF : ∀ s, (∀ j, j < N → B j = false) → I N s → R (.ok (.ret (.bool false))) s) (k : Nat) :
    ∀ i : Nat, N - i = k → i ≤ N → (∀ j, j < i → B j = false) → ∀ s, I i s →
      wpAny (model prog w) A.in1 (Builtin.«list.__contains__.loop» ⟨[.ref l, x, rawInt i], []⟩) (FinOf prog w A R) (fun e s' => R (.error e) s') s := by
  induction k with
  | zero =>
    intro i hk hi hB s h
    obtain ⟨items, n, hl1, hs1, _⟩ := hl _ _ h
    have hi' : i = N := by omega
    subst hi'
    have hR := finF s hB h
    obtain ⟨hp, g, d, tk, os⟩ := s
    wp_walk using wpAny_loadPart' hl1
    have hi1 : items[((i : Nat) : Int).toNat]? = none := by simp; omega
    rw [hi1]
    wp_walk
    exact hR
  | succ k ih =>
    intro i hk hi hB s h
    obtain ⟨items, n, hl1, hs1, turn⟩ := hl _ _ h
    have hlt : i < items.size := by omega
    have ht := turn hlt
    obtain ⟨hp, g, d, tk, os⟩ := s
    wp_walk using wpAny_loadPart' hl1
    have hi1 : items[((i : Nat) : Int).toNat]? = some items[i] := by simp [hlt]
    have hc : ((i : Int) + 1) = ((i + 1 : Nat) : Int) := by omega
    rw [hi1]
    refine wpAny_bind (wpAny_mono ht (fun r s2 h2 => ?_) fun _ _ x => x)
    obtain ⟨hr, h2⟩ := h2
    cases r with
    | true =>
      have q := finT i s2 (by omega) hr.symm hB h2
      obtain ⟨hp2, g2, d2, tk2, os2⟩ := s2
      wp_walk
      exact q
    | false =>
      have hB2 : ∀ j, j < i + 1 → B j = false := fun j hj => by
        by_cases hq : j = i
        · rw [hq]; exact hr.symm
        · exact hB j (by omega)
      have hrec := ih (i + 1) (by omega) (by omega) hB2 s2 h2
      obtain ⟨hp2, g2, d2, tk2, os2⟩ := s2
      wp_walk
      rw [hc]
      exact ⟨plainId_quiet plain_contains_loop _, codeAny_builtin entry_contains_loop (by
        rw [Around.under_plainId plain_contains_loop _]
        exact hrec)⟩
end
section
variable {prog : Program} {w : World} {A : Around} {E : Value → Shared → Prop} {s : Shared}
theorem in_listG {l : Addr} {x : Value} {N : Nat} {B : Nat → Bool} {Q : Value → Shared → Prop} (I : Nat → Shared → Prop)
    (hl : ∀ i s, I i s → ∃ (items : Array Value) (n : Nat), s.heap.get? l = some { cls := .type "list", data := .seq items n } ∧ items.size = N ∧
      ∀ h : i < items.size, wpAny (model prog w) A.in1 (eqBool items[i] x) (fun r s' => r = B i ∧ I (i + 1) s') E s)
    (finT : ∀ i s, i < N → B i = true → (∀ j, j < i → B j = false) → I (i + 1) s → Q (.bool true) s) (finF : ∀ s, (∀ j, j < N → B j = false) → I N s → Q (.bool false) s) (h : I 0 s) :
    wpAny (model prog w) A (compareOp .In x (.ref l)) Q E s := by
  obtain ⟨items, n, hl1, hs1, _⟩ := hl _ _ h
  show wpAny _ A (do return .bool (← contains (.ref l) x)) Q E s
  have loop := contains_loopG (A := A) (R := wants (fun v s' => wpAny (model prog w) A (truthy v) (fun b s2 => Q (.bool b) s2) E s') E) l x N B I hl (fun i s' h1 h2 h3 h4 => wpAny_truthy_bool (finT i s' h1 h2 h3 h4)) (fun s' h1 h2 => wpAny_truthy_bool (finF s' h1 h2)) _ 0 rfl (Nat.zero_le _) (fun j hj => absurd hj (Nat.not_lt_zero _)) s h
  refine wpAny_bind (wpAny_contains_slot ⟨_, hl1, rfl⟩ F.slot_list_contains (wpAny_mono (call_here F.slot_list_contains ⟨_, hl1, rfl⟩ F.entry_list_contains (F.args_list_contains_2 _ _) ?_) (fun v s' hv => wpAny_mono hv (fun b s2 z => wpAny_pure z) fun _ _ e => e) fun _ _ e => e))
  obtain ⟨hp, g, d, tk, os⟩ := s
  wp_walk using wpAny_loadPart' hl1
  exact ⟨plainId_quiet plain_contains_loop _, codeAny_builtin entry_contains_loop (by
    rw [Around.under_plainId plain_contains_loop _]
    exact loop)⟩
theorem rc_tup2 {l b : Addr} {a1 a2 b1 b2 : Value} {Q : Value → Shared → Prop} (hu : A.units < cLine) (hl : s.heap.IsTuple l #[a1, a2]) (hb : s.heap.IsTuple b #[b1, b2])
    (h : wpAny (model prog w) A.in1 (eqBool a1 b1) (fun r s' => if r = true then wpAny (model prog w) A.in1 (eqBool a2 b2) (fun r2 s2 => Q (.bool r2) s2) E s' else Q (.bool false) s') E s) : wpAny (model prog w) A (richCompare .Eq (.ref l) (.ref b)) Q E s := by
  obtain ⟨⟨cls, dd, data, sl⟩, ho, hc, n, hd⟩ := id hl
  obtain ⟨⟨cls2, dd2, data2, sl2⟩, ho2, hc2, n2, hd2⟩ := id hb
  simp only at hc hd hc2 hd2
  subst hc hd hc2 hd2
  refine wpAny_richCompare_same_room (op := .Eq) ⟨_, ho, rfl⟩ ⟨_, ho2, rfl⟩ F.slot_tuple_eq (call_here F.slot_tuple_eq ⟨_, ho, rfl⟩ F.entry_tuple_eq (F.args_tuple_eq_2 _ _) ?_) hu
  refine tuple_eq2 (R := wants (fun v s' => v ≠ .notImplemented ∧ Q v s') E) l b a1 a2 b1 b2 n n2 dd dd2 sl sl2 ho ho2 (wpAny_mono h (fun r s' z => ?_) fun _ _ e => e)
  cases r with
  | true =>
    rw [if_pos rfl] at z ⊢
    exact wpAny_mono z (fun _ _ z => ⟨(fun x => nomatch x), z⟩) fun _ _ e => e
  | false =>
    rw [if_neg (by decide)] at z ⊢
    exact ⟨(fun x => nomatch x), z⟩
end
end FoT
namespace L2
open PySem PySem.Spec PyProof.Rows
/-- x in l, l a list, each item against x by D -/
def rInG (D : EqvB) : R2 := fun x y H Q => ∃ (l : Addr) (xs : List V) (bs : List Bool), y = .ref l ∧ H l = some (.lst xs) ∧ xs.length = bs.length ∧ (∀ (i : Nat) z b, xs[i]? = some z → bs[i]? = some b → D z x b H) ∧ ∀ H', Ext H H' → Q (.bl (bs.any id)) H'
section
variable {X : Cx} {n : Nat} {D : EqvB}
theorem eqB_pair (hD : MonB D) (h : EqB X n D) : EqB X (n + 1) (DPair X.K D) := by
  intro A pins s σ H x y u v b sb I rx ry d
  obtain ⟨p, q, x1, x2, y1, y2, b1, b2, rfl, rfl, hp, hq, hpq, d1, d2, hb⟩ := d
  cases rx
  cases ry
  by_cases e : p = q
  · rw [hpq e]
    subst e
    exact SeqAt.EqAt.same (A := A) (s := s) (.ref p) X.prog X.w X.xe _ ⟨rfl, H, I, Ext.rfl'⟩
  obtain ⟨its, r, e1, _⟩ := I.tuple hp
  obtain ⟨its2, r2, e2, _⟩ := I.tuple hq
  cases r with
  | cons ru1 r => cases r with
    | cons ru2 r =>
      cases r
      cases r2 with
      | cons rv1 r2 => cases r2 with
        | cons rv2 r2 =>
          cases r2
          refine GQ.eqBool_refG e (FoT.rc_tup2 sb.room.units0 e1 e2 ?_)
          refine wpAny_mono (h A.in1 pins s σ H x1 y1 _ _ b1 sb.in1 I ru1 rv1 d1) (fun t s1 z => ?_) fun _ _ x => x
          obtain ⟨rfl, H1, I1, g1⟩ := z
          cases t with
          | false =>
            rw [if_neg (by decide)]
            exact ⟨false, rfl, by rw [hb]; rfl, H1, I1, g1⟩
          | true =>
            rw [if_pos rfl]
            refine wpAny_mono (h A.in1 pins s1 σ H1 x2 y2 _ _ b2 sb.in1 I1 ru2 rv2 (hD _ _ _ _ _ g1 d2)) (fun t s2 z => ?_) fun _ _ x => x
            obtain ⟨rfl, H2, I2, g2⟩ := z
            exact ⟨t, rfl, by rw [hb]; rfl, H2, I2, g1.trans g2⟩
theorem monB_pair {K : PySem.W.Frag} (hD : MonB D) : MonB (DPair K D) := fun x y b H H' e d => by
  obtain ⟨p, q, x1, x2, y1, y2, b1, b2, h1, h2, hp, hq, hpq, d1, d2, hb⟩ := d
  exact ⟨p, q, x1, x2, y1, y2, b1, b2, h1, h2, hp.ext e, hq.ext e, hpq, hD _ _ _ _ _ e d1, hD _ _ _ _ _ e d2, hb⟩
theorem op_inG (hD : MonB D) (h : EqB X n D) (hr : Room (n + 1) X.A) : OpR X (compareOp .In) (rInG D) := by
  intro pins s σ H x y v u Q I rx ry hq
  obtain ⟨l, xs, bs, rfl, hl, hlen, hd, q⟩ := hq
  obtain rfl : u = Value.ref l := ry
  have sb : Sub X (n + 1) X.A := ⟨hr, rfl⟩
  refine FoT.in_listG (N := xs.length) (B := fun i => (bs[i]?).getD false) (fun _ s' => LoopI X pins σ H s') (fun i s' z => ?_) (fun i s' hi hB hn z => ?_) (fun s' hn z => ?_) ⟨H, I, Ext.rfl'⟩
  · obtain ⟨H1, I1, e1⟩ := id z
    obtain ⟨zz, its, k, r, e⟩ := I1.hok l _ (e1 _ _ hl)
    refine ⟨its.toArray, k, e, by rw [List.size_toArray, ← r.length], fun hlt => ?_⟩
    have h1' : i < its.length := by simpa using hlt
    have k1 : i < xs.length := by rw [r.length]; exact h1'
    have k2 : i < bs.length := by omega
    obtain ⟨w, hw, rw'⟩ := r.get (List.getElem?_eq_getElem k1)
    have g1 : its[i]? = some its.toArray[i] := by
      rw [List.getElem?_eq_getElem h1']
      simp
    rw [g1] at hw
    rw [Option.some.inj hw]
    have eb : (bs[i]?).getD false = bs[i] := by rw [List.getElem?_eq_getElem k2]; rfl
    refine wpAny_mono (h X.A.in1 pins s' σ H1 _ _ w v bs[i] sb.in1 I1 rw' rx (hD _ _ _ _ _ e1 (hd i _ _ (List.getElem?_eq_getElem k1) (List.getElem?_eq_getElem k2)))) (fun t s2 q2 => ?_) fun _ _ x => x
    obtain ⟨rfl, H2, I2, e2⟩ := q2
    exact ⟨eb.symm, H2, I2, e1.trans e2⟩
  · obtain ⟨H1, I1, e1⟩ := z
    have : bs.any id = true := by
      rw [List.any_eq_true]
      have k2 : i < bs.length := by omega
      have eb : (bs[i]?).getD false = bs[i] := by rw [List.getElem?_eq_getElem k2]; rfl
      exact ⟨bs[i], List.getElem_mem k2, by rw [← eb]; exact hB⟩
    refine ⟨.bl true, H1, I1, rfl, ?_⟩
    have q1 := q H1 e1
    rw [this] at q1
    exact q1
  · obtain ⟨H1, I1, e1⟩ := z
    have : bs.any id = false := by
      rw [List.any_eq_false]
      intro b hb
      obtain ⟨i, hi, rfl⟩ := List.getElem_of_mem hb
      have eb : (bs[i]?).getD false = bs[i] := by rw [List.getElem?_eq_getElem hi]; rfl
      have hz : (bs[i]?).getD false = false := hn i (by omega)
      rw [eb] at hz
      simp [hz]
    refine ⟨.bl false, H1, I1, rfl, ?_⟩
    have q1 := q H1 e1
    rw [this] at q1
    exact q1
end
end L2
set_option Elab.async false
set_option linter.all false
set_option maxRecDepth 100000
set_option maxHeartbeats 2000000
namespace L2
open PySem PySem.Spec PyProof.Rows
/-- == of two pairs, item by item by D -/
def rEqPair (K : PySem.W.Frag) (D : EqvB) : R2 := fun x y H Q => ∃ p q x1 x2 y1 y2 b1 b2, x = .ref p ∧ y = .ref q ∧ SqT K H p [x1, x2] ∧ SqT K H q [y1, y2] ∧ D x1 y1 b1 H ∧ D x2 y2 b2 H ∧ ∀ H', Ext H H' → Q (.bl (b1 && b2)) H'
theorem op_eqPair {X : Cx} {n : Nat} {D : EqvB} (hD : MonB D) (h : EqB X n D) (hr : Room (n + 1) X.A) : OpR X (compareOp .Eq) (rEqPair X.K D) := by
  intro pins s σ H x y v u Q I rx ry hq
  obtain ⟨p, q, x1, x2, y1, y2, b1, b2, rfl, rfl, hp, hq, d1, d2, k⟩ := hq
  obtain rfl : v = Value.ref p := rx
  obtain rfl : u = Value.ref q := ry
  have sb : Sub X (n + 1) X.A := ⟨hr, rfl⟩
  obtain ⟨its, r, e1, _⟩ := I.tuple hp
  obtain ⟨its2, r2, e2, _⟩ := I.tuple hq
  show wpAny (model X.prog X.w) X.A (richCompare .Eq (.ref p) (.ref q)) (EP X pins σ Q) X.xe s
  cases r with
  | cons ru1 r => cases r with
    | cons ru2 r =>
      cases r
      cases r2 with
      | cons rv1 r2 => cases r2 with
        | cons rv2 r2 =>
          cases r2
          refine FoT.rc_tup2 sb.room.units0 e1 e2 ?_
          refine wpAny_mono (h X.A.in1 pins s σ H x1 y1 _ _ b1 sb.in1 I ru1 rv1 d1) (fun t s1 z => ?_) fun _ _ x => x
          obtain ⟨rfl, H1, I1, g1⟩ := z
          cases t with
          | false =>
            rw [if_neg (by decide)]
            exact ⟨.bl false, H1, I1, rfl, k H1 g1⟩
          | true =>
            rw [if_pos rfl]
            refine wpAny_mono (h X.A.in1 pins s1 σ H1 x2 y2 _ _ b2 sb.in1 I1 ru2 rv2 (hD _ _ _ _ _ g1 d2)) (fun t s2 z => ?_) fun _ _ x => x
            obtain ⟨rfl, H2, I2, g2⟩ := z
            exact ⟨.bl t, H2, I2, rfl, k H2 (g1.trans g2)⟩
end L2
set_option linter.all false
/-! ### directions: kinds, the order round, the sort by insertion -/
namespace Fo
def kd (a : Int × Int) : Nat := if 0 < a.1 then (if a.2 = 0 then 0 else if 0 < a.2 then 1 else 7) else if a.1 = 0 then (if 0 < a.2 then 2 else 6) else (if 0 < a.2 then 3 else if a.2 = 0 then 4 else 5)
def crs (a b : Int × Int) : Int := a.1 * b.2 - a.2 * b.1
def dot (a b : Int × Int) : Int := a.1 * b.1 + a.2 * b.2
def bef (a b : Int × Int) : Bool := if kd a = kd b then decide (0 < crs a b) else decide (kd a < kd b)
def Dir (a : Int × Int) : Prop := a.1 ≠ 0 ∨ a.2 ≠ 0
def qtr (a : Int × Int) : Int × Int := (-a.2, a.1)
theorem crs_swap (a b : Int × Int) : crs b a = -crs a b := by
  unfold crs
  grind
theorem bef_asym {a b : Int × Int} (h : bef a b = true) : bef b a = false := by
  unfold bef at *
  by_cases e : kd a = kd b
  · rw [if_pos e] at h
    rw [if_pos e.symm]
    have h := of_decide_eq_true h
    have := crs_swap a b
    exact decide_eq_false (by omega)
  · rw [if_neg e] at h
    rw [if_neg (fun z => e z.symm)]
    have h := of_decide_eq_true h
    exact decide_eq_false (by omega)
theorem bef_irrefl (a : Int × Int) : bef a a = false := by
  unfold bef
  rw [if_pos rfl]
  have := crs_swap a a
  exact decide_eq_false (by omega)
/-- the signs of one kind -/
theorem kd_pos {a b : Int × Int} (h : kd a = kd b) : (0 < a.1 ↔ 0 < b.1) ∧ (0 < a.2 ↔ 0 < b.2) ∨ (¬ Dir a ∨ ¬ Dir b) := by
  unfold kd at h
  unfold Dir
  repeat' (split at h)
  all_goals first | (left; omega) | (right; omega) | omega
theorem kd_sign {a b : Int × Int} (ha : Dir a) (hb : Dir b) (h : kd a = kd b) : (0 < a.1 ↔ 0 < b.1) ∧ (a.1 = 0 ↔ b.1 = 0) ∧ (0 < a.2 ↔ 0 < b.2) ∧ (a.2 = 0 ↔ b.2 = 0) := by
  unfold kd at h
  unfold Dir at *
  repeat' (split at h)
  all_goals omega
theorem crs_trans {a b c : Int × Int} (ha : Dir a) (hb : Dir b) (hc : Dir c) (h1 : kd a = kd b) (h2 : kd b = kd c) (h : 0 < crs a c) : 0 < crs a b ∨ 0 < crs b c := by
  obtain ⟨p1, z1, p2, z2⟩ := kd_sign ha hb h1
  obtain ⟨r1, y1, r2, y2⟩ := kd_sign hb hc h2
  by_cases n1 : 0 < crs a b
  · exact .inl n1
  by_cases n2 : 0 < crs b c
  · exact .inr n2
  exfalso
  have id1 : crs a c * b.1 = crs a b * c.1 + crs b c * a.1 := by
    unfold crs
    grind
  have id2 : crs a c * b.2 = crs a b * c.2 + crs b c * a.2 := by
    unfold crs
    grind
  have np : ∀ u v : Int, ¬ 0 < u → 0 < v → u * v ≤ 0 := fun u v hu hv => Int.mul_nonpos_of_nonpos_of_nonneg (by omega) (by omega)
  have nn : ∀ u v : Int, ¬ 0 < u → v < 0 → 0 ≤ u * v := fun u v hu hv => Int.mul_nonneg_of_nonpos_of_nonpos (by omega) (by omega)
  rcases Int.lt_trichotomy b.1 0 with hb1 | hb1 | hb1
  · have q1 := nn _ c.1 n1 (by omega)
    have q2 := nn _ a.1 n2 (by omega)
    have q3 : crs a c * b.1 < 0 := Int.mul_neg_of_pos_of_neg h hb1
    omega
  · -- on the axis all crosses are 0
    have a0 : a.1 = 0 := z1.mpr hb1
    have c0 : c.1 = 0 := y1.mp hb1
    have : crs a c = 0 := by
      unfold crs
      rw [a0, c0]
      omega
    omega
  · have q1 := np _ c.1 n1 (by omega)
    have q2 := np _ a.1 n2 (by omega)
    have q3 : 0 < crs a c * b.1 := Int.mul_pos h hb1
    omega
theorem bef_nt {a b c : Int × Int} (ha : Dir a) (hb : Dir b) (hc : Dir c) (h : bef a c = true) : bef a b = true ∨ bef b c = true := by
  unfold bef at *
  by_cases e1 : kd a = kd b
  · by_cases e2 : kd b = kd c
    · rw [if_pos (e1.trans e2)] at h
      rw [if_pos e1, if_pos e2]
      rcases crs_trans ha hb hc e1 e2 (of_decide_eq_true h) with r | r
      · exact .inl (decide_eq_true r)
      · exact .inr (decide_eq_true r)
    · rw [if_neg (by omega)] at h
      rw [if_neg e2]
      have h := of_decide_eq_true h
      exact .inr (decide_eq_true (by omega))
  · by_cases e2 : kd b = kd c
    · rw [if_neg (by omega)] at h
      rw [if_neg e1]
      have h := of_decide_eq_true h
      exact .inl (decide_eq_true (by omega))
    · rw [if_neg e1, if_neg e2]
      by_cases e3 : kd a = kd c
      · have : kd a < kd b ∨ kd b < kd c := by omega
        rcases this with r | r
        · exact .inl (decide_eq_true r)
        · exact .inr (decide_eq_true r)
      · rw [if_neg e3] at h
        have h := of_decide_eq_true h
        have : kd a < kd b ∨ kd b < kd c := by omega
        rcases this with r | r
        · exact .inl (decide_eq_true r)
        · exact .inr (decide_eq_true r)
/-- two that are met at once are alike -/
theorem bef_alike {a b : Int × Int} (ha : Dir a) (hb : Dir b) (h1 : bef a b = false) (h2 : bef b a = false) : crs a b = 0 ∧ 0 < dot a b := by
  unfold bef at *
  by_cases e : kd a = kd b
  · rw [if_pos e] at h1
    rw [if_pos e.symm] at h2
    have h1 := of_decide_eq_false h1
    have h2 := of_decide_eq_false h2
    have := crs_swap a b
    refine ⟨by omega, ?_⟩
    obtain ⟨p1, z1, p2, z2⟩ := kd_sign ha hb e
    unfold dot
    have key : ∀ u v : Int, (0 < u ↔ 0 < v) → (u = 0 ↔ v = 0) → 0 ≤ u * v ∧ (u ≠ 0 → 0 < u * v) := by
      intro u v p z
      rcases Int.lt_trichotomy u 0 with hu | hu | hu
      · have hv : v < 0 := by omega
        have := Int.mul_pos_of_neg_of_neg hu hv
        exact ⟨by omega, fun _ => this⟩
      · rw [hu]
        simp
      · have hv : 0 < v := p.mp hu
        have := Int.mul_pos hu hv
        exact ⟨by omega, fun _ => this⟩
    have k1 := key a.1 b.1 p1 z1
    have k2 := key a.2 b.2 p2 z2
    rcases ha with ha | ha
    · have := k1.2 ha
      omega
    · have := k2.2 ha
      omega
  · rw [if_neg e] at h1
    rw [if_neg (fun z => e z.symm)] at h2
    have h1 := of_decide_eq_false h1
    have h2 := of_decide_eq_false h2
    omega
/-! ### the sort -/
section
variable {α : Type} (f : α → Int × Int)
def insB (e : α) (l : List α) : List α := l.takeWhile (fun x => !bef (f e) (f x)) ++ e :: l.dropWhile (fun x => !bef (f e) (f x))
def sortB (l : List α) : List α := l.foldl (fun acc e => insB f e acc) []
def Srt (l : List α) : Prop := l.Pairwise fun a b => bef (f b) (f a) = false
def Dirs (l : List α) : Prop := ∀ a ∈ l, Dir (f a)
variable {f}
theorem insB_perm (e : α) (l : List α) : (insB f e l).Perm (e :: l) := by
  unfold insB
  have h : (l.takeWhile (fun x => !bef (f e) (f x)) ++ l.dropWhile (fun x => !bef (f e) (f x))) = l := List.takeWhile_append_dropWhile
  refine List.perm_middle.trans ?_
  rw [h]
theorem foldl_ins_perm (l : List α) : ∀ acc : List α, (l.foldl (fun acc e => insB f e acc) acc).Perm (acc ++ l) := by
  induction l with
  | nil =>
    intro acc
    rw [List.append_nil]
    exact List.Perm.refl _
  | cons e l ih =>
    intro acc
    refine (ih (insB f e acc)).trans ?_
    have h := (insB_perm (f := f) e acc).append_right l
    refine h.trans ?_
    exact List.perm_middle.symm
theorem sortB_perm (l : List α) : (sortB f l).Perm l := foldl_ins_perm l []
theorem mem_takeWhile_p {p : α → Bool} {l : List α} {x : α} (h : x ∈ l.takeWhile p) : p x = true := by
  induction l with
  | nil => simp at h
  | cons a l ih =>
    rw [List.takeWhile_cons] at h
    by_cases c : p a = true
    · rw [if_pos c] at h
      rcases List.mem_cons.mp h with h | h
      · rw [h]
        exact c
      · exact ih h
    · rw [if_neg c] at h
      simp at h
/-- all from the first that e comes before on -/
theorem drop_bef {e : α} {l : List α} (hs : Srt f l) (hd : Dirs f l) (he : Dir (f e)) : ∀ x ∈ l.dropWhile (fun x => !bef (f e) (f x)), bef (f e) (f x) = true := by
  induction l with
  | nil =>
    intro x hx
    simp at hx
  | cons a l ih =>
    intro x hx
    have hs' := List.pairwise_cons.mp hs
    rw [List.dropWhile_cons] at hx
    by_cases c : (!bef (f e) (f a)) = true
    · rw [if_pos c] at hx
      exact ih hs'.2 (fun b hb => hd b (List.mem_cons_of_mem _ hb)) x hx
    · rw [if_neg c] at hx
      have c' : bef (f e) (f a) = true := by
        cases h : bef (f e) (f a) with
        | true => rfl
        | false => rw [h] at c; exact absurd rfl c
      rcases List.mem_cons.mp hx with hx | hx
      · rw [hx]
        exact c'
      · rcases bef_nt (b := f x) he (hd x (List.mem_cons_of_mem _ hx)) (hd a List.mem_cons_self) c' with r | r
        · exact r
        · rw [hs'.1 x hx] at r
          cases r
theorem insB_srt {e : α} {l : List α} (hs : Srt f l) (hd : Dirs f l) (he : Dir (f e)) : Srt f (insB f e l) := by
  have hdrop := drop_bef hs hd he
  have hl : (l.takeWhile (fun x => !bef (f e) (f x)) ++ l.dropWhile (fun x => !bef (f e) (f x))) = l := List.takeWhile_append_dropWhile
  have hs2 : Srt f (l.takeWhile (fun x => !bef (f e) (f x)) ++ l.dropWhile (fun x => !bef (f e) (f x))) := by
    rw [hl]
    exact hs
  have h3 := List.pairwise_append.mp hs2
  unfold insB Srt
  refine List.pairwise_append.mpr ⟨h3.1, List.pairwise_cons.mpr ⟨fun x hx => bef_asym (hdrop x hx), h3.2.1⟩, fun x hx y hy => ?_⟩
  rcases List.mem_cons.mp hy with hy | hy
  · rw [hy]
    have := mem_takeWhile_p hx
    simpa using this
  · exact h3.2.2 x hx y hy
theorem insB_dirs {e : α} {l : List α} (hd : Dirs f l) (he : Dir (f e)) : Dirs f (insB f e l) := fun a ha => by
  rcases List.mem_cons.mp ((insB_perm e l).mem_iff.mp ha) with h | h
  · rw [h]
    exact he
  · exact hd a h
theorem foldl_srt (l : List α) : ∀ acc : List α, Srt f acc → Dirs f acc → Dirs f l → Srt f (l.foldl (fun acc e => insB f e acc) acc) := by
  induction l with
  | nil =>
    intro acc h _ _
    exact h
  | cons e l ih =>
    intro acc h1 h2 h3
    have he := h3 e List.mem_cons_self
    exact ih _ (insB_srt h1 h2 he) (insB_dirs h2 he) fun a ha => h3 a (List.mem_cons_of_mem _ ha)
theorem sortB_srt {l : List α} (hd : Dirs f l) : Srt f (sortB f l) := foldl_srt l [] List.Pairwise.nil (fun a ha => by simp at ha) hd
theorem sortB_dirs {l : List α} (hd : Dirs f l) : Dirs f (sortB f l) := fun a ha => hd a ((sortB_perm l).mem_iff.mp ha)
theorem sortB_length (l : List α) : (sortB f l).length = l.length := (sortB_perm l).length_eq
theorem takeWhile_all {p : α → Bool} {l : List α} (h : ∀ x ∈ l, p x = true) : l.takeWhile p = l ∧ l.dropWhile p = [] := by
  induction l with
  | nil => exact ⟨rfl, rfl⟩
  | cons a l ih =>
    have h1 := h a List.mem_cons_self
    have h2 := ih fun x hx => h x (List.mem_cons_of_mem _ hx)
    rw [List.takeWhile_cons, if_pos h1, List.dropWhile_cons, if_pos h1, h2.1, h2.2]
    exact ⟨rfl, rfl⟩
theorem insB_end {e : α} {l : List α} (h : ∀ x ∈ l, bef (f e) (f x) = false) : insB f e l = l ++ [e] := by
  unfold insB
  have := takeWhile_all (p := fun x => !bef (f e) (f x)) (l := l) fun x hx => by
    show (!bef (f e) (f x)) = true
    rw [h x hx]
    rfl
  rw [this.1, this.2]
theorem insB_front {e : α} {l : List α} (h : ∀ x ∈ l, bef (f e) (f x) = true) : insB f e l = e :: l := by
  unfold insB
  cases l with
  | nil => rfl
  | cons a l =>
    have ha := h a List.mem_cons_self
    rw [List.takeWhile_cons, List.dropWhile_cons, ha]
    rfl
theorem foldl_fix (l : List α) : ∀ acc : List α, Srt f (acc ++ l) → l.foldl (fun acc e => insB f e acc) acc = acc ++ l := by
  induction l with
  | nil =>
    intro acc _
    rw [List.append_nil]
    rfl
  | cons e l ih =>
    intro acc h
    have h3 := List.pairwise_append.mp h
    show l.foldl (fun acc e => insB f e acc) (insB f e acc) = acc ++ e :: l
    rw [insB_end (fun x hx => h3.2.2 x hx e List.mem_cons_self)]
    have e2 : acc ++ e :: l = (acc ++ [e]) ++ l := by simp
    rw [e2] at h ⊢
    exact ih _ h
theorem sortB_fix {l : List α} (h : Srt f l) : sortB f l = l := foldl_fix l [] h
/-- strictly in order -/
def Str' (f : α → Int × Int) (l : List α) : Prop := l.Pairwise fun a b => bef (f a) (f b) = true
theorem sortB_rev {l : List α} (h : Str' f l) : sortB f l.reverse = l := by
  induction l with
  | nil => rfl
  | cons a l ih =>
    have h3 := List.pairwise_cons.mp h
    unfold sortB
    rw [List.reverse_cons, List.foldl_append]
    show insB f a (sortB f l.reverse) = a :: l
    rw [ih h3.2]
    exact insB_front h3.1
theorem srt_of_str {l : List α} (h : Str' f l) : Srt f l := List.Pairwise.imp (fun h => bef_asym h) h
theorem str_unique : ∀ {l m : List α}, Str' f l → Str' f m → l.Perm m → l = m
  | [], m, _, _, p => by
    have := p.length_eq
    cases m with
    | nil => rfl
    | cons b m => simp at this
  | a :: l, [], _, _, p => by
    have := p.length_eq
    simp at this
  | a :: l, b :: m, hl, hm, p => by
    have hl3 := List.pairwise_cons.mp hl
    have hm3 := List.pairwise_cons.mp hm
    have eab : a = b := by
      have h1 : a ∈ b :: m := p.mem_iff.mp List.mem_cons_self
      have h2 : b ∈ a :: l := p.mem_iff.mpr List.mem_cons_self
      rcases List.mem_cons.mp h1 with h1 | h1
      · exact h1
      · rcases List.mem_cons.mp h2 with h2 | h2
        · exact h2.symm
        · have q1 := hm3.1 a h1
          have q2 := hl3.1 b h2
          rw [bef_asym q1] at q2
          cases q2
    subst eab
    rw [str_unique hl3.2 hm3.2 (List.Perm.cons_inv p)]
/-- the place: all ahead of it are not behind e, all from it on are -/
theorem insB_place {e : α} : ∀ {l : List α} {i : Nat}, (∀ j (h : j < l.length), j < i → bef (f e) (f l[j]) = false) → (∀ j (h : j < l.length), i ≤ j → bef (f e) (f l[j]) = true) → l.take i ++ [e] ++ l.drop i = insB f e l
  | [], i, _, _ => by simp [insB]
  | a :: l, 0, _, h2 => by
    have : ∀ x ∈ a :: l, bef (f e) (f x) = true := fun x hx => by
      obtain ⟨j, hj, rfl⟩ := List.getElem_of_mem hx
      exact h2 j hj (Nat.zero_le _)
    rw [insB_front this]
    rfl
  | a :: l, i + 1, h1, h2 => by
    have ha : bef (f e) (f a) = false := h1 0 (Nat.succ_pos _) (Nat.succ_pos _)
    have ih := insB_place (e := e) (l := l) (i := i) (fun j h hj => h1 (j + 1) (Nat.succ_lt_succ h) (Nat.succ_lt_succ hj)) (fun j h hj => h2 (j + 1) (Nat.succ_lt_succ h) (Nat.succ_le_succ hj))
    have e1 : insB f e (a :: l) = a :: insB f e l := by
      unfold insB
      rw [List.takeWhile_cons, List.dropWhile_cons, ha]
      rfl
    rw [e1, ← ih]
    simp
end
end Fo
set_option linter.all false
namespace Fo
theorem kd_lt (a : Int × Int) : kd a < 8 := by
  unfold kd
  repeat' split
  all_goals omega
theorem kd_qtr {a : Int × Int} (h : Dir a) : kd (qtr a) = (kd a + 2) % 8 := by
  obtain ⟨x, y⟩ := a
  unfold Dir at h
  unfold kd qtr
  simp only at *
  repeat' split
  all_goals omega
theorem kd_neg {a : Int × Int} (h : Dir a) : kd (-a.1, -a.2) = (kd a + 4) % 8 := by
  obtain ⟨x, y⟩ := a
  unfold Dir at h
  unfold kd
  simp only at *
  repeat' split
  all_goals omega
theorem mul_sign {x m : Int} (hm : 0 < m) : (0 < x * m ↔ 0 < x) ∧ (x * m = 0 ↔ x = 0) := by
  rcases Int.lt_trichotomy x 0 with h | h | h
  · have := Int.mul_neg_of_neg_of_pos h hm
    omega
  · rw [h]
    simp
  · have := Int.mul_pos h hm
    omega
theorem kd_mul (a : Int × Int) {m : Int} (hm : 0 < m) : kd (a.1 * m, a.2 * m) = kd a := by
  obtain ⟨x, y⟩ := a
  have h1 := mul_sign (x := x) hm
  have h2 := mul_sign (x := y) hm
  unfold kd
  simp only at *
  simp only [h1.1, h2.1, h1.2, h2.2]
theorem crs_qtr (a b : Int × Int) : crs (qtr a) (qtr b) = crs a b := by
  unfold crs qtr
  grind
theorem sq_pos {x : Int} (h : x ≠ 0) : 0 < x * x := by
  rcases Int.lt_trichotomy x 0 with h1 | h1 | h1
  · exact Int.mul_pos_of_neg_of_neg h1 h1
  · exact absurd h1 h
  · exact Int.mul_pos h1 h1
theorem sq_nn (x : Int) : 0 ≤ x * x := by
  by_cases h : x = 0
  · rw [h]
    decide
  · exact Int.le_of_lt (sq_pos h)
theorem crs_self_qtr {a : Int × Int} (h : Dir a) : 0 < crs a (qtr a) := by
  have e : crs a (qtr a) = a.1 * a.1 + a.2 * a.2 := by
    unfold crs qtr
    grind
  rw [e]
  have h1 := sq_nn a.1
  have h2 := sq_nn a.2
  rcases h with h | h
  · have := sq_pos h
    omega
  · have := sq_pos h
    omega
theorem dir_qtr {a : Int × Int} (h : Dir a) : Dir (qtr a) := by
  unfold Dir qtr at *
  simp only
  omega
theorem dir_mul {a : Int × Int} {m : Int} (h : Dir a) (hm : 0 < m) : Dir (a.1 * m, a.2 * m) := by
  have h1 := (mul_sign (x := a.1) hm).2
  have h2 := (mul_sign (x := a.2) hm).2
  unfold Dir at *
  simp only
  omega
/-- turned, both below kind 6 or both from 6 on -/
theorem bef_qtr {a b : Int × Int} (ha : Dir a) (hb : Dir b) (h : kd a < 6 ↔ kd b < 6) : bef (qtr a) (qtr b) = bef a b := by
  have la := kd_lt a
  have lb := kd_lt b
  unfold bef
  rw [kd_qtr ha, kd_qtr hb, crs_qtr]
  by_cases e : kd a = kd b
  · rw [if_pos e, if_pos (by omega)]
  · rw [if_neg e, if_neg (by omega)]
    by_cases c : kd a < kd b
    · rw [decide_eq_true c, decide_eq_true (by omega)]
    · rw [decide_eq_false c, decide_eq_false (by omega)]
theorem bef_turned {a b : Int × Int} (ha : Dir a) (hb : Dir b) (h1 : kd a < 6) (h2 : ¬ kd b < 6) : bef (qtr b) (qtr a) = true := by
  have la := kd_lt a
  have lb := kd_lt b
  unfold bef
  rw [kd_qtr ha, kd_qtr hb, if_neg (by omega)]
  exact decide_eq_true (by omega)
section
variable {α : Type} {f : α → Int × Int}
/-- no two alike -/
def Apart (f : α → Int × Int) (l : List α) : Prop := l.Pairwise fun a b => ¬ (crs (f a) (f b) = 0 ∧ 0 < dot (f a) (f b))
theorem alike_symm {a b : Int × Int} (h : ¬ (crs a b = 0 ∧ 0 < dot a b)) : ¬ (crs b a = 0 ∧ 0 < dot b a) := by
  intro z
  apply h
  have e1 := crs_swap a b
  have e2 : dot b a = dot a b := by
    unfold dot
    grind
  omega
theorem apart_perm {l m : List α} (h : Apart f l) (p : l.Perm m) : Apart f m := (p.pairwise_iff fun h => alike_symm h).mp h
theorem str_of {l : List α} (hs : Srt f l) (hd : Dirs f l) (ha : Apart f l) : Str' f l := by
  induction l with
  | nil => exact List.Pairwise.nil
  | cons a l ih =>
    have s := List.pairwise_cons.mp hs
    have t := List.pairwise_cons.mp ha
    refine List.pairwise_cons.mpr ⟨fun b hb => ?_, ih s.2 (fun x hx => hd x (List.mem_cons_of_mem _ hx)) t.2⟩
    cases h : bef (f a) (f b) with
    | true => rfl
    | false => exact absurd (bef_alike (hd a List.mem_cons_self) (hd b (List.mem_cons_of_mem _ hb)) h (s.1 b hb)) (t.1 b hb)
theorem sortB_str {l : List α} (hd : Dirs f l) (ha : Apart f l) : Str' f (sortB f l) := str_of (sortB_srt hd) (sortB_dirs hd) (apart_perm ha (sortB_perm l).symm)
end
/-- below kind 6 stands first -/
theorem split6 : ∀ {l : List (Int × Int)}, Srt id l → ∃ n, n ≤ l.length ∧ (∀ x ∈ l.take n, kd x < 6) ∧ ∀ x ∈ l.drop n, ¬ kd x < 6
  | [], _ => ⟨0, Nat.le_refl _, fun x hx => by simp at hx, fun x hx => by simp at hx⟩
  | a :: l, h => by
    have s := List.pairwise_cons.mp h
    by_cases c : kd a < 6
    · obtain ⟨n, hn, h1, h2⟩ := split6 s.2
      refine ⟨n + 1, Nat.succ_le_succ hn, fun x hx => ?_, h2⟩
      rw [List.take_succ_cons] at hx
      rcases List.mem_cons.mp hx with hx | hx
      · rw [hx]
        exact c
      · exact h1 x hx
    · refine ⟨0, Nat.zero_le _, fun x hx => by simp at hx, fun x hx => ?_⟩
      rw [List.drop_zero] at hx
      rcases List.mem_cons.mp hx with hx | hx
      · rw [hx]
        exact c
      · have h3 := s.1 x hx
        unfold bef at h3
        simp only [id] at h3
        by_cases e : kd x = kd a
        · omega
        · rw [if_neg e] at h3
          have h3 := of_decide_eq_false h3
          omega
/-- the turned directions in order are those in order, turned, begun elsewhere -/
theorem turned_round {l : List (Int × Int)} (hd : Dirs id l) (ha : Apart id l) : ∃ n, n ≤ l.length ∧
    sortB id (l.map qtr) = ((sortB id l).map qtr).drop n ++ ((sortB id l).map qtr).take n := by
  have hs := sortB_srt hd
  have hst := sortB_str hd ha
  have hds := sortB_dirs hd
  obtain ⟨n, hn, h1, h2⟩ := split6 hs
  rw [sortB_length] at hn
  refine ⟨n, hn, ?_⟩
  have hsd : Dirs id (l.map qtr) := fun x hx => by
    obtain ⟨y, hy, rfl⟩ := List.mem_map.mp hx
    exact dir_qtr (hd y hy)
  have hap : Apart id (l.map qtr) := by
    refine List.pairwise_map.mpr (List.Pairwise.imp ?_ ha)
    intro a b h z
    apply h
    have e2 : dot (qtr a) (qtr b) = dot a b := by
      unfold dot qtr
      grind
    have e1 := crs_qtr a b
    simp only [id] at *
    omega
  refine str_unique (f := id) (sortB_str hsd hap) ?_ ?_
  · rw [← List.map_drop, ← List.map_take]
    have hdl : ∀ x ∈ (sortB id l).drop n, Dir x := fun x hx => hds x (List.mem_of_mem_drop hx)
    have htl : ∀ x ∈ (sortB id l).take n, Dir x := fun x hx => hds x (List.mem_of_mem_take hx)
    refine List.pairwise_append.mpr ⟨?_, ?_, ?_⟩
    · refine List.pairwise_map.mpr ?_
      have p : ((sortB id l).drop n).Pairwise fun a b => bef a b = true := List.Pairwise.drop hst
      refine List.Pairwise.imp_of_mem ?_ p
      intro a b ma mb h
      have k1 := h2 a ma
      have k2 := h2 b mb
      simp only [id]
      rw [bef_qtr (hdl a ma) (hdl b mb) (by omega)]
      exact h
    · refine List.pairwise_map.mpr ?_
      have p : ((sortB id l).take n).Pairwise fun a b => bef a b = true := List.Pairwise.take hst
      refine List.Pairwise.imp_of_mem ?_ p
      intro a b ma mb h
      have k1 := h1 a ma
      have k2 := h1 b mb
      simp only [id]
      rw [bef_qtr (htl a ma) (htl b mb) (by omega)]
      exact h
    · intro x hx y hy
      obtain ⟨u, hu, rfl⟩ := List.mem_map.mp hx
      obtain ⟨v, hv, rfl⟩ := List.mem_map.mp hy
      exact bef_turned (htl v hv) (hdl u hu) (h1 v hv) (h2 u hu)
  · refine (sortB_perm _).trans ?_
    have p1 : (((sortB id l).map qtr).drop n ++ ((sortB id l).map qtr).take n).Perm (((sortB id l).map qtr).take n ++ ((sortB id l).map qtr).drop n) := List.perm_append_comm
    rw [List.take_append_drop] at p1
    exact (p1.trans ((sortB_perm l).map qtr)).symm
/-! ### the shortest -/
def gcI (a : Int × Int) : Int := (Int.gcd a.1 a.2 : Int)
def low (a : Int × Int) : Int × Int := (a.1 / gcI a, a.2 / gcI a)
theorem gcI_pos {a : Int × Int} (h : Dir a) : 0 < gcI a := by
  unfold gcI
  have : Int.gcd a.1 a.2 ≠ 0 := by
    intro z
    have := Int.gcd_eq_zero_iff.mp z
    rcases h with h | h
    · exact h this.1
    · exact h this.2
  omega
theorem gcI_dvd1 (a : Int × Int) : gcI a ∣ a.1 := Int.gcd_dvd_left ..
theorem gcI_dvd2 (a : Int × Int) : gcI a ∣ a.2 := Int.gcd_dvd_right ..
theorem low_mul {a : Int × Int} (h : Dir a) {m : Int} (hm : 0 < m) : low (a.1 * m, a.2 * m) = low a := by
  have e : gcI (a.1 * m, a.2 * m) = gcI a * m := by
    unfold gcI
    simp only
    rw [Int.gcd_mul_right]
    rw [Int.natCast_mul]
    congr 1
    omega
  unfold low
  rw [e]
  simp only
  rw [Int.mul_ediv_mul_of_pos_left _ _ hm, Int.mul_ediv_mul_of_pos_left _ _ hm]
theorem low_qtr {a : Int × Int} : low (qtr a) = qtr (low a) := by
  have e : gcI (qtr a) = gcI a := by
    unfold gcI qtr
    simp only
    rw [Int.neg_gcd, Int.gcd_comm]
  unfold low
  rw [e]
  unfold qtr
  simp only
  rw [Int.neg_ediv_of_dvd (gcI_dvd2 a)]
end Fo
set_option linter.all false
namespace Fo
theorem mmmc (a b c d : Int) : a * b * (c * d) = a * c * (b * d) := by
  rw [Int.mul_assoc, Int.mul_left_comm b c d, ← Int.mul_assoc]
theorem low_mul_gc {a : Int × Int} : (low a).1 * gcI a = a.1 ∧ (low a).2 * gcI a = a.2 := ⟨Int.ediv_mul_cancel (gcI_dvd1 a), Int.ediv_mul_cancel (gcI_dvd2 a)⟩
theorem low_dir {a : Int × Int} (h : Dir a) : Dir (low a) := by
  obtain ⟨h1, h2⟩ := low_mul_gc (a := a)
  rcases h with h | h
  · refine .inl fun z => h ?_
    rw [← h1, z, Int.zero_mul]
  · refine .inr fun z => h ?_
    rw [← h2, z, Int.zero_mul]
theorem low_low {a : Int × Int} (h : Dir a) : low (low a) = low a := by
  have e := low_mul (low_dir h) (gcI_pos h)
  obtain ⟨h1, h2⟩ := low_mul_gc (a := a)
  rw [h1, h2] at e
  exact e.symm
theorem low_prime {a : Int × Int} (h : Dir a) {m : Int} (hm : 2 ≤ m) : ¬ ((low a).1 % m = 0 ∧ (low a).2 % m = 0) := by
  rintro ⟨h1, h2⟩
  have g : Int.gcd (low a).1 (low a).2 = 1 := by
    have p := gcI_pos h
    unfold gcI at p
    exact Int.gcd_ediv_gcd_ediv_gcd (by omega)
  have d := Int.dvd_coe_gcd (Int.dvd_of_emod_eq_zero h1) (Int.dvd_of_emod_eq_zero h2)
  rw [g] at d
  have := Int.le_of_dvd (by decide) d
  omega
def sw (a b : Int × Int) : Bool := decide (a.1 * b.2 = a.2 * b.1) && decide (0 < a.1 * b.1 + a.2 * b.2)
theorem nn_pos {a : Int × Int} (h : Dir a) : 0 < a.1 * a.1 + a.2 * a.2 := by
  have h1 := sq_nn a.1
  have h2 := sq_nn a.2
  rcases h with h | h
  · have := sq_pos h
    omega
  · have := sq_pos h
    omega
theorem sw_low {a : Int × Int} (h : Dir a) : sw (low a) a = true := by
  obtain ⟨h1, h2⟩ := low_mul_gc (a := a)
  have p := gcI_pos h
  have n := nn_pos (low_dir h)
  generalize low a = b at *
  generalize gcI a = g at *
  obtain ⟨x, y⟩ := b
  obtain ⟨u, v⟩ := a
  unfold sw
  simp only at *
  subst h1
  subst h2
  have e1 : x * (y * g) = y * (x * g) := by
    rw [← Int.mul_assoc, ← Int.mul_assoc, Int.mul_comm x y]
  have e2 : x * (x * g) + y * (y * g) = (x * x + y * y) * g := by
    rw [Int.add_mul, Int.mul_assoc, Int.mul_assoc]
  rw [decide_eq_true e1, e2, decide_eq_true (Int.mul_pos n p)]
  rfl
/-- alike ones are multiples -/
theorem sw_mul {a c : Int × Int} (h : sw a c = true) : ∃ D : Int, 0 < D ∧ a.1 * (c.1 * c.1 + c.2 * c.2) = c.1 * D ∧ a.2 * (c.1 * c.1 + c.2 * c.2) = c.2 * D := by
  unfold sw at h
  rw [Bool.and_eq_true] at h
  have h1 := of_decide_eq_true h.1
  have h2 := of_decide_eq_true h.2
  obtain ⟨x, y⟩ := a
  obtain ⟨u, v⟩ := c
  simp only at *
  refine ⟨x * u + y * v, h2, ?_, ?_⟩
  · have e : x * (v * v) = u * (y * v) := by
      rw [← Int.mul_assoc, h1, Int.mul_assoc, Int.mul_left_comm]
    rw [Int.mul_add, Int.mul_add, e, Int.mul_left_comm x u u]
  · have e : y * (u * u) = v * (x * u) := by
      rw [← Int.mul_assoc, ← h1, Int.mul_assoc, Int.mul_left_comm]
    rw [Int.mul_add, Int.mul_add, e, Int.mul_left_comm y v v]
theorem sw_bef {a b c : Int × Int} (hc : Dir c) (h1 : sw a c = true) (h2 : sw b c = true) : bef a b = false := by
  obtain ⟨D1, p1, e1, e2⟩ := sw_mul h1
  obtain ⟨D2, p2, e3, e4⟩ := sw_mul h2
  have n := nn_pos hc
  generalize c.1 * c.1 + c.2 * c.2 = N at *
  have k1 : kd a = kd c := by
    have r1 := kd_mul a n
    have r2 := kd_mul c p1
    rw [e1, e2] at r1
    rw [← r1, r2]
  have k2 : kd b = kd c := by
    have r1 := kd_mul b n
    have r2 := kd_mul c p2
    rw [e3, e4] at r1
    rw [← r1, r2]
  have z : crs a b = 0 := by
    have q : crs a b * (N * N) = 0 := by
      unfold crs
      have q1 : (a.1 * b.2 - a.2 * b.1) * (N * N) = (a.1 * N) * (b.2 * N) - (a.2 * N) * (b.1 * N) := by
        rw [Int.sub_mul]
        congr 1
        · rw [mmmc]
        · rw [mmmc]
      rw [q1, e1, e2, e3, e4]
      have q2 : c.1 * D1 * (c.2 * D2) = c.2 * D1 * (c.1 * D2) := by
        rw [mmmc, mmmc c.2, Int.mul_comm c.1 c.2]
      rw [q2]
      exact Int.sub_self _
    have nn : N * N ≠ 0 := Int.ne_of_gt (Int.mul_pos n n)
    rcases Int.mul_eq_zero.mp q with q | q
    · exact q
    · exact absurd q nn
  unfold bef
  rw [if_pos (k1.trans k2.symm), z]
  rfl
theorem ins_filter {e c : Int × Int} {l : List (Int × Int)} (hs : Srt id l) (hd : Dirs id l) (he : Dir e) (hc : Dir c) : (insB id e l).filter (fun x => sw x c) = l.filter (fun x => sw x c) ++ [e].filter (fun x => sw x c) := by
  have hl : (l.takeWhile (fun x => !bef (id e) (id x)) ++ l.dropWhile (fun x => !bef (id e) (id x))) = l := List.takeWhile_append_dropWhile
  have hdrop := drop_bef (f := id) hs hd he
  unfold insB
  conv => rhs; rw [← hl]
  generalize l.takeWhile (fun x => !bef (id e) (id x)) = A at *
  generalize l.dropWhile (fun x => !bef (id e) (id x)) = B at *
  rw [List.filter_append, List.filter_append, List.append_assoc]
  congr 1
  rw [show e :: B = [e] ++ B from rfl, List.filter_append]
  by_cases q : sw e c = true
  · have hB : B.filter (fun x => sw x c) = [] := by
      rw [List.filter_eq_nil_iff]
      intro x hx hq
      have r := hdrop x hx
      have r2 := sw_bef hc q hq
      simp only [id] at r
      rw [r2] at r
      cases r
    rw [hB, List.nil_append, List.append_nil]
  · have he' : [e].filter (fun x => sw x c) = [] := by
      rw [List.filter_eq_nil_iff]
      intro x hx
      rw [List.mem_singleton] at hx
      rw [hx]
      exact q
    rw [he', List.nil_append, List.append_nil]
theorem foldl_filter {c : Int × Int} (hc : Dir c) (l : List (Int × Int)) : ∀ acc : List (Int × Int), Srt id acc → Dirs id acc → Dirs id l → (l.foldl (fun acc e => insB id e acc) acc).filter (fun x => sw x c) = acc.filter (fun x => sw x c) ++ l.filter (fun x => sw x c) := by
  induction l with
  | nil =>
    intro acc _ _ _
    simp
  | cons e l ih =>
    intro acc hs hd hl
    have he : Dir e := hl e List.mem_cons_self
    rw [List.foldl_cons, ih _ (insB_srt hs hd he) (insB_dirs hd he) (fun x hx => hl x (List.mem_cons_of_mem _ hx)), ins_filter hs hd he hc, List.append_assoc, ← List.filter_append]
    rfl
theorem sort_filter {c : Int × Int} (hc : Dir c) {l : List (Int × Int)} (hl : Dirs id l) : (sortB id l).filter (fun x => sw x c) = l.filter (fun x => sw x c) := by
  have := foldl_filter hc l [] List.Pairwise.nil (fun a ha => by simp at ha) hl
  unfold sortB
  simpa using this
theorem srt_next {l : List (Int × Int)} (h : Srt id l) {i : Nat} (h1 : i + 1 < l.length) : bef l[i + 1] l[i] = false := List.pairwise_iff_getElem.mp h i (i + 1) (by omega) h1 (by omega)
end Fo

set_option Elab.async false
set_option linter.all false
set_option maxRecDepth 100000
set_option maxHeartbeats 2000000
namespace Fo
open PySem L2
/-! ### the text by places -/
def top (i : Nat) : Stmt := PySem.Challenge.pw_filledonce_k22_whole_small_shifts.main.body.getD i (.Pass ⟨0, 0, 0, 0⟩)
abbrev sWhole : Stmt := top 9
abbrev sInit : Stmt := inClass (top 12) 0
abbrev sAdd : Stmt := inClass (top 12) 3
abbrev sSub : Stmt := inClass (top 12) 5
abbrev sCross : Stmt := inClass (top 12) 9
abbrev sMul : Stmt := inClass (top 12) 7
abbrev sEq : Stmt := inClass (top 12) 2
abbrev sPairM : Stmt := inClass (top 12) 10
abbrev sIsPoint : Stmt := top 13
abbrev sAsPoint : Stmt := top 14
abbrev sOperand : Stmt := top 15
abbrev sSide : Stmt := top 16
abbrev sQuarter : Stmt := top 17
/-! ### data -/
theorem xy_ : ¬ (("x" : Str) = "y") := by decide +kernel
theorem yx_ : ¬ (("y" : Str) = "x") := by decide +kernel
def ptF (x y : Int) : List (Str × V) := putF "y" (.int y) (putF "x" (.int x) [])
theorem ptF_x (x y : Int) : (ptF x y).lookup ("x" : Str) = some (.int x) := by
  unfold ptF
  rw [lookup_putF, if_neg xy_, lookup_putF, if_pos rfl]
theorem ptF_y (x y : Int) : (ptF x y).lookup ("y" : Str) = some (.int y) := by
  unfold ptF
  rw [lookup_putF, if_pos rfl]
theorem ptF_no (x y : Int) {m : Str} (h1 : ¬ m = "y") (h2 : ¬ m = "x") : (ptF x y).lookup m = none := by
  unfold ptF
  rw [lookup_putF, if_neg h1, lookup_putF, if_neg h2]
  all_goals rfl
/-- an instance of Point with these numbers -/
def IsP (C : Addr) (v : V) (x y : Int) (H : Hp) : Prop := ∃ a dx, v = .ref a ∧ H a = some (.ins C dx (ptF x y))
/-- it, or a pair that stands for it -/
def IsPt (C : Addr) (v : V) (x y : Int) (H : Hp) : Prop := ∃ a, v = .ref a ∧ ((∃ dx, H a = some (.ins C dx (ptF x y))) ∨ H a = some (.tup [.int x, .int y]))
theorem IsP.ex {C : Addr} {v : V} {x y : Int} {H H' : Hp} (e : Same H H') (h : IsP C v x y H) : IsP C v x y H' := by
  obtain ⟨a, dx, rfl, h⟩ := h
  exact ⟨a, dx, rfl, e _ _ h⟩
theorem IsPt.ex {C : Addr} {v : V} {x y : Int} {H H' : Hp} (e : Same H H') (h : IsPt C v x y H) : IsPt C v x y H' := by
  obtain ⟨a, rfl, h⟩ := h
  rcases h with ⟨dx, h⟩ | h
  · exact ⟨a, rfl, .inl ⟨dx, e _ _ h⟩⟩
  · exact ⟨a, rfl, .inr (e _ _ h)⟩
theorem IsP.pt {C : Addr} {v : V} {x y : Int} {H : Hp} (h : IsP C v x y H) : IsPt C v x y H := by
  obtain ⟨a, dx, rfl, h⟩ := h
  exact ⟨a, rfl, .inl ⟨dx, h⟩⟩
theorem same_new {H : Hp} {p : Addr} {o : HO} (h : H p = none) : Same H (upd H p o) := fun a u e => by
  rw [upd_ne (ne_of_none e h)]
  exact e
def Sm (n : Nat) (x : Int) : Prop := x.natAbs < 2 ^ n
theorem Sm.mul {n : Nat} {x y : Int} (hx : Sm n x) (hy : Sm n y) (h0 : 0 < n) (h1 : n ≤ 1000) : CMulW x y := wide_mul hx hy h0 h0 (by omega)
theorem Sm.sub {n : Nat} {x y : Int} (hx : Sm n x) (hy : Sm n y) : Sm (n + 1) (x - y) := by
  unfold Sm at *
  rw [Nat.pow_succ]
  omega
theorem Sm.up {n m : Nat} {x : Int} (hx : Sm n x) (h : n ≤ m) : Sm m x := Nat.lt_of_lt_of_le hx (Nat.pow_le_pow_right (by decide) h)
/-! ### promises -/
def spWhole : Sp := fun vs H Q _ => ∃ i : Int, vs = [.int i] ∧ Q (.bl true) H
def spInit (C : Addr) : Sp := fun vs H Q _ => ∃ (p dx : Addr) (x y : Int), vs = [.ref p, .int x, .int y] ∧ H p = some (.ins C dx []) ∧ Q .non (upd (upd H p (.ins C dx (putF "x" (.int x) []))) p (.ins C dx (ptF x y)))
def spIsPoint (C : Addr) : Sp := fun vs H Q _ => ∃ (v : V) (x y : Int), vs = [v] ∧ IsPt C v x y H ∧ Q (.bl true) H
def spAsPoint (C : Addr) : Sp := fun vs H Q _ => ∃ (v : V) (x y : Int), vs = [v] ∧ IsPt C v x y H ∧ ∀ w H', Same H H' → IsP C w x y H' → (IsP C v x y H → w = v) → Q w H'
def spBin (C : Addr) (g : Int → Int → Int) : Sp := fun vs H Q _ => ∃ (v u : V) (x y z t : Int), vs = [v, u] ∧ IsP C v x y H ∧ IsPt C u z t H ∧ ∀ w H', Same H H' → IsP C w (g x z) (g y t) H' → Q w H'
def spCross (C : Addr) : Sp := fun vs H Q _ => ∃ (n : Nat) (v u : V) (x y z t : Int), vs = [v, u] ∧ IsP C v x y H ∧ IsPt C u z t H ∧ 0 < n ∧ n ≤ 1000 ∧ Sm n x ∧ Sm n y ∧ Sm n z ∧ Sm n t ∧ ∀ H', Same H H' → Q (.int (x * t - y * z)) H'
def sideI (ax ay bx by' px py : Int) : Int := (bx - ax) * (py - ay) - (by' - ay) * (px - ax)
def spSide (C : Addr) : Sp := fun vs H Q _ => ∃ (n : Nat) (a b p : V) (ax ay bx by' px py : Int), vs = [a, b, p] ∧ IsPt C a ax ay H ∧ IsPt C b bx by' H ∧ IsPt C p px py H ∧ n < 1000 ∧
  Sm n ax ∧ Sm n ay ∧ Sm n bx ∧ Sm n by' ∧ Sm n px ∧ Sm n py ∧ ∀ H', Same H H' → Q (.int (sideI ax ay bx by' px py)) H'
def spQuarter (C : Addr) : Sp := fun vs H Q _ => ∃ (v : V) (x y : Int), vs = [v] ∧ IsPt C v x y H ∧ ∀ w H', Same H H' → IsP C w (-y) x H' → Q w H'
/-- what the top has written of Point -/
structure Txt (K : PySem.W.Frag) (mg : Str → Option Value) (C : Addr) : Prop where
  cl : Cls K C
  nX : NoAttr K C "x"
  nY : NoAttr K C "y"
  mgC : mg "Point" = some (.ref C)
  isi : mg "isinstance" = none
  len : mg "len" = none
  int : mg "int" = none
  bool : mg "bool" = none
  tuple : mg "tuple" = none
  ha : PySem.W.findIn K (.ref C) "__class__" = some (some (.builtin "object.__class__"))
  hn : PySem.W.specialIn K (.builtin "object.__class__") "__get__" = some (some (.builtin "getset_descriptor.__get__"))
  htk : PySem.W.takesIn K (.builtin "object.__class__") = some true
  hm : PySem.W.mroIn K C (.type "object") = some true
  kTC : PySem.W.kitOne K (.type "tuple") (.ref C) = some false
  kCC : PySem.W.kitOne K (.ref C) (.ref C) = some true
section
variable {P : Program} {w : World} {K : PySem.W.Frag} {mg : Str → Option Value} {base : Heap}
theorem scWhole : FnScope ["value"] ["value"] (defScope sWhole) := ⟨rfl, rfl, rfl, by decide +kernel, rfl, by decide +kernel, by decide +kernel⟩
theorem ok_whole {f C : Addr} {fd : FuncData} (F : Fun K "is_whole" "is_whole" sWhole f fd) (T : Txt K mg C) : FnOk P w K mg base CX0 1 f fd ["value"] spWhole := by
  refine F.ok scWhole (fun vs H Q E h => ?_) (fun cdv A outer s H vs Q E hr h => ?_)
  · obtain ⟨i, rfl, _⟩ := h
    rfl
  · obtain ⟨i, rfl, k⟩ := h
    refine ⟨_, pss_one (ps_ret (pe_and (pe_callB call_isi (by rfl) T.isi (by decide +kernel) (pa_cons (pv 0) (pa_cons (pe_bltn (v := .ty "int") (by rfl) T.int (by decide +kernel) rfl) pa_nil)))
      (pe_one (pe_not (pe_callB call_isi (by rfl) T.isi (by decide +kernel) (pa_cons (pv 0) (pa_cons (pe_bltn (v := .ty "bool") (by rfl) T.bool (by decide +kernel) rfl) pa_nil))))))), ?_⟩
    refine ⟨_, rfl, _, _, _, _, true, rfl, .ty _, .base (.int i), kit_ty (by decide +kernel), true, rfl, ?_⟩
    refine iteT ?_
    exact ⟨_, rfl, _, _, _, _, false, rfl, .ty _, .base (.int i), kit_ty (by decide +kernel), false, rfl, k⟩

theorem scInit : FnScope ["self", "x", "y"] ["self", "x", "y"] (defScope sInit) := ⟨rfl, rfl, rfl, by decide +kernel, rfl, by decide +kernel, by decide +kernel⟩
theorem ok_init {f C fW : Addr} {fd fdW : FuncData} (F : Fun K "__init__" "Point.__init__" sInit f fd) (T : Txt K mg C) (FW : Fun K "is_whole" "is_whole" sWhole fW fdW) (bW : Binds K fdW ["value"] []) (mW : mg "is_whole" = some (.ref fW)) :
    FnOk P w K mg base CX0 2 f fd ["self", "x", "y"] (spInit C) := by
  have GW : FnOk P w K mg base CX0 1 fW fdW ["value"] spWhole := ok_whole FW T
  refine F.ok scInit (fun vs H Q E h => ?_) (fun cdv A outer s H vs Q E hr h => ?_)
  · obtain ⟨p, dx, x, y, rfl, _⟩ := h
    rfl
  · obtain ⟨p, dx, x, y, rfl, hp, k⟩ := h
    refine ⟨_, pss_cons (ps_if (PW.pt (pw_or (pt_not (pt_val (pe_call GW hr rfl mW FW.kp bW .nil pass0 (pa_cons (pv 1) pa_nil)))) (pw_or1 (pt_not (pt_val (pe_call GW hr rfl mW FW.kp bW .nil pass0 (pa_cons (pv 2) pa_nil))))))) (pss_one ps_never) pss_nil)
      (pss_cons (ps_fld (pv 0) (pv 1) rfl) (pss_one (ps_fld (pv 0) (pv 2) rfl))), ?_⟩
    refine ⟨_, rfl, x, rfl, true, rfl, ?_⟩
    refine iteF ?_
    refine ⟨_, rfl, y, rfl, true, rfl, ?_⟩
    refine iteF ?_
    refine ⟨_, rfl, _, rfl, p, C, dx, [], rfl, hp, T.cl, T.nX, (by show 0 < 1000; decide), ?_⟩
    refine ⟨_, rfl, _, rfl, p, C, dx, _, rfl, upd_same, T.cl, T.nY, (by show 1 < 1000; decide), ?_⟩
    exact k
theorem ty_ins {C a dx : Addr} {fs : List (Str × V)} {H : Hp} (T : Txt K mg C) (h : H a = some (.ins C dx fs)) : TyX K H (.ref a) (.ref C) := .base (.ins h T.cl T.ha T.hn T.htk T.hm)
theorem scIsPoint : FnScope ["thing"] ["thing"] (defScope sIsPoint) := ⟨rfl, rfl, rfl, by decide +kernel, rfl, by decide +kernel, by decide +kernel⟩
theorem ok_is_point {f C fW : Addr} {fd fdW : FuncData} (F : Fun K "is_point" "is_point" sIsPoint f fd) (T : Txt K mg C) (FW : Fun K "is_whole" "is_whole" sWhole fW fdW) (bW : Binds K fdW ["value"] []) (mW : mg "is_whole" = some (.ref fW)) :
    FnOk P w K mg base CX0 2 f fd ["thing"] (spIsPoint C) := by
  have GW : FnOk P w K mg base CX0 1 fW fdW ["value"] spWhole := ok_whole FW T
  refine F.ok scIsPoint (fun vs H Q E h => ?_) (fun cdv A outer s H vs Q E hr h => ?_)
  · obtain ⟨v, x, y, rfl, _⟩ := h
    rfl
  · obtain ⟨v, x, y, rfl, ⟨a, rfl, hv⟩, k⟩ := h
    refine ⟨_, pss_cons (ps_if (pt_val (pe_callB call_isi (by rfl) T.isi (by decide +kernel) (pa_cons (pv 0) (pa_cons (pe_glob (v := .ref C) rfl T.mgC rfl) pa_nil)))) (pss_one (ps_ret pe_bl)) pss_nil)
      (pss_one (ps_ret (pe_and (pe_callB call_isi (by rfl) T.isi (by decide +kernel) (pa_cons (pv 0) (pa_cons (pe_bltn (v := .ty "tuple") (by rfl) T.tuple (by decide +kernel) rfl) pa_nil)))
        (pe_and (pe_cmpR op_eq (pe_callB call_len_seq (by rfl) T.len PySem.boot_len (pa_cons (pv 0) pa_nil)) pe_int (nomark _))
        (pe_and (pe_call GW hr rfl mW FW.kp bW .nil pass0 (pa_cons (pe_ix ix_tup (pv 0) pe_int (fun _ _ => rfl)) pa_nil))
        (pe_one (pe_call GW hr rfl mW FW.kp bW .nil pass0 (pa_cons (pe_ix ix_tup (pv 0) pe_int (fun _ _ => rfl)) pa_nil)))))))), ?_⟩
    rcases hv with ⟨dx, hv⟩ | hv
    · refine ⟨_, rfl, _, _, _, _, true, rfl, .own C, ty_ins T hv, T.kCC, true, rfl, ?_⟩
      refine iteT ?_
      exact k
    · refine ⟨_, rfl, _, _, _, _, false, rfl, .own C, .base (.tup hv), T.kTC, false, rfl, ?_⟩
      refine iteF ?_
      refine ⟨_, rfl, _, _, _, _, true, rfl, .ty _, .base (.tup hv), kit_ty (by decide +kernel), true, rfl, ?_⟩
      refine iteT ?_
      refine ⟨_, rfl, a, _, rfl, .inr (SqT.of hv), rfl, true, rfl, ?_⟩
      refine iteT ?_
      refine ⟨_, rfl, a, _, _, _, rfl, rfl, SqT.of hv, atI_nat (j := 0) rfl, x, rfl, true, rfl, ?_⟩
      refine iteT ?_
      exact ⟨_, rfl, a, _, _, _, rfl, rfl, SqT.of hv, atI_nat (j := 1) rfl, y, rfl, k⟩

/-- a new Point -/
theorem made_same {C x dx : Addr} {H : Hp} {X Y : Int} (nx : H x = none) (nd : H dx = none) : Same H (upd (upd (upd (upd H dx (.own x)) x (.ins C dx [])) x (.ins C dx (putF "x" (.int X) []))) x (.ins C dx (ptF X Y))) := fun b o e => by
  have n1 : b ≠ x := ne_of_none e nx
  have n2 : b ≠ dx := ne_of_none e nd
  rw [upd_ne n1, upd_ne n1, upd_ne n1, upd_ne n2]
  exact e
theorem made_is {C x dx : Addr} {H : Hp} {X Y : Int} : IsP C (.ref x) X Y (upd (upd (upd (upd H dx (.own x)) x (.ins C dx [])) x (.ins C dx (putF "x" (.int X) []))) x (.ins C dx (ptF X Y))) := ⟨x, dx, rfl, upd_same⟩
/-- Point(a, b) of two numbers: spInit's reading at a new instance -/
theorem make_pt {C : Addr} {H : Hp} {X Y : Int} {Q : VK} {E : XK} (k : ∀ v H', Same H H' → IsP C v X Y H' → Q v H') :
    ∀ x dx, H x = none → H dx = none → dx ≠ x → spInit C (.ref x :: ([.int X, .int Y] ++ [])) (upd (upd H dx (.own x)) x (.ins C dx [])) (fun v H2 => v = .non ∧ Q (.ref x) H2) E := fun x dx nx nd _ =>
  ⟨x, dx, X, Y, rfl, upd_same, rfl, k _ _ (made_same nx nd) made_is⟩
/-- the program's defs that others call, as they stand -/
structure Defs (K : PySem.W.Frag) (mg : Str → Option Value) (C fW fI fP fA fO : Addr) (fdW fdI fdP fdA fdO : FuncData) : Prop where
  T : Txt K mg C
  FW : Fun K "is_whole" "is_whole" sWhole fW fdW
  bW : Binds K fdW ["value"] []
  mW : mg "is_whole" = some (.ref fW)
  M : Mk K C fI
  FI : Fun K "__init__" "Point.__init__" sInit fI fdI
  bI : Binds K fdI ["self", "x", "y"] []
  FP : Fun K "is_point" "is_point" sIsPoint fP fdP
  bP : Binds K fdP ["thing"] []
  mP : mg "is_point" = some (.ref fP)
  FA : Fun K "as_point" "as_point" sAsPoint fA fdA
  bA : Binds K fdA ["thing"] []
  mA : mg "as_point" = some (.ref fA)
  FO : Fun K "operand" "operand" sOperand fO fdO
  bO : Binds K fdO ["thing"] []
  mO : mg "operand" = some (.ref fO)
variable {C fW fI fP fA fO : Addr} {fdW fdI fdP fdA fdO : FuncData}
theorem Defs.GW (D : Defs K mg C fW fI fP fA fO fdW fdI fdP fdA fdO) : FnOk P w K mg base CX0 1 fW fdW ["value"] spWhole := ok_whole D.FW D.T
theorem Defs.GI (D : Defs K mg C fW fI fP fA fO fdW fdI fdP fdA fdO) : FnOk P w K mg base CX0 2 fI fdI ["self", "x", "y"] (spInit C) := ok_init D.FI D.T D.FW D.bW D.mW
theorem Defs.GP (D : Defs K mg C fW fI fP fA fO fdW fdI fdP fdA fdO) : FnOk P w K mg base CX0 2 fP fdP ["thing"] (spIsPoint C) := ok_is_point D.FP D.T D.FW D.bW D.mW
theorem scAsPoint : FnScope ["thing"] ["thing"] (defScope sAsPoint) := ⟨rfl, rfl, rfl, by decide +kernel, rfl, by decide +kernel, by decide +kernel⟩
theorem Defs.GA (D : Defs K mg C fW fI fP fA fO fdW fdI fdP fdA fdO) : FnOk P w K mg base CX0 4 fA fdA ["thing"] (spAsPoint C) := by
  have GP : FnOk P w K mg base CX0 2 fP fdP ["thing"] (spIsPoint C) := D.GP
  have GI : FnOk P w K mg base CX0 2 fI fdI ["self", "x", "y"] (spInit C) := D.GI
  have T := D.T
  refine D.FA.ok scAsPoint (fun vs H Q E h => ?_) (fun cdv A outer s H vs Q E hr h => ?_)
  · obtain ⟨v, x, y, rfl, _⟩ := h
    rfl
  · obtain ⟨v, x, y, rfl, hp, k⟩ := h
    refine ⟨_, pss_cons (ps_if (pt_not (pt_val (pe_call GP (hr.mono (by decide)) rfl D.mP D.FP.kp D.bP .nil pass0 (pa_cons (pv 0) pa_nil)))) (pss_one ps_never) pss_nil)
      (pss_cons (ps_if (pt_val (pe_callB call_isi (by rfl) T.isi (by decide +kernel) (pa_cons (pv 0) (pa_cons (pe_glob (v := .ref C) rfl T.mgC rfl) pa_nil)))) (pss_one (ps_ret (pv 0))) pss_nil)
      (pss_one (ps_ret (pe_make D.M GI hr rfl T.mgC D.bI .nil pass0 (pa_cons (pe_ix ix_tup (pv 0) pe_int (fun _ _ => rfl)) (pa_cons (pe_ix ix_tup (pv 0) pe_int (fun _ _ => rfl)) pa_nil)))))), ?_⟩
    refine ⟨_, rfl, v, x, y, rfl, hp, true, rfl, ?_⟩
    refine iteF ?_
    obtain ⟨a, rfl, hv⟩ := hp
    rcases hv with ⟨dx, hv⟩ | hv
    · refine ⟨_, rfl, _, _, _, _, true, rfl, .own C, ty_ins T hv, T.kCC, true, rfl, ?_⟩
      refine iteT ?_
      exact ⟨_, rfl, k _ _ (Same.refl _) ⟨a, dx, rfl, hv⟩ fun _ => rfl⟩
    · refine ⟨_, rfl, _, _, _, _, false, rfl, .own C, .base (.tup hv), T.kTC, false, rfl, ?_⟩
      refine iteF ?_
      refine ⟨_, rfl, a, _, _, _, rfl, rfl, SqT.of hv, atI_nat (j := 0) rfl, _, rfl, a, _, _, _, rfl, rfl, SqT.of hv, atI_nat (j := 1) rfl, ?_⟩
      refine make_pt fun v H2 e2 h2 => k v H2 e2 h2 fun hp => ?_
      obtain ⟨b, dy, q1, q2⟩ := hp
      cases q1
      rw [hv] at q2
      cases q2
theorem scOperand : FnScope ["thing"] ["thing"] (defScope sOperand) := ⟨rfl, rfl, rfl, by decide +kernel, rfl, by decide +kernel, by decide +kernel⟩
theorem Defs.GO (D : Defs K mg C fW fI fP fA fO fdW fdI fdP fdA fdO) : FnOk P w K mg base CX0 5 fO fdO ["thing"] (spAsPoint C) := by
  have GP : FnOk P w K mg base CX0 2 fP fdP ["thing"] (spIsPoint C) := D.GP
  have GA : FnOk P w K mg base CX0 4 fA fdA ["thing"] (spAsPoint C) := D.GA
  refine D.FO.ok scOperand (fun vs H Q E h => ?_) (fun cdv A outer s H vs Q E hr h => ?_)
  · obtain ⟨v, x, y, rfl, _⟩ := h
    rfl
  · obtain ⟨v, x, y, rfl, hp, k⟩ := h
    refine ⟨_, pss_cons (ps_if (pt_not (pt_val (pe_call GP (hr.mono (by decide)) rfl D.mP D.FP.kp D.bP .nil pass0 (pa_cons (pv 0) pa_nil)))) (pss_one ps_never) pss_nil)
      (pss_one (ps_ret (pe_call GA hr rfl D.mA D.FA.kp D.bA .nil pass0 (pa_cons (pv 0) pa_nil)))), ?_⟩
    refine ⟨_, rfl, v, x, y, rfl, hp, true, rfl, ?_⟩
    refine iteF ?_
    exact ⟨_, rfl, v, x, y, rfl, hp, k⟩
theorem scAdd : FnScope ["self", "other", "by"] ["self", "other"] (defScope sAdd) := ⟨rfl, rfl, rfl, by decide +kernel, rfl, by decide +kernel, by decide +kernel⟩
theorem ok_add {f : Addr} {fd : FuncData} (F : Fun K "__add__" "Point.__add__" sAdd f fd) (D : Defs K mg C fW fI fP fA fO fdW fdI fdP fdA fdO) : FnOk P w K mg base CX0 6 f fd ["self", "other"] (spBin C (· + ·)) := by
  have GO : FnOk P w K mg base CX0 5 fO fdO ["thing"] (spAsPoint C) := D.GO
  have GI : FnOk P w K mg base CX0 2 fI fdI ["self", "x", "y"] (spInit C) := D.GI
  have T := D.T
  refine F.ok scAdd (fun vs H Q E h => ?_) (fun cdv A outer s H vs Q E hr h => ?_)
  · obtain ⟨v, u, x, y, z, t, rfl, _⟩ := h
    rfl
  · obtain ⟨v, u, x, y, z, t, rfl, hv, hu, k⟩ := h
    refine ⟨_, pss_cons (ps_set (i := 2) scAdd.nd rfl (Or.inl rfl) (pe_call GO hr rfl D.mO D.FO.kp D.bO .nil pass0 (pa_cons (pv 1) pa_nil)))
      (pss_one (ps_ret (pe_make D.M GI (hr.mono (by decide)) rfl T.mgC D.bI .nil pass0 (pa_cons (pe_op op_add (pe_fld (pv 0) rfl) (pe_fld (pv 2) rfl)) (pa_cons (pe_op op_add (pe_fld (pv 0) rfl) (pe_fld (pv 2) rfl)) pa_nil))))), ?_⟩
    refine ⟨_, rfl, u, z, t, rfl, hu, fun w H' e hw _ => ?_⟩
    obtain ⟨a, dx, rfl, ha⟩ := hv.ex e
    obtain ⟨b, dy, rfl, hb⟩ := hw
    refine ⟨_, rfl, a, C, dx, _, _, rfl, ha, T.cl, T.nX, ptF_x _ _, _, rfl, b, C, dy, _, _, rfl, hb, T.cl, T.nX, ptF_x _ _, _, _, rfl, rfl, ?_⟩
    refine ⟨_, rfl, a, C, dx, _, _, rfl, ha, T.cl, T.nY, ptF_y _ _, _, rfl, b, C, dy, _, _, rfl, hb, T.cl, T.nY, ptF_y _ _, _, _, rfl, rfl, ?_⟩
    exact make_pt fun v H2 e2 h2 => k v H2 (e.trans e2) h2
theorem scSub : FnScope ["self", "other", "by"] ["self", "other"] (defScope sSub) := ⟨rfl, rfl, rfl, by decide +kernel, rfl, by decide +kernel, by decide +kernel⟩
theorem ok_sub {f : Addr} {fd : FuncData} (F : Fun K "__sub__" "Point.__sub__" sSub f fd) (D : Defs K mg C fW fI fP fA fO fdW fdI fdP fdA fdO) : FnOk P w K mg base CX0 6 f fd ["self", "other"] (spBin C (· - ·)) := by
  have GO : FnOk P w K mg base CX0 5 fO fdO ["thing"] (spAsPoint C) := D.GO
  have GI : FnOk P w K mg base CX0 2 fI fdI ["self", "x", "y"] (spInit C) := D.GI
  have T := D.T
  refine F.ok scSub (fun vs H Q E h => ?_) (fun cdv A outer s H vs Q E hr h => ?_)
  · obtain ⟨v, u, x, y, z, t, rfl, _⟩ := h
    rfl
  · obtain ⟨v, u, x, y, z, t, rfl, hv, hu, k⟩ := h
    refine ⟨_, pss_cons (ps_set (i := 2) scSub.nd rfl (Or.inl rfl) (pe_call GO hr rfl D.mO D.FO.kp D.bO .nil pass0 (pa_cons (pv 1) pa_nil)))
      (pss_one (ps_ret (pe_make D.M GI (hr.mono (by decide)) rfl T.mgC D.bI .nil pass0 (pa_cons (pe_op op_sub (pe_fld (pv 0) rfl) (pe_fld (pv 2) rfl)) (pa_cons (pe_op op_sub (pe_fld (pv 0) rfl) (pe_fld (pv 2) rfl)) pa_nil))))), ?_⟩
    refine ⟨_, rfl, u, z, t, rfl, hu, fun w H' e hw _ => ?_⟩
    obtain ⟨a, dx, rfl, ha⟩ := hv.ex e
    obtain ⟨b, dy, rfl, hb⟩ := hw
    refine ⟨_, rfl, a, C, dx, _, _, rfl, ha, T.cl, T.nX, ptF_x _ _, _, rfl, b, C, dy, _, _, rfl, hb, T.cl, T.nX, ptF_x _ _, _, _, rfl, rfl, ?_⟩
    refine ⟨_, rfl, a, C, dx, _, _, rfl, ha, T.cl, T.nY, ptF_y _ _, _, rfl, b, C, dy, _, _, rfl, hb, T.cl, T.nY, ptF_y _ _, _, _, rfl, rfl, ?_⟩
    exact make_pt fun v H2 e2 h2 => k v H2 (e.trans e2) h2
theorem scCross : FnScope ["self", "other", "second"] ["self", "other"] (defScope sCross) := ⟨rfl, rfl, rfl, by decide +kernel, rfl, by decide +kernel, by decide +kernel⟩
theorem ok_cross {f : Addr} {fd : FuncData} (F : Fun K "cross" "Point.cross" sCross f fd) (D : Defs K mg C fW fI fP fA fO fdW fdI fdP fdA fdO) : FnOk P w K mg base CX0 5 f fd ["self", "other"] (spCross C) := by
  have GA : FnOk P w K mg base CX0 4 fA fdA ["thing"] (spAsPoint C) := D.GA
  have T := D.T
  refine F.ok scCross (fun vs H Q E h => ?_) (fun cdv A outer s H vs Q E hr h => ?_)
  · obtain ⟨n, v, u, x, y, z, t, rfl, _⟩ := h
    rfl
  · obtain ⟨n, v, u, x, y, z, t, rfl, hv, hu, n0, n1, sx, sy, sz, st, k⟩ := h
    refine ⟨_, pss_cons (ps_set (i := 2) scCross.nd rfl (Or.inl rfl) (pe_call GA hr rfl D.mA D.FA.kp D.bA .nil pass0 (pa_cons (pv 1) pa_nil)))
      (pss_one (ps_ret (pe_op op_sub (pe_op op_mulW (pe_fld (pv 0) rfl) (pe_fld (pv 2) rfl)) (pe_op op_mulW (pe_fld (pv 0) rfl) (pe_fld (pv 2) rfl))))), ?_⟩
    refine ⟨_, rfl, u, z, t, rfl, hu, fun w H' e hw _ => ?_⟩
    obtain ⟨a, dx, rfl, ha⟩ := hv.ex e
    obtain ⟨b, dy, rfl, hb⟩ := hw
    refine ⟨_, rfl, a, C, dx, _, _, rfl, ha, T.cl, T.nX, ptF_x _ _, _, rfl, b, C, dy, _, _, rfl, hb, T.cl, T.nY, ptF_y _ _, _, _, rfl, rfl, sx.mul st n0 n1, ?_⟩
    refine ⟨_, rfl, a, C, dx, _, _, rfl, ha, T.cl, T.nY, ptF_y _ _, _, rfl, b, C, dy, _, _, rfl, hb, T.cl, T.nX, ptF_x _ _, _, _, rfl, rfl, sy.mul sz n0 n1, ?_⟩
    exact ⟨_, _, rfl, rfl, k H' e⟩
theorem IsPt.opnd {v : V} {x y : Int} {H : Hp} (h : IsPt C v x y H) : (∃ b dy gs, v = .ref b ∧ H b = some (.ins C dy gs)) ∨ ∃ b xs, v = .ref b ∧ H b = some (.tup xs) := by
  obtain ⟨a, rfl, h⟩ := h
  rcases h with ⟨dx, h⟩ | h
  · exact .inl ⟨a, dx, _, rfl, h⟩
  · exact .inr ⟨a, _, rfl, h⟩
theorem cross_no (x y : Int) : (ptF x y).lookup ("cross" : Str) = none := ptF_no _ _ (by decide +kernel) (by decide +kernel)
theorem scSide : FnScope ["a", "b", "point", "start", "end", "place"] ["a", "b", "point"] (defScope sSide) := ⟨rfl, rfl, rfl, by decide +kernel, rfl, by decide +kernel, by decide +kernel⟩
theorem ok_side {f : Addr} {fd : FuncData} (F : Fun K "side" "side" sSide f fd) (D : Defs K mg C fW fI fP fA fO fdW fdI fdP fdA fdO) : FnOk P w K mg base CX0 7 f fd ["a", "b", "point"] (spSide C) := by
  have GA : FnOk P w K mg base CX0 4 fA fdA ["thing"] (spAsPoint C) := D.GA
  have T := D.T
  refine F.ok scSide (fun vs H Q E h => ?_) (fun cdv A outer s H vs Q E hr h => ?_)
  · obtain ⟨n, a, b, p, ax, ay, bx, by', px, py, rfl, _⟩ := h
    rfl
  · obtain ⟨n, a, b, p, ax, ay, bx, by', px, py, rfl, ha, hb, hp, n1, s1, s2, s3, s4, s5, s6, k⟩ := h
    have hr4 : Room 4 _ := hr.mono (by decide)
    refine ⟨_, pss_cons (ps_set (i := 3) scSide.nd rfl (Or.inl rfl) (pe_call GA hr4 rfl D.mA D.FA.kp D.bA .nil pass0 (pa_cons (pv 0) pa_nil)))
      (pss_cons (ps_set (i := 4) scSide.nd rfl (Or.inl rfl) (pe_call GA hr4 rfl D.mA D.FA.kp D.bA .nil pass0 (pa_cons (pv 1) pa_nil)))
      (pss_cons (ps_set (i := 5) scSide.nd rfl (Or.inl rfl) (pe_call GA hr4 rfl D.mA D.FA.kp D.bA .nil pass0 (pa_cons (pv 2) pa_nil)))
      (pss_one (ps_ret (pe_op op_sub
        (pe_op op_mulW (pe_op op_sub (pe_fld (pv 4) rfl) (pe_fld (pv 3) rfl)) (pe_op op_sub (pe_fld (pv 5) rfl) (pe_fld (pv 3) rfl)))
        (pe_op op_mulW (pe_op op_sub (pe_fld (pv 4) rfl) (pe_fld (pv 3) rfl)) (pe_op op_sub (pe_fld (pv 5) rfl) (pe_fld (pv 3) rfl)))))))), ?_⟩
    refine ⟨_, rfl, a, ax, ay, rfl, ha, fun w1 H1 e1 h1 _ => ?_⟩
    refine ⟨_, rfl, b, bx, by', rfl, hb.ex e1, fun w2 H2 e2 h2 _ => ?_⟩
    refine ⟨_, rfl, p, px, py, rfl, hp.ex (e1.trans e2), fun w3 H3 e3 h3 _ => ?_⟩
    obtain ⟨a1, d1, rfl, z1⟩ := (h1.ex e2).ex e3
    obtain ⟨a2, d2, rfl, z2⟩ := h2.ex e3
    obtain ⟨a3, d3, rfl, z3⟩ := h3
    refine ⟨_, rfl, a2, C, d2, _, _, rfl, z2, T.cl, T.nX, ptF_x _ _, _, rfl, a1, C, d1, _, _, rfl, z1, T.cl, T.nX, ptF_x _ _, _, _, rfl, rfl, ?_⟩
    refine ⟨_, rfl, a3, C, d3, _, _, rfl, z3, T.cl, T.nY, ptF_y _ _, _, rfl, a1, C, d1, _, _, rfl, z1, T.cl, T.nY, ptF_y _ _, _, _, rfl, rfl, ?_⟩
    refine ⟨_, _, rfl, rfl, (s3.sub s1).mul (s6.sub s2) (Nat.succ_pos _) n1, ?_⟩
    refine ⟨_, rfl, a2, C, d2, _, _, rfl, z2, T.cl, T.nY, ptF_y _ _, _, rfl, a1, C, d1, _, _, rfl, z1, T.cl, T.nY, ptF_y _ _, _, _, rfl, rfl, ?_⟩
    refine ⟨_, rfl, a3, C, d3, _, _, rfl, z3, T.cl, T.nX, ptF_x _ _, _, rfl, a1, C, d1, _, _, rfl, z1, T.cl, T.nX, ptF_x _ _, _, _, rfl, rfl, ?_⟩
    refine ⟨_, _, rfl, rfl, (s4.sub s2).mul (s5.sub s1) (Nat.succ_pos _) n1, ?_⟩
    exact ⟨_, _, rfl, rfl, k _ ((e1.trans e2).trans e3)⟩
theorem scQuarter : FnScope ["point", "old"] ["point"] (defScope sQuarter) := ⟨rfl, rfl, rfl, by decide +kernel, rfl, by decide +kernel, by decide +kernel⟩
theorem ok_quarter {f : Addr} {fd : FuncData} (F : Fun K "quarter" "quarter" sQuarter f fd) (D : Defs K mg C fW fI fP fA fO fdW fdI fdP fdA fdO) : FnOk P w K mg base CX0 5 f fd ["point"] (spQuarter C) := by
  have GA : FnOk P w K mg base CX0 4 fA fdA ["thing"] (spAsPoint C) := D.GA
  have GI : FnOk P w K mg base CX0 2 fI fdI ["self", "x", "y"] (spInit C) := D.GI
  have T := D.T
  refine F.ok scQuarter (fun vs H Q E h => ?_) (fun cdv A outer s H vs Q E hr h => ?_)
  · obtain ⟨v, x, y, rfl, _⟩ := h
    rfl
  · obtain ⟨v, x, y, rfl, hv, k⟩ := h
    refine ⟨_, pss_cons (ps_set (i := 1) scQuarter.nd rfl (Or.inl rfl) (pe_call GA hr rfl D.mA D.FA.kp D.bA .nil pass0 (pa_cons (pv 0) pa_nil)))
      (pss_one (ps_ret (pe_make D.M GI (hr.mono (by decide)) rfl T.mgC D.bI .nil pass0 (pa_cons (pe_un un_neg (pe_fld (pv 1) rfl)) (pa_cons (pe_fld (pv 1) rfl) pa_nil))))), ?_⟩
    refine ⟨_, rfl, v, x, y, rfl, hv, fun w H' e hw _ => ?_⟩
    obtain ⟨b, dy, rfl, hb⟩ := hw
    refine ⟨_, rfl, b, C, dy, _, _, rfl, hb, T.cl, T.nY, ptF_y _ _, _, rfl, ?_⟩
    refine ⟨_, rfl, b, C, dy, _, _, rfl, hb, T.cl, T.nX, ptF_x _ _, ?_⟩
    exact make_pt fun v H2 e2 h2 => k v H2 (e.trans e2) h2
def spMul (C : Addr) : Sp := fun vs H Q _ => ∃ (v : V) (x y m : Int), vs = [v, .int m] ∧ IsP C v x y H ∧ CMulW x m ∧ CMulW y m ∧ ∀ w H', Same H H' → IsP C w (x * m) (y * m) H' → Q w H'
theorem scMul : FnScope ["self", "other"] ["self", "other"] (defScope sMul) := ⟨rfl, rfl, rfl, by decide +kernel, rfl, by decide +kernel, by decide +kernel⟩
theorem ok_mul {f : Addr} {fd : FuncData} (F : Fun K "__mul__" "Point.__mul__" sMul f fd) (D : Defs K mg C fW fI fP fA fO fdW fdI fdP fdA fdO) : FnOk P w K mg base CX0 4 f fd ["self", "other"] (spMul C) := by
  have GW : FnOk P w K mg base CX0 1 fW fdW ["value"] spWhole := D.GW
  have GI : FnOk P w K mg base CX0 2 fI fdI ["self", "x", "y"] (spInit C) := D.GI
  have T := D.T
  refine F.ok scMul (fun vs H Q E h => ?_) (fun cdv A outer s H vs Q E hr h => ?_)
  · obtain ⟨v, x, y, m, rfl, _⟩ := h
    rfl
  · obtain ⟨v, x, y, m, rfl, hv, c1, c2, k⟩ := h
    refine ⟨_, pss_cons (ps_if (pt_not (pt_val (pe_call GW (hr.mono (by decide)) rfl D.mW D.FW.kp D.bW .nil pass0 (pa_cons (pv 1) pa_nil)))) (pss_one ps_never) pss_nil)
      (pss_one (ps_ret (pe_make D.M GI hr rfl T.mgC D.bI .nil pass0 (pa_cons (pe_op op_mulW (pe_fld (pv 0) rfl) (pv 1)) (pa_cons (pe_op op_mulW (pe_fld (pv 0) rfl) (pv 1)) pa_nil))))), ?_⟩
    refine ⟨_, rfl, m, rfl, true, rfl, ?_⟩
    refine iteF ?_
    obtain ⟨a, dx, rfl, ha⟩ := hv
    refine ⟨_, rfl, a, C, dx, _, _, rfl, ha, T.cl, T.nX, ptF_x _ _, _, rfl, _, _, rfl, rfl, c1, ?_⟩
    refine ⟨_, rfl, a, C, dx, _, _, rfl, ha, T.cl, T.nY, ptF_y _ _, _, rfl, _, _, rfl, rfl, c2, ?_⟩
    exact make_pt k
def spEqP (C : Addr) : Sp := fun vs H Q _ => ∃ (v u : V) (x y z t : Int), vs = [v, u] ∧ IsP C v x y H ∧ ((IsP C u z t H ∧ Q (.bl (decide (x = z) && decide (y = t))) H) ∨ ((∃ b xs, u = .ref b ∧ H b = some (.tup xs)) ∧ Q (.bl false) H))
theorem scEq : FnScope ["self", "other"] ["self", "other"] (defScope sEq) := ⟨rfl, rfl, rfl, by decide +kernel, rfl, by decide +kernel, by decide +kernel⟩
theorem ok_eq {f : Addr} {fd : FuncData} (F : Fun K "__eq__" "Point.__eq__" sEq f fd) (T : Txt K mg C) : FnOk P w K mg base CX0 1 f fd ["self", "other"] (spEqP C) := by
  refine F.ok scEq (fun vs H Q E h => ?_) (fun cdv A outer s H vs Q E hr h => ?_)
  · obtain ⟨v, u, x, y, z, t, rfl, _⟩ := h
    rfl
  · obtain ⟨v, u, x, y, z, t, rfl, ⟨a, dx, rfl, ha⟩, hu⟩ := h
    refine ⟨_, pss_one (ps_ret (pe_and (pe_callB call_isi (by rfl) T.isi (by decide +kernel) (pa_cons (pv 1) (pa_cons (pe_glob (v := .ref C) rfl T.mgC rfl) pa_nil)))
      (pe_and (pe_cmpR op_eq (pe_fld (pv 0) rfl) (pe_fld (pv 1) rfl) (nomark _)) (pe_one (pe_cmpR op_eq (pe_fld (pv 0) rfl) (pe_fld (pv 1) rfl) (nomark _)))))), ?_⟩
    rcases hu with ⟨⟨b, dy, rfl, hb⟩, k⟩ | ⟨⟨b, xs, rfl, hb⟩, k⟩
    · refine ⟨_, rfl, _, _, _, _, true, rfl, .own C, ty_ins T hb, T.kCC, true, rfl, ?_⟩
      refine iteT ?_
      refine ⟨_, rfl, a, C, dx, _, _, rfl, ha, T.cl, T.nX, ptF_x _ _, _, rfl, b, C, dy, _, _, rfl, hb, T.cl, T.nX, ptF_x _ _, rfl, _, rfl, ?_⟩
      have ei : ∀ i j : Int, decide (V.int i = V.int j) = decide (i = j) := fun i j => by
        by_cases h : i = j
        · rw [h, decide_eq_true rfl, decide_eq_true rfl]
        · rw [decide_eq_false h, decide_eq_false (fun q => h (by cases q; rfl))]
      rw [ei x z]
      by_cases hxz : x = z
      · rw [decide_eq_true hxz] at *
        refine iteT ?_
        refine ⟨_, rfl, a, C, dx, _, _, rfl, ha, T.cl, T.nY, ptF_y _ _, _, rfl, b, C, dy, _, _, rfl, hb, T.cl, T.nY, ptF_y _ _, rfl, ?_⟩
        rw [ei y t]
        simpa using k
      · rw [decide_eq_false hxz] at *
        refine iteF ?_
        simpa using k
    · refine ⟨_, rfl, _, _, _, _, false, rfl, .own C, .base (.tup hb), T.kTC, false, rfl, ?_⟩
      refine iteF ?_
      exact k
def spPairM (C : Addr) : Sp := fun vs H Q _ => ∃ (v : V) (x y : Int), vs = [v] ∧ IsP C v x y H ∧ ∀ q H', H q = none → Same H H' → H' q = some (.tup [.int x, .int y]) → Q (.ref q) H'
theorem scPairM : FnScope ["self"] ["self"] (defScope sPairM) := ⟨rfl, rfl, rfl, by decide +kernel, rfl, by decide +kernel, by decide +kernel⟩
theorem ok_pairM {f : Addr} {fd : FuncData} (F : Fun K "pair" "Point.pair" sPairM f fd) (T : Txt K mg C) : FnOk P w K mg base CX0 1 f fd ["self"] (spPairM C) := by
  refine F.ok scPairM (fun vs H Q E h => ?_) (fun cdv A outer s H vs Q E hr h => ?_)
  · obtain ⟨v, x, y, rfl, _⟩ := h
    rfl
  · obtain ⟨v, x, y, rfl, ⟨a, dx, rfl, ha⟩, k⟩ := h
    refine ⟨_, pss_one (ps_ret (pe_tup (pa_cons (pe_fld (pv 0) rfl) (pa_cons (pe_fld (pv 0) rfl) pa_nil)))), ?_⟩
    refine ⟨_, rfl, a, C, dx, _, _, rfl, ha, T.cl, T.nX, ptF_x _ _, _, rfl, a, C, dx, _, _, rfl, ha, T.cl, T.nY, ptF_y _ _, (by show 2 ≤ sizeLine; decide), fun t nt => ?_⟩
    exact k t _ nt (same_new nt) upd_same
end
end Fo

set_option Elab.async false
set_option linter.all false
set_option maxRecDepth 100000
set_option maxHeartbeats 2000000
namespace Fo
open PySem L2
/-! ### filledonce.points where it raises -/
def Scal : V → Prop
  | .non => True
  | .bl _ => True
  | .int _ => True
  | .str _ => True
  | _ => False
def wholeV : V → Bool
  | .int _ => true
  | _ => false
/-- what is no point: one of some kinds -/
inductive Bad (H : Hp) : V → Prop
  | non : Bad H .non
  | bl (b : Bool) : Bad H (.bl b)
  | int (i : Int) : Bad H (.int i)
  | str (z : Str) : Bad H (.str z)
  | lst {a : Addr} {xs : List V} (h : H a = some (.lst xs)) : Bad H (.ref a)
  | tup {a : Addr} {xs : List V} (h : H a = some (.tup xs)) (n : xs.length ≠ 2) : Bad H (.ref a)
  | two {a : Addr} {u v : V} (h : H a = some (.tup [u, v])) (su : Scal u) (sv : Scal v) (n : (wholeV u && wholeV v) = false) : Bad H (.ref a)
theorem Bad.ex {H H' : Hp} {v : V} (e : Same H H') (h : Bad H v) : Bad H' v := by
  cases h with
  | non => exact .non
  | bl b => exact .bl b
  | int i => exact .int i
  | str z => exact .str z
  | lst h => exact .lst (e _ _ h)
  | tup h n => exact .tup (e _ _ h) n
  | two h su sv n => exact .two (e _ _ h) su sv n
/-- what the top says besides of Point and of the error InvalidPoint at CI -/
structure TxtX (P : Program) (K : PySem.W.Frag) (mg : Str → Option Value) (C CI fII : Addr) : Prop where
  kNC : PySem.W.kitOne K (.type "NoneType") (.ref C) = some false
  kBC : PySem.W.kitOne K (.type "bool") (.ref C) = some false
  kIC : PySem.W.kitOne K (.type "int") (.ref C) = some false
  kSC : PySem.W.kitOne K (.type "str") (.ref C) = some false
  kLC : PySem.W.kitOne K (.type "list") (.ref C) = some false
  xI : FoX_thing.XTxt P K mg CI fII
  gI : mg "InvalidPoint" = some (.ref CI)
def XD (v : V) : HO := .xd [((Str.ofString "thing"), v)]
def spWholeX : Sp := fun vs H Q _ => ∃ v : V, vs = [v] ∧ Scal v ∧ Q (.bl (wholeV v)) H
def spIsPointX (C : Addr) : Sp := fun vs H Q _ => ∃ v : V, vs = [v] ∧ Bad H v ∧ Q (.bl false) H
def spInitX (C CI : Addr) : Sp := fun vs H _ E => ∃ (p : Addr) (u v : V), vs = [.ref p, u, v] ∧ Scal u ∧ Scal v ∧ (wholeV u && wholeV v) = false ∧ ∀ t d H', Same H H' → H' t = some (.tup [u, v]) → H' d = some (XD (.ref t)) → E (.ref CI) (some d) H'
def spBadX (CI : Addr) : Sp := fun vs H _ E => ∃ v : V, vs = [v] ∧ Bad H v ∧ ∀ d H', Same H H' → H' d = some (XD v) → E (.ref CI) (some d) H'
section
variable {P : Program} {w : World} {K : PySem.W.Frag} {mg : Str → Option Value} {base : Heap} {C fW fI fP fA fO CI fII : Addr} {fdW fdI fdP fdA fdO : FuncData}
theorem ok_wholeX {f : Addr} {fd : FuncData} (F : Fun K "is_whole" "is_whole" sWhole f fd) (T : Txt K mg C) : FnOk P w K mg base CX0 1 f fd ["value"] spWholeX := by
  refine F.ok scWhole (fun vs H Q E h => ?_) (fun cdv A outer s H vs Q E hr h => ?_)
  · obtain ⟨v, rfl, _⟩ := h
    rfl
  · obtain ⟨v, rfl, sv, k⟩ := h
    refine ⟨_, pss_one (ps_ret (pe_and (pe_callB call_isi (by rfl) T.isi (by decide +kernel) (pa_cons (pv 0) (pa_cons (pe_bltn (v := .ty "int") (by rfl) T.int (by decide +kernel) rfl) pa_nil)))
      (pe_one (pe_not (pe_callB call_isi (by rfl) T.isi (by decide +kernel) (pa_cons (pv 0) (pa_cons (pe_bltn (v := .ty "bool") (by rfl) T.bool (by decide +kernel) rfl) pa_nil))))))), ?_⟩
    cases v with
    | non =>
      refine ⟨_, rfl, _, _, _, _, false, rfl, .ty _, .base .non, kit_ty (by decide +kernel), false, rfl, ?_⟩
      exact iteF k
    | bl b =>
      refine ⟨_, rfl, _, _, _, _, true, rfl, .ty _, .base (.bl b), kit_ty (by decide +kernel), true, rfl, ?_⟩
      refine iteT ?_
      exact ⟨_, rfl, _, _, _, _, true, rfl, .ty _, .base (.bl b), kit_ty (by decide +kernel), true, rfl, k⟩
    | int i =>
      refine ⟨_, rfl, _, _, _, _, true, rfl, .ty _, .base (.int i), kit_ty (by decide +kernel), true, rfl, ?_⟩
      refine iteT ?_
      exact ⟨_, rfl, _, _, _, _, false, rfl, .ty _, .base (.int i), kit_ty (by decide +kernel), false, rfl, k⟩
    | str z =>
      refine ⟨_, rfl, _, _, _, _, false, rfl, .ty _, .base (.str z), kit_ty (by decide +kernel), false, rfl, ?_⟩
      exact iteF k
    | _ => exact sv.elim
theorem ok_is_pointX (D : Defs K mg C fW fI fP fA fO fdW fdI fdP fdA fdO) (TX : TxtX P K mg C CI fII) : FnOk P w K mg base CX0 2 fP fdP ["thing"] (spIsPointX C) := by
  have GW : FnOk P w K mg base CX0 1 fW fdW ["value"] spWholeX := ok_wholeX D.FW D.T
  have T := D.T
  refine D.FP.ok scIsPoint (fun vs H Q E h => ?_) (fun cdv A outer s H vs Q E hr h => ?_)
  · obtain ⟨v, rfl, _⟩ := h
    rfl
  · obtain ⟨v, rfl, bad, k⟩ := h
    refine ⟨_, pss_cons (ps_if (pt_val (pe_callB call_isi (by rfl) T.isi (by decide +kernel) (pa_cons (pv 0) (pa_cons (pe_glob (v := .ref C) rfl T.mgC rfl) pa_nil)))) (pss_one (ps_ret pe_bl)) pss_nil)
      (pss_one (ps_ret (pe_and (pe_callB call_isi (by rfl) T.isi (by decide +kernel) (pa_cons (pv 0) (pa_cons (pe_bltn (v := .ty "tuple") (by rfl) T.tuple (by decide +kernel) rfl) pa_nil)))
        (pe_and (pe_cmpR op_eq (pe_callB call_len_seq (by rfl) T.len PySem.boot_len (pa_cons (pv 0) pa_nil)) pe_int (nomark _))
        (pe_and (pe_call GW hr rfl D.mW D.FW.kp D.bW .nil pass0 (pa_cons (pe_ix ix_tup (pv 0) pe_int (fun _ _ => rfl)) pa_nil))
        (pe_one (pe_call GW hr rfl D.mW D.FW.kp D.bW .nil pass0 (pa_cons (pe_ix ix_tup (pv 0) pe_int (fun _ _ => rfl)) pa_nil)))))))), ?_⟩
    cases bad with
    | non =>
      refine ⟨_, rfl, _, _, _, _, false, rfl, .own C, .base .non, TX.kNC, false, rfl, ?_⟩
      refine iteF ?_
      refine ⟨_, rfl, _, _, _, _, false, rfl, .ty _, .base .non, kit_ty (by decide +kernel), false, rfl, ?_⟩
      exact iteF k
    | bl b =>
      refine ⟨_, rfl, _, _, _, _, false, rfl, .own C, .base (.bl b), TX.kBC, false, rfl, ?_⟩
      refine iteF ?_
      refine ⟨_, rfl, _, _, _, _, false, rfl, .ty _, .base (.bl b), kit_ty (by decide +kernel), false, rfl, ?_⟩
      exact iteF k
    | int i =>
      refine ⟨_, rfl, _, _, _, _, false, rfl, .own C, .base (.int i), TX.kIC, false, rfl, ?_⟩
      refine iteF ?_
      refine ⟨_, rfl, _, _, _, _, false, rfl, .ty _, .base (.int i), kit_ty (by decide +kernel), false, rfl, ?_⟩
      exact iteF k
    | str z =>
      refine ⟨_, rfl, _, _, _, _, false, rfl, .own C, .base (.str z), TX.kSC, false, rfl, ?_⟩
      refine iteF ?_
      refine ⟨_, rfl, _, _, _, _, false, rfl, .ty _, .base (.str z), kit_ty (by decide +kernel), false, rfl, ?_⟩
      exact iteF k
    | lst h =>
      refine ⟨_, rfl, _, _, _, _, false, rfl, .own C, .base (.lst h), TX.kLC, false, rfl, ?_⟩
      refine iteF ?_
      refine ⟨_, rfl, _, _, _, _, false, rfl, .ty _, .base (.lst h), kit_ty (by decide +kernel), false, rfl, ?_⟩
      exact iteF k
    | @tup a xs h n =>
      refine ⟨_, rfl, _, _, _, _, false, rfl, .own C, .base (.tup h), T.kTC, false, rfl, ?_⟩
      refine iteF ?_
      refine ⟨_, rfl, _, _, _, _, true, rfl, .ty _, .base (.tup h), kit_ty (by decide +kernel), true, rfl, ?_⟩
      refine iteT ?_
      refine ⟨_, rfl, a, _, rfl, .inr (SqT.of h), rfl, _, rfl, ?_⟩
      have e : decide (V.int (xs.length : Int) = V.int 2) = false := decide_eq_false (fun q => n (by injection q with q; omega))
      rw [e]
      exact iteF k
    | @two a u v h su sv n =>
      refine ⟨_, rfl, _, _, _, _, false, rfl, .own C, .base (.tup h), T.kTC, false, rfl, ?_⟩
      refine iteF ?_
      refine ⟨_, rfl, _, _, _, _, true, rfl, .ty _, .base (.tup h), kit_ty (by decide +kernel), true, rfl, ?_⟩
      refine iteT ?_
      refine ⟨_, rfl, a, _, rfl, .inr (SqT.of h), rfl, true, rfl, ?_⟩
      refine iteT ?_
      refine ⟨_, rfl, a, _, _, _, rfl, rfl, SqT.of h, atI_nat (j := 0) rfl, u, rfl, su, _, rfl, ?_⟩
      cases hw : wholeV u with
      | false => exact iteF k
      | true =>
        rw [hw, Bool.true_and] at n
        refine iteT ?_
        refine ⟨_, rfl, a, _, _, _, rfl, rfl, SqT.of h, atI_nat (j := 1) rfl, v, rfl, sv, ?_⟩
        rw [n]
        exact k
/-- Point(u, v) of two that are not both integers -/
theorem ok_initX (D : Defs K mg C fW fI fP fA fO fdW fdI fdP fdA fdO) (TX : TxtX P K mg C CI fII) : FnOk P w K mg base (L2.CX P w) 3 fI fdI ["self", "x", "y"] (spInitX C CI) := by
  have GW : FnOk P w K mg base CX0 1 fW fdW ["value"] spWholeX := ok_wholeX D.FW D.T
  refine D.FI.okX scInit (fun vs H Q E h => ?_) (fun cdv A outer s H vs Q E hr h => ?_)
  · obtain ⟨p, u, v, rfl, _⟩ := h
    rfl
  · obtain ⟨p, u, v, rfl, su, sv, n, k⟩ := h
    have hr1 : Room 1 _ := hr.mono (by decide)
    refine ⟨_, pss_cons (ps_if (PW.pt (pw_or (pt_not (pt_val (pe_call GW hr1 rfl D.mW D.FW.kp D.bW .nil pass0 (pa_cons (pv 1) pa_nil)))) (pw_or1 (pt_not (pt_val (pe_call GW hr1 rfl D.mW D.FW.kp D.bW .nil pass0 (pa_cons (pv 2) pa_nil)))))))
        (pss_one (ps_raise_thing (W := fun cls d _ H => E cls d H) rfl TX.xI TX.gI hr (takes_of rfl rfl rfl rfl) (pa_cons (pe_tup (pa_cons (pv 1) (pa_cons (pv 2) pa_nil))) pa_nil))) pss_nil)
      (pss_cons ps_never (pss_one ps_never)), ?_⟩
    have fin : ∀ (t : Addr), H t = none → ∀ d, (upd H t (.tup [u, v])) d = none → E (.ref CI) (some d) (upd (upd H t (.tup [u, v])) d (XD (.ref t))) := fun t nt d nd => by
      refine k t d _ ((same_new nt).trans (same_new nd)) ?_ upd_same
      exact same_new nd _ _ upd_same
    refine ⟨_, rfl, u, rfl, su, _, rfl, ?_⟩
    cases hw : wholeV u with
    | false =>
      refine iteT ?_
      refine iteT ?_
      exact ⟨_, rfl, _, rfl, (by show 2 ≤ sizeLine; decide), fun t nt => ⟨_, rfl, fun d nd => fin t nt d nd⟩⟩
    | true =>
      rw [hw, Bool.true_and] at n
      refine iteF ?_
      refine ⟨_, rfl, v, rfl, sv, _, rfl, ?_⟩
      rw [n]
      refine iteT ?_
      exact ⟨_, rfl, _, rfl, (by show 2 ≤ sizeLine; decide), fun t nt => ⟨_, rfl, fun d nd => fin t nt d nd⟩⟩
theorem ok_as_pointX (D : Defs K mg C fW fI fP fA fO fdW fdI fdP fdA fdO) (TX : TxtX P K mg C CI fII) : FnOk P w K mg base (L2.CX P w) 3 fA fdA ["thing"] (spBadX CI) := by
  have GP : FnOk P w K mg base CX0 2 fP fdP ["thing"] (spIsPointX C) := ok_is_pointX D TX
  refine D.FA.okX scAsPoint (fun vs H Q E h => ?_) (fun cdv A outer s H vs Q E hr h => ?_)
  · obtain ⟨v, rfl, _⟩ := h
    rfl
  · obtain ⟨v, rfl, bad, k⟩ := h
    refine ⟨_, pss_cons (ps_if (pt_not (pt_val (pe_call GP hr rfl D.mP D.FP.kp D.bP .nil pass0 (pa_cons (pv 0) pa_nil))))
        (pss_one (ps_raise_thing (W := fun cls d _ H => E cls d H) rfl TX.xI TX.gI hr (takes_of rfl rfl rfl rfl) (pa_cons (pv 0) pa_nil))) pss_nil)
      (pss_cons ps_never (pss_one ps_never)), ?_⟩
    refine ⟨_, rfl, v, rfl, bad, false, rfl, ?_⟩
    refine iteT ?_
    exact ⟨_, rfl, _, rfl, fun d nd => k d _ (same_new nd) upd_same⟩
end
end Fo

set_option Elab.async false
set_option linter.all false
set_option maxRecDepth 100000
set_option maxHeartbeats 2000000
namespace Fo
open PySem L2
/-! ### the law's own helpers: the pool and its draws -/
abbrev sHand : Stmt := top 36
abbrev sDraw : Stmt := top 37
/-- what stands but at p stands -/
def But (p : Addr) (H H' : Hp) : Prop := ∀ b o, b ≠ p → H b = some o → H' b = some o
theorem But.refl (p : Addr) (H : Hp) : But p H H := fun _ _ _ h => h
theorem But.trans {p : Addr} {H H1 H2 : Hp} (a : But p H H1) (b : But p H1 H2) : But p H H2 := fun c o n h => b c o n (a c o n h)
theorem But.upd {p : Addr} {H : Hp} {o : HO} : But p H (upd H p o) := fun b u n h => by
  rw [upd_ne n]
  exact h
theorem But.of {p : Addr} {H H' : Hp} (e : Same H H') : But p H H' := fun b o _ h => e b o h
/-- from a heap that does not know p -/
theorem But.same {p : Addr} {H0 H H' : Hp} (h0 : H0 p = none) (e : Same H0 H) (b : But p H H') : Same H0 H' := fun c o h => b c o (ne_of_none h h0) (e c o h)
def PoolAt (p : Addr) (H : Hp) : Prop := ∃ i j : Int, H p = some (.lst [.int i, .int j]) ∧ 0 ≤ i ∧ 0 ≤ j ∧ j < 2147483647
theorem PoolAt.ex {p : Addr} {H H' : Hp} (e : Same H H') (h : PoolAt p H) : PoolAt p H' := by
  obtain ⟨i, j, h, r⟩ := h
  exact ⟨i, j, e _ _ h, r⟩
def spHand (K : PySem.W.Frag) : Sp := fun vs H Q _ => ∃ (a : Addr) (ns : List Int) (k : Int), vs = [.ref a, .int k] ∧ SqL K H a (ns.map V.int) ∧ ns.length ≤ 63 ∧ 0 ≤ k ∧ k ≤ 100 ∧
  ∀ p H', H p = none → Same H H' → PoolAt p H' → Q (.ref p) H'
def spDraw : Sp := fun vs H Q _ => ∃ (p : Addr) (m : Int), vs = [.ref p, .int m] ∧ PoolAt p H ∧ 0 < m ∧ m < 1073741824 ∧
  ∀ r H', 0 ≤ r → r < m → But p H H' → PoolAt p H' → Q (.int r) H'
structure TxtL (mg : Str → Option Value) : Prop where
  int : mg "int" = none
  range : mg "range" = none
  max : mg "max" = none
  min : mg "min" = none
  len : mg "len" = none
theorem head_int {ns : List Int} {lo hi : Option Int} : ∃ c : Int, atI (cutV (ns.map V.int) lo hi ++ [V.int 0]) 0 = some (V.int c) := by
  have e : cutV (ns.map V.int) lo hi = ((ns.drop (HT.sIx (ns.map V.int).length 0 lo)).take (HT.sIx (ns.map V.int).length (ns.map V.int).length hi - HT.sIx (ns.map V.int).length 0 lo)).map V.int := by
    unfold cutV
    rw [← List.map_drop, ← List.map_take]
  rw [e]
  cases (ns.drop (HT.sIx (ns.map V.int).length 0 lo)).take (HT.sIx (ns.map V.int).length (ns.map V.int).length hi - HT.sIx (ns.map V.int).length 0 lo) with
  | nil => exact ⟨0, atI_nat (j := 0) rfl⟩
  | cons c r => exact ⟨c, atI_nat (j := 0) rfl⟩
section
variable {P : Program} {w : World} {K : PySem.W.Frag} {mg : Str → Option Value} {base : Heap}
theorem scHand : FnScope ["script", "k", "cell", "seed"] ["script", "k"] (defScope sHand) := ⟨rfl, rfl, rfl, by decide +kernel, rfl, by decide +kernel, by decide +kernel⟩
theorem ok_hand {f : Addr} {fd : FuncData} (F : Fun K "_law_hand" "_law_hand" sHand f fd) (T : TxtL mg) : FnOk P w K mg base CX0 1 f fd ["script", "k"] (spHand K) := by
  refine F.ok scHand (fun vs H Q E h => ?_) (fun cdv A outer s H vs Q E hr h => ?_)
  · obtain ⟨a, ns, k, rfl, _⟩ := h
    rfl
  · obtain ⟨a, ns, k, rfl, hS, hl, k0, k1, q⟩ := h
    refine ⟨_, pss_cons (ps_set (i := 2) scHand.nd rfl (Or.inl rfl) (pe_ix ix_list (pe_op op_cat (pe_slice sl_list (pv 0) (po_some (pv 1)) (po_some (pe_op op_add (pv 1) pe_int))) (pe_lst (pa_cons pe_int pa_nil))) pe_int (fun _ _ => rfl)))
      (pss_cons (ps_set (i := 3) scHand.nd rfl (Or.inl rfl) (pe_op op_mod (pe_op op_mul (pe_op op_add (pe_op op_add (pe_op op_mod (pe_callTy call_int1 (by rfl) T.int (by decide +kernel) (pa_cons (pv 2) pa_nil)) pe_int) (pe_op op_mul pe_int (pv 1))) pe_int) pe_int) pe_int))
      (pss_one (ps_ret (pe_lst (pa_cons (pe_op op_mul (pe_callTy call_int1 (by rfl) T.int (by decide +kernel) (pa_cons (pe_cmpR op_ge (pv 2) (pe_op op_pow pe_int pe_int) (nomark _)) pa_nil)) (pv 2)) (pa_cons (pv 3) pa_nil)))))), ?_⟩
    obtain ⟨c, hc⟩ := head_int (ns := ns) (lo := some k) (hi := some (k + 1))
    -- cell
    refine ⟨_, rfl, _, rfl, _, rfl, _, rfl, _, _, rfl, rfl, _, rfl, a, _, rfl, hS, fun p1 n1 => ?_⟩
    refine ⟨(by show 1 ≤ sizeLine; decide), fun p2 n2 => ?_⟩
    have ne12 : p1 ≠ p2 := fun q => by rw [← q, upd_same] at n2; cases n2
    refine ⟨p1, p2, _, _, rfl, rfl, (by rw [upd_ne ne12, upd_same]), upd_same, ?_, fun p3 n3 => ?_⟩
    · have := cutV_length (ns.map V.int) (some k) (some (k + 1))
      rw [List.length_map] at this
      show _ + 1 ≤ sizeLine
      exact Nat.le_trans (Nat.add_le_add_right this 1) (Nat.le_trans (Nat.add_le_add_right hl 1) (by decide))
    refine ⟨p3, _, _, _, rfl, rfl, SqL.of upd_same, hc, ?_⟩
    have e1 : Same H (upd H p1 (.lst (cutV (ns.map V.int) (some k) (some (k + 1))))) := same_new n1
    have e2 := e1.trans (same_new (o := .lst [V.int 0]) n2)
    have e3 := e2.trans (same_new (o := .lst (cutV (ns.map V.int) (some k) (some (k + 1)) ++ [V.int 0])) n3)
    -- seed
    refine ⟨_, rfl, .inl ⟨_, rfl, ?_⟩⟩
    refine ⟨_, _, rfl, rfl, (by show (0 : Int) < 2147483647; decide), _, rfl, _, _, rfl, rfl, .inl ⟨by decide, by decide⟩, _, _, rfl, rfl, _, _, rfl, rfl, _, _, rfl, rfl, .inr ⟨by decide, by decide⟩, _, _, rfl, rfl, (by show (0 : Int) < 2147483629; decide), ?_⟩
    -- the list
    refine ⟨_, rfl, _, _, rfl, rfl, ⟨by decide, by decide, by decide⟩, _, _, rfl, rfl, .inr ⟨_, rfl, ?_⟩⟩
    refine ⟨_, rfl, _, _, rfl, rfl, .inl ?_, _, rfl, (by show 2 ≤ sizeLine; decide), fun p4 n4 => ?_⟩
    · split <;> exact ⟨by decide, by decide⟩
    · refine q p4 _ (Same.free e3 n4) (e3.trans (same_new n4)) ⟨_, _, upd_same, ?_, ?_, ?_⟩
      · by_cases hb : (10 : Int) ^ (18 : Int).toNat ≤ c
        · have h0 : (0 : Int) ≤ (10 : Int) ^ (18 : Int).toNat := by decide
          rw [decide_eq_true hb]
          show 0 ≤ 1 * c
          omega
        · rw [decide_eq_false hb]
          show 0 ≤ 0 * c
          omega
      · exact Int.emod_nonneg _ (by decide)
      · exact Int.lt_trans (Int.emod_lt_of_pos _ (by decide)) (by decide)
theorem scDraw : FnScope ["pool", "many", "found"] ["pool", "many"] (defScope sDraw) := ⟨rfl, rfl, rfl, by decide +kernel, rfl, by decide +kernel, by decide +kernel⟩
theorem ok_draw {f : Addr} {fd : FuncData} (F : Fun K "_law_draw" "_law_draw" sDraw f fd) (T : TxtL mg) : FnOk P w K mg base CX0 1 f fd ["pool", "many"] spDraw := by
  refine F.ok scDraw (fun vs H Q E h => ?_) (fun cdv A outer s H vs Q E hr h => ?_)
  · obtain ⟨p, m, rfl, _⟩ := h
    rfl
  · obtain ⟨p, m, rfl, ⟨i, j, hp, i0, j0, j1⟩, m0, m1, q⟩ := h
    refine ⟨_, pss_cons (ps_if (pt_cmpR op_gt (pe_ix ix_list (pv 0) pe_int (fun _ _ => rfl)) pe_int (nomark _))
        (pss_cons (ps_set (i := 2) scDraw.nd rfl (Or.inl rfl) (pe_op op_mod (pe_callTy call_int1 (by rfl) T.int (by decide +kernel) (pa_cons (pe_ix ix_list (pv 0) pe_int (fun _ _ => rfl)) pa_nil)) (pv 1)))
        (pss_cons (ps_asg (pe_op op_fdiv (pe_ix ix_list (pv 0) pe_int (fun _ _ => rfl)) (pv 1)) (pg_sub (pv 0) pe_int set_list))
        (pss_one (ps_ret (pv 2))))) pss_nil)
      (pss_cons (ps_asg (pe_op op_mod (pe_callTy call_int1 (by rfl) T.int (by decide +kernel) (pa_cons (pe_op op_add (pe_op op_mul (pe_ix ix_list (pv 0) pe_int (fun _ _ => rfl)) pe_int) pe_int) pa_nil)) pe_int) (pg_sub (pv 0) pe_int set_list))
      (pss_one (ps_ret (pe_op op_mod (pe_op op_fdiv (pe_op op_mod (pe_callTy call_int1 (by rfl) T.int (by decide +kernel) (pa_cons (pe_op op_mul (pe_ix ix_list (pv 0) pe_int (fun _ _ => rfl)) (pe_ix ix_list (pv 0) pe_int (fun _ _ => rfl))) pa_nil)) pe_int) pe_int) (pv 1))))), ?_⟩
    refine ⟨_, rfl, p, _, _, _, rfl, rfl, SqL.of hp, atI_nat (j := 0) rfl, _, _, rfl, rfl, _, rfl, ?_⟩
    refine ite2 (fun hi => ?_) (fun hi => ?_)
    · refine ⟨_, rfl, p, _, _, _, rfl, rfl, SqL.of hp, atI_nat (j := 0) rfl, .inl ⟨_, rfl, ?_⟩⟩
      refine ⟨_, rfl, _, _, rfl, rfl, m0, ?_⟩
      refine ⟨_, rfl, p, _, _, _, rfl, rfl, SqL.of hp, atI_nat (j := 0) rfl, _, rfl, _, _, rfl, rfl, ⟨m0, m1⟩, ?_⟩
      refine ⟨_, rfl, p, _, _, 0, rfl, rfl, hp, rfl, ?_⟩
      refine ⟨_, rfl, ?_⟩
      refine q _ _ (Int.emod_nonneg _ (by omega)) (Int.emod_lt_of_pos _ m0) But.upd ⟨_, _, upd_same, Int.ediv_nonneg i0 (by omega), j0, j1⟩
    · refine ⟨_, rfl, p, _, _, _, rfl, rfl, SqL.of hp, atI_nat (j := 1) rfl, _, _, rfl, rfl, .inr ⟨by decide, by decide⟩, _, _, rfl, rfl, .inl ⟨_, rfl, ?_⟩⟩
      refine ⟨_, _, rfl, rfl, (by show (0 : Int) < 2147483647; decide), ?_⟩
      refine ⟨_, rfl, p, _, _, 1, rfl, rfl, hp, rfl, ?_⟩
      have a0 : (0 : Int) ≤ (j * 48271 + 11) % 2147483647 := Int.emod_nonneg _ (by decide)
      have a1 : (j * 48271 + 11) % 2147483647 < (2147483647 : Int) := Int.emod_lt_of_pos _ (by decide)
      refine ⟨_, rfl, p, _, _, _, rfl, rfl, SqL.of upd_same, atI_nat (j := 1) rfl, _, rfl, p, _, _, _, rfl, rfl, SqL.of upd_same, atI_nat (j := 1) rfl, _, _, rfl, rfl, .inl ⟨by omega, by omega⟩, .inl ⟨_, rfl, ?_⟩⟩
      refine ⟨_, _, rfl, rfl, (by show (0 : Int) < 2147483629; decide), _, _, rfl, rfl, ⟨by decide, by decide⟩, _, rfl, _, _, rfl, rfl, m0, ?_⟩
      exact q _ _ (Int.emod_nonneg _ (by omega)) (Int.emod_lt_of_pos _ m0) But.upd ⟨_, _, upd_same, i0, a0, a1⟩
end
end Fo

set_option Elab.async false
set_option linter.all false
set_option maxRecDepth 100000
set_option maxHeartbeats 2000000
namespace Fo
open PySem L2
abbrev sPair : Stmt := top 38
def spPair : Sp := fun vs H Q _ => ∃ (p : Addr) (n : Int), vs = [.ref p, .int n] ∧ PoolAt p H ∧ 0 < n ∧ n < 1000 ∧
  ∀ q x y H', But p H H' → PoolAt p H' → H' q = some (.tup [.int x, .int y]) → -n ≤ x → x ≤ n → -n ≤ y → y ≤ n → Q (.ref q) H'
section
variable {P : Program} {w : World} {K : PySem.W.Frag} {mg : Str → Option Value} {base : Heap}
theorem scPair : FnScope ["pool", "size_here"] ["pool", "size_here"] (defScope sPair) := ⟨rfl, rfl, rfl, by decide +kernel, rfl, by decide +kernel, by decide +kernel⟩
theorem ok_pair {f fD : Addr} {fd fdD : FuncData} (F : Fun K "_law_pair" "_law_pair" sPair f fd) (T : TxtL mg) (FD : Fun K "_law_draw" "_law_draw" sDraw fD fdD) (bD : Binds K fdD ["pool", "many"] []) (mD : mg "_law_draw" = some (.ref fD)) :
    FnOk P w K mg base CX0 2 f fd ["pool", "size_here"] spPair := by
  have GD : FnOk P w K mg base CX0 1 fD fdD ["pool", "many"] spDraw := ok_draw FD T
  refine F.ok scPair (fun vs H Q E h => ?_) (fun cdv A outer s H vs Q E hr h => ?_)
  · obtain ⟨p, n, rfl, _⟩ := h
    rfl
  · obtain ⟨p, n, rfl, hp, n0, n1, q⟩ := h
    refine ⟨_, pss_one (ps_ret (pe_tup (pa_cons (pe_op op_sub (pe_call GD hr rfl mD FD.kp bD .nil pass0 (pa_cons (pv 0) (pa_cons (pe_op op_add (pe_op op_mul pe_int (pv 1)) pe_int) pa_nil))) (pv 1))
      (pa_cons (pe_op op_sub (pe_call GD hr rfl mD FD.kp bD .nil pass0 (pa_cons (pv 0) (pa_cons (pe_op op_add (pe_op op_mul pe_int (pv 1)) pe_int) pa_nil))) (pv 1)) pa_nil)))), ?_⟩
    refine ⟨_, rfl, _, rfl, _, _, rfl, rfl, .inl ⟨by decide, by decide⟩, _, _, rfl, rfl, p, _, rfl, hp, by omega, by omega, fun r1 H1 r10 r11 b1 p1 => ?_⟩
    refine ⟨_, rfl, _, _, rfl, rfl, ?_⟩
    refine ⟨_, rfl, _, rfl, _, _, rfl, rfl, .inl ⟨by decide, by decide⟩, _, _, rfl, rfl, p, _, rfl, p1, by omega, by omega, fun r2 H2 r20 r21 b2 p2 => ?_⟩
    refine ⟨_, rfl, _, _, rfl, rfl, (by show 2 ≤ sizeLine; decide), fun t ht => ?_⟩
    exact q t _ _ _ ((b1.trans b2).trans (But.of (same_new ht))) (p2.ex (same_new ht)) upd_same (by omega) (by omega) (by omega) (by omega)
end
end Fo

set_option Elab.async false
set_option linter.all false
set_option maxRecDepth 100000
set_option maxHeartbeats 2000000
namespace Fo
open PySem L2
/-! ### what raises, and the law's own door to it -/
theorem SqT.ex {K : PySem.W.Frag} {H H' : Hp} {a : Addr} {xs : List V} (e : Same H H') (h : SqT K H a xs) : SqT K H' a xs := by
  rcases h with (h | ⟨o, h⟩) | h
  · exact .inl (.inl (e _ _ h))
  · exact .inl (.inr ⟨o, e _ _ h⟩)
  · exact .inr h
mutual
theorem Dp.ex {K : PySem.W.Frag} {H H' : Hp} (e : Same H H') : ∀ (d : PyData) (v : V), Dp K H v d → Dp K H' v d
  | .none, _, h => by
    cases h
    exact .non
  | .bool b, _, h => by
    cases h
    exact .bl b
  | .int i, _, h => by
    cases h
    exact .int i
  | .str x, _, h => by
    cases h
    exact .str x
  | .list ds, _, h => by
    cases h with
    | lst hs ha => exact .lst (e.seq hs) (DpAll.ex e ds _ ha)
  | .tuple ds, _, h => by
    cases h with
    | tup hs ha => exact .tup (SqT.ex e hs) (DpAll.ex e ds _ ha)
  | .dict _, _, h => by cases h
theorem DpAll.ex {K : PySem.W.Frag} {H H' : Hp} (e : Same H H') : ∀ (ds : List PyData) (vs : List V), DpAll K H vs ds → DpAll K H' vs ds
  | [], _, h => by
    cases h
    exact .nil
  | d :: ds, _, h => by
    cases h with
    | cons h1 h2 => exact .cons (Dp.ex e d _ h1) (DpAll.ex e ds _ h2)
end
structure ShowsOk (d : PyData) : Prop where
  s : d.showable = true
  nd : d.hasDict = false
  dp : d.depth ≤ 60
  z : d.shown.length ≤ sizeLine
/-- what a call lets out is taken, whatever the slots -/
def EW (W : WX) (n : Nat) : XK := fun cls d H => ∀ σ : L2.St, σ.length = n → W cls d σ H
theorem passesW {X : Cx} {W : WX} {n : Nat} (tk : Takes X W) (hn : X.N.length = n) : Passes (L2.CX X.prog X.w) X (EW W n) := fun _ σ _ _ e s' I c => tk e s' (XE.of_call I (fun _ _ _ h => h σ (I.len.trans hn)) c)
theorem ix_tupK {X : Cx} {K : PySem.W.Frag} (h : X.K = K) : IxR X (rIxT K) := by
  subst h
  exact ix_tup
theorem int_eqT {i j : Int} (h : i = j) : decide (V.int i = V.int j) = true := decide_eq_true (by rw [h])
theorem int_eqF {i j : Int} (h : i ≠ j) : decide (V.int i = V.int j) = false := decide_eq_false (fun q => h (by injection q))
end Fo

set_option Elab.async false
set_option linter.all false
set_option maxRecDepth 100000
set_option maxHeartbeats 2000000
namespace Fo
open PySem L2
/-! ### of filledonce.directions: as_direction, lowest -/
abbrev sGcd : Stmt := top 10
abbrev sAsDir : Stmt := top 24
abbrev sLow : Stmt := top 25
def spGcd : Sp := fun vs H Q _ => ∃ a b : Int, vs = [.int a, .int b] ∧ Q (.int (Int.gcd a b : Int)) H
def spAsDir (C : Addr) : Sp := fun vs H Q _ => ∃ (v : V) (x y : Int), vs = [v] ∧ IsPt C v x y H ∧ Dir (x, y) ∧ ∀ w H', Same H H' → IsP C w x y H' → (IsP C v x y H → w = v) → Q w H'
def spLow (C : Addr) : Sp := fun vs H Q _ => ∃ (n : Nat) (v : V) (x y : Int), vs = [v] ∧ IsPt C v x y H ∧ Dir (x, y) ∧ 0 < n ∧ n ≤ 1000 ∧ Sm n x ∧ Sm n y ∧ ∀ w H', Same H H' → IsP C w (low (x, y)).1 (low (x, y)).2 H' → Q w H'
section
variable {P : Program} {w : World} {K : PySem.W.Frag} {mg : Str → Option Value} {base : Heap}
theorem scGcd : FnScope ["one", "other", "kept", "rest"] ["one", "other"] (defScope sGcd) := ⟨rfl, rfl, rfl, by decide +kernel, rfl, by decide +kernel, by decide +kernel⟩
theorem ok_gcd {f : Addr} {fd : FuncData} (F : Fun K "common_divisor" "common_divisor" sGcd f fd) (zA : mg "abs" = none) : FnOk P w K mg base CX0 1 f fd ["one", "other"] spGcd := by
  refine F.ok scGcd (fun vs H Q E h => ?_) (fun cdv A outer s H vs Q E hr h => ?_)
  · obtain ⟨a, b, rfl, _⟩ := h
    rfl
  · obtain ⟨a, b, rfl, k⟩ := h
    refine ⟨_, pss_cons (ps_set (i := 2) scGcd.nd rfl (Or.inl rfl) (pe_callB call_abs (by rfl) zA (by decide +kernel) (pa_cons (pv 0) pa_nil)))
      (pss_cons (ps_set (i := 3) scGcd.nd rfl (Or.inl rfl) (pe_callB call_abs (by rfl) zA (by decide +kernel) (pa_cons (pv 1) pa_nil)))
      (pss_cons (ps_while PassesOwn.never (pt_cmpR op_gt (pv 3) pe_int (nomark _)) (pss_one (ps_par (i := 2) (j := 3) (by rfl) scGcd.nd rfl rfl (by decide) rfl rfl (pa_cons (pv 3) (pa_cons (pe_op op_mod (pv 2) (pv 3)) pa_nil)) (by rfl))))
      (pss_one (ps_ret (pv 2))))), ?_⟩
    refine ⟨_, rfl, _, rfl, _, rfl, _, rfl, ?_⟩
    have ab : ∀ z : Int, (if z < 0 then -z else z) = (z.natAbs : Int) := fun z => by
      split <;> omega
    rw [ab a, ab b]
    refine ⟨fun m σ H' => ∃ p r : Nat, σ = [some (.int a), some (.int b), some (.int (p : Int)), some (.int (r : Int))] ∧ H' = H ∧ Nat.gcd p r = Int.gcd a b ∧ m = r, ⟨b.natAbs, a.natAbs, b.natAbs, rfl, rfl, rfl, rfl⟩, ?_⟩
    rintro m σ H' ⟨p, r, rfl, rfl, hg, rfl⟩
    refine ⟨_, rfl, _, _, rfl, rfl, _, rfl, ?_⟩
    by_cases h0 : (0 : Int) < (m : Int)
    · rw [decide_eq_true h0]
      refine iteT ?_
      refine ⟨fun σ' H2 => ∃ p' r' : Nat, σ' = [some (.int a), some (.int b), some (.int (p' : Int)), some (.int (r' : Int))] ∧ H2 = H' ∧ Nat.gcd p' r' = Int.gcd a b ∧ r' < m, ?_, ?_⟩
      · rintro σ' H'' ⟨p', r', rfl, rfl, hg', hl⟩
        exact ⟨r', hl, p', r', rfl, rfl, hg', rfl⟩
      · refine ⟨_, rfl, _, rfl, _, rfl, _, _, rfl, rfl, h0, _, _, rfl, ?_⟩
        refine ⟨m, p % m, ?_, rfl, ?_, Nat.mod_lt _ (by omega)⟩
        · rw [Int.natCast_emod]
          rfl
        · rw [← hg, Nat.gcd_comm p m, Nat.gcd_rec m p, Nat.gcd_comm]
    · rw [decide_eq_false h0]
      refine iteF ?_
      have m0 : m = 0 := by omega
      subst m0
      rw [Nat.gcd_zero_right] at hg
      refine ⟨_, rfl, ?_⟩
      rw [hg]
      exact k
variable {C fW fI fP fA fO : Addr} {fdW fdI fdP fdA fdO : FuncData}
theorem scAsDir : FnScope ["thing", "way"] ["thing"] (defScope sAsDir) := ⟨rfl, rfl, rfl, by decide +kernel, rfl, by decide +kernel, by decide +kernel⟩
theorem ok_as_dir {f : Addr} {fd : FuncData} (F : Fun K "as_direction" "as_direction" sAsDir f fd) (D : Defs K mg C fW fI fP fA fO fdW fdI fdP fdA fdO) : FnOk P w K mg base CX0 5 f fd ["thing"] (spAsDir C) := by
  have GA : FnOk P w K mg base CX0 4 fA fdA ["thing"] (spAsPoint C) := D.GA
  have T := D.T
  refine F.ok scAsDir (fun vs H Q E h => ?_) (fun cdv A outer s H vs Q E hr h => ?_)
  · obtain ⟨v, x, y, rfl, _⟩ := h
    rfl
  · obtain ⟨v, x, y, rfl, hv, hd, k⟩ := h
    refine ⟨_, pss_cons (ps_set (i := 1) scAsDir.nd rfl (Or.inl rfl) (pe_call GA hr rfl D.mA D.FA.kp D.bA .nil pass0 (pa_cons (pv 0) pa_nil)))
      (pss_cons (ps_if (PW.pt (pw_and (pt_cmpR op_eq (pe_fld (pv 1) rfl) pe_int (nomark _)) (pw_and1 (pt_cmpR op_eq (pe_fld (pv 1) rfl) pe_int (nomark _))))) (pss_one ps_never) pss_nil)
      (pss_one (ps_ret (pv 1)))), ?_⟩
    refine ⟨_, rfl, v, x, y, rfl, hv, fun w H' e hw hid => ?_⟩
    obtain ⟨b, dy, rfl, hb⟩ := id hw
    refine ⟨_, rfl, b, C, dy, _, _, rfl, hb, T.cl, T.nX, ptF_x _ _, rfl, _, rfl, ?_⟩
    have ni : ∀ i : Int, i ≠ 0 → decide (V.int i = V.int 0) = false := fun i hi => decide_eq_false (fun q => hi (by cases q; rfl))
    by_cases hx : x = 0
    · have hy : y ≠ 0 := by
        rcases hd with h | h
        · exact absurd hx h
        · exact h
      subst hx
      rw [decide_eq_true rfl]
      refine iteT ?_
      refine ⟨_, rfl, b, C, dy, _, _, rfl, hb, T.cl, T.nY, ptF_y _ _, rfl, _, rfl, ?_⟩
      rw [ni y hy]
      refine iteF ?_
      exact ⟨_, rfl, k _ H' e hw hid⟩
    · rw [ni x hx]
      refine iteF ?_
      refine iteF ?_
      exact ⟨_, rfl, k _ H' e hw hid⟩
/-- the defs of directions that halves need -/
structure DirL (K : PySem.W.Frag) (mg : Str → Option Value) (C fG fDr fL fX : Addr) (fdG fdDr fdL fdX : FuncData) : Prop where
  zA : mg "abs" = none
  FG : Fun K "common_divisor" "common_divisor" sGcd fG fdG
  bG : Binds K fdG ["one", "other"] []
  mG : mg "common_divisor" = some (.ref fG)
  FDr : Fun K "as_direction" "as_direction" sAsDir fDr fdDr
  bDr : Binds K fdDr ["thing"] []
  mDr : mg "as_direction" = some (.ref fDr)
  FL : Fun K "lowest" "lowest" sLow fL fdL
  bL : Binds K fdL ["direction"] []
  mL : mg "lowest" = some (.ref fL)
  FX : Fun K "cross" "Point.cross" sCross fX fdX
  bX : Binds K fdX ["self", "other"] []
  mX : Meth K C "cross" fX
variable {fG fDr fL fX : Addr} {fdG fdDr fdL fdX : FuncData}
theorem Sm.gcd {n : Nat} {x y : Int} (hd : Dir (x, y)) (hx : Sm n x) (hy : Sm n y) : (gcI (x, y)).natAbs < 2 ^ n := by
  unfold gcI
  unfold Sm at hx hy
  simp only [Int.natAbs_natCast]
  rcases hd with h | h
  · have h : x ≠ 0 := h
    exact Nat.lt_of_le_of_lt (Nat.le_of_dvd (by omega) (Nat.gcd_dvd_left ..)) hx
  · have h : y ≠ 0 := h
    exact Nat.lt_of_le_of_lt (Nat.le_of_dvd (by omega) (Nat.gcd_dvd_right ..)) hy
theorem scLow : FnScope ["direction", "way", "parts"] ["direction"] (defScope sLow) := ⟨rfl, rfl, rfl, by decide +kernel, rfl, by decide +kernel, by decide +kernel⟩
theorem DirL.GL (d : DirL K mg C fG fDr fL fX fdG fdDr fdL fdX) (D : Defs K mg C fW fI fP fA fO fdW fdI fdP fdA fdO) : FnOk P w K mg base CX0 6 fL fdL ["direction"] (spLow C) := by
  have GD : FnOk P w K mg base CX0 5 fDr fdDr ["thing"] (spAsDir C) := ok_as_dir d.FDr D
  have GG : FnOk P w K mg base CX0 1 fG fdG ["one", "other"] spGcd := ok_gcd d.FG d.zA
  have GI : FnOk P w K mg base CX0 2 fI fdI ["self", "x", "y"] (spInit C) := D.GI
  have T := D.T
  refine d.FL.ok scLow (fun vs H Q E h => ?_) (fun cdv A outer s H vs Q E hr h => ?_)
  · obtain ⟨n, v, x, y, rfl, _⟩ := h
    rfl
  · obtain ⟨n, v, x, y, rfl, hv, hd, n0, n1, sx, sy, k⟩ := h
    refine ⟨_, pss_cons (ps_set (i := 1) scLow.nd rfl (Or.inl rfl) (pe_call GD hr rfl d.mDr d.FDr.kp d.bDr .nil pass0 (pa_cons (pv 0) pa_nil)))
      (pss_cons (ps_set (i := 2) scLow.nd rfl (Or.inl rfl) (pe_call GG (hr.mono (by decide)) rfl d.mG d.FG.kp d.bG .nil pass0 (pa_cons (pe_fld (pv 1) rfl) (pa_cons (pe_fld (pv 1) rfl) pa_nil))))
      (pss_one (ps_ret (pe_make D.M GI (hr.mono (by decide)) rfl T.mgC D.bI .nil pass0 (pa_cons (pe_op op_fdivW (pe_fld (pv 1) rfl) (pv 2)) (pa_cons (pe_op op_fdivW (pe_fld (pv 1) rfl) (pv 2)) pa_nil)))))), ?_⟩
    refine ⟨_, rfl, v, x, y, rfl, hv, hd, fun w H' e hw _ => ?_⟩
    obtain ⟨b, dy, rfl, hb⟩ := hw
    refine ⟨_, rfl, b, C, dy, _, _, rfl, hb, T.cl, T.nX, ptF_x _ _, _, rfl, b, C, dy, _, _, rfl, hb, T.cl, T.nY, ptF_y _ _, x, y, rfl, ?_⟩
    have cd : ∀ i, CDivW i (gcI (x, y)) := fun i => wide_div (gcI_pos hd) (Sm.gcd hd sx sy) n0 (by omega)
    refine ⟨_, rfl, b, C, dy, _, _, rfl, hb, T.cl, T.nX, ptF_x _ _, _, rfl, _, _, rfl, rfl, cd _, _, rfl, b, C, dy, _, _, rfl, hb, T.cl, T.nY, ptF_y _ _, _, rfl, _, _, rfl, rfl, cd _, ?_⟩
    exact make_pt fun v H2 e2 h2 => k v H2 (e.trans e2) h2
end
end Fo

set_option Elab.async false
set_option linter.all false
set_option maxRecDepth 100000
set_option maxHeartbeats 2000000
namespace Fo
open PySem L2
/-! ### of filledonce.rules: Half -/
abbrev sIsDir : Stmt := top 23
abbrev sCall : Stmt := inClass (top 27) 0
abbrev sHInit : Stmt := inClass (top 28) 0
abbrev sWayG : Stmt := inClass (top 28) 1
abbrev sWayS : Stmt := inClass (top 28) 2
abbrev sAhG : Stmt := inClass (top 28) 3
abbrev sAhS : Stmt := inClass (top 28) 4
abbrev sHas : Stmt := inClass (top 28) 6
abbrev sHEq : Stmt := inClass (top 28) 8
abbrev sSetPart : Stmt := top 30
theorem ho_ : ¬ (("heading" : Str) = "onward") := by decide +kernel
def halfF (q : Addr) (o : Bool) : List (Str × V) := putF "onward" (.bl o) (putF "heading" (.ref q) [])
theorem halfF_h (q : Addr) (o : Bool) : (halfF q o).lookup ("heading" : Str) = some (.ref q) := by
  unfold halfF
  rw [lookup_putF, if_neg ho_, lookup_putF, if_pos rfl]
theorem halfF_o (q : Addr) (o : Bool) : (halfF q o).lookup ("onward" : Str) = some (.bl o) := by
  unfold halfF
  rw [lookup_putF, if_pos rfl]
theorem halfF_no (q : Addr) (o : Bool) {m : Str} (h1 : ¬ m = "onward") (h2 : ¬ m = "heading") : (halfF q o).lookup m = none := by
  unfold halfF
  rw [lookup_putF, if_neg h1, lookup_putF, if_neg h2]
  all_goals rfl
abbrev J2 := Int × Int
/-- a Half with this way (always shortest) and ahead -/
def IsH (C CH : Addr) (v : V) (w : J2) (o : Bool) (H : Hp) : Prop := ∃ a dx q, v = .ref a ∧ H a = some (.ins CH dx (halfF q o)) ∧ IsP C (.ref q) w.1 w.2 H
theorem IsH.ex {C CH : Addr} {v : V} {w : J2} {o : Bool} {H H' : Hp} (e : Same H H') (h : IsH C CH v w o H) : IsH C CH v w o H' := by
  obtain ⟨a, dx, q, rfl, h1, h2⟩ := h
  exact ⟨a, dx, q, rfl, e _ _ h1, h2.ex e⟩
theorem IsH.butP {C CH pl : Addr} {v : V} {w : J2} {o : Bool} {H H' : Hp} (p : PoolAt pl H) (b : But pl H H') (h : IsH C CH v w o H) : IsH C CH v w o H' := by
  obtain ⟨a, dx, q, rfl, h1, q', dq, e, h2⟩ := h
  obtain ⟨i, j, hp, _⟩ := p
  cases e
  exact ⟨a, dx, q, rfl, b _ _ (ne_of h1 hp (by intro z; cases z)) h1, q, dq, rfl, b _ _ (ne_of h2 hp (by intro z; cases z)) h2⟩
def hin (w : J2) (o : Bool) (d : J2) : Bool := if crs w d = 0 then decide (decide (0 < dot w d) = o) else decide (0 < crs w d)
def spIsDir (C : Addr) : Sp := fun vs H Q _ => ∃ (v : V) (d : J2), vs = [v] ∧ IsPt C v d.1 d.2 H ∧ Dir d ∧ ∀ H', Same H H' → Q (.bl true) H'
def spWayS (C CH : Addr) : Sp := fun vs H Q _ => ∃ (n : Nat) (p dx : Addr) (fs : List (Str × V)) (v : V) (d : J2), vs = [.ref p, v] ∧ H p = some (.ins CH dx fs) ∧ fs.length ≤ 900 ∧ IsPt C v d.1 d.2 H ∧ Dir d ∧ 0 < n ∧ n ≤ 1000 ∧ Sm n d.1 ∧ Sm n d.2 ∧
  ∀ q H', But p H H' → H' p = some (.ins CH dx (putF "heading" (.ref q) fs)) → IsP C (.ref q) (low d).1 (low d).2 H' → Q .non H'
def spAhS (CH : Addr) : Sp := fun vs H Q _ => ∃ (p dx : Addr) (fs : List (Str × V)) (o : Bool), vs = [.ref p, .bl o] ∧ H p = some (.ins CH dx fs) ∧ fs.length ≤ 900 ∧ Q .non (upd H p (.ins CH dx (putF "onward" (.bl o) fs)))
def spHInit (C CH : Addr) : Sp := fun vs H Q _ => ∃ (n : Nat) (p dx : Addr) (v : V) (d : J2) (o : Bool), vs = [.ref p, v, .bl o] ∧ H p = some (.ins CH dx []) ∧ IsPt C v d.1 d.2 H ∧ Dir d ∧ 0 < n ∧ n ≤ 1000 ∧ Sm n d.1 ∧ Sm n d.2 ∧
  ∀ q H', But p H H' → H' p = some (.ins CH dx (halfF q o)) → IsP C (.ref q) (low d).1 (low d).2 H' → Q .non H'
def spWayG (C CH : Addr) : Sp := fun vs H Q _ => ∃ (v : V) (w : J2) (o : Bool), vs = [v] ∧ IsH C CH v w o H ∧ ∀ u, IsP C u w.1 w.2 H → Q u H
def spAhG (C CH : Addr) : Sp := fun vs H Q _ => ∃ (v : V) (w : J2) (o : Bool), vs = [v] ∧ IsH C CH v w o H ∧ Q (.bl o) H
def spHas (C CH : Addr) : Sp := fun vs H Q _ => ∃ (n : Nat) (v u : V) (w d : J2) (o : Bool), vs = [v, u] ∧ IsH C CH v w o H ∧ IsP C u d.1 d.2 H ∧ 0 < n ∧ n ≤ 1000 ∧ Sm n w.1 ∧ Sm n w.2 ∧ Sm n d.1 ∧ Sm n d.2 ∧ ∀ H', Same H H' → Q (.bl (hin w o d)) H'
def spHCall (C CH : Addr) : Sp := fun vs H Q _ => ∃ (n : Nat) (v u : V) (w d : J2) (o : Bool), vs = [v, u] ∧ IsH C CH v w o H ∧ IsPt C u d.1 d.2 H ∧ Dir d ∧ 0 < n ∧ n ≤ 1000 ∧ Sm n w.1 ∧ Sm n w.2 ∧ Sm n d.1 ∧ Sm n d.2 ∧ ∀ H', Same H H' → Q (.bl (hin w o d)) H'
def spHEq (C CH : Addr) : Sp := fun vs H Q _ => ∃ (v u : V) (w w' : J2) (o o' : Bool), vs = [v, u] ∧ IsH C CH v w o H ∧ IsH C CH u w' o' H ∧ Q (.bl (decide (w = w') && decide (o = o'))) H
/-- what the top has written of Half -/
structure TxtH (K : PySem.W.Frag) (mg : Str → Option Value) (CH : Addr) : Prop where
  cl : Cls K CH
  nH : NoAttr K CH "heading"
  nO : NoAttr K CH "onward"
  mgH : mg "Half" = some (.ref CH)
  ha : PySem.W.findIn K (.ref CH) "__class__" = some (some (.builtin "object.__class__"))
  hm : PySem.W.mroIn K CH (.type "object") = some true
  kHH : PySem.W.kitOne K (.ref CH) (.ref CH) = some true
  bool : mg "bool" = none
  isi : mg "isinstance" = none
structure HDefs (K : PySem.W.Frag) (mg : Str → Option Value) (C CH fId fHI fWG fWS fAG fAS fHs fCl fEq pW pA : Addr) (fdId fdHI fdWG fdWS fdAG fdAS fdHs fdCl fdEq : FuncData) : Prop where
  TH : TxtH K mg CH
  FId : Fun K "is_direction" "is_direction" sIsDir fId fdId
  bId : Binds K fdId ["thing"] []
  mId : mg "is_direction" = some (.ref fId)
  MH : Mk K CH fHI
  FHI : Fun K "__init__" "Half.__init__" sHInit fHI fdHI
  bHI : Binds K fdHI ["self", "way", "ahead"] []
  FWG : Fun K "way" "Half.way" sWayG fWG fdWG
  bWG : Binds K fdWG ["self"] []
  pWG : PropOf K CH "way" pW fWG
  FWS : Fun K "way" "Half.way" sWayS fWS fdWS
  bWS : Binds K fdWS ["self", "value"] []
  pWS : PropSet K CH "way" pW fWS
  FAG : Fun K "ahead" "Half.ahead" sAhG fAG fdAG
  bAG : Binds K fdAG ["self"] []
  pAG : PropOf K CH "ahead" pA fAG
  FAS : Fun K "ahead" "Half.ahead" sAhS fAS fdAS
  bAS : Binds K fdAS ["self", "value"] []
  pAS : PropSet K CH "ahead" pA fAS
  FHs : Fun K "has" "Half.has" sHas fHs fdHs
  bHs : Binds K fdHs ["self", "way"] []
  mHs : Meth K CH "has" fHs
  FCl : Fun K "__call__" "Rule.__call__" sCall fCl fdCl
  bCl : Binds K fdCl ["self", "direction"] []
  oCl : OwnCall K CH fCl
  FEq : Fun K "__eq__" "Point.__eq__" sEq fEq fdEq
  bEq : Binds K fdEq ["self", "other"] []
  oEq : OwnEqC K C fEq
  ne : C ≠ CH
section
variable {P : Program} {w : World} {K : PySem.W.Frag} {mg : Str → Option Value} {base : Heap}
variable {C fW fI fP fA fO fG fDr fL fX CH fId fHI fWG fWS fAG fAS fHs fCl fEq pW pA fPm : Addr} {fdW fdI fdP fdA fdO fdG fdDr fdL fdX fdId fdHI fdWG fdWS fdAG fdAS fdHs fdCl fdEq fdPm : FuncData}
theorem scIsDir : FnScope ["thing"] ["thing"] (defScope sIsDir) := ⟨rfl, rfl, rfl, by decide +kernel, rfl, by decide +kernel, by decide +kernel⟩
theorem pair_no' (x y : Int) : (ptF x y).lookup ("pair" : Str) = none := ptF_no _ _ (by decide +kernel) (by decide +kernel)
theorem ok_is_dir (F : Fun K "is_direction" "is_direction" sIsDir fId fdId) (D : Defs K mg C fW fI fP fA fO fdW fdI fdP fdA fdO) (FPm : Fun K "pair" "Point.pair" sPairM fPm fdPm) (bPm : Binds K fdPm ["self"] []) (mPm : Meth K C "pair" fPm) : FnOk P w K mg base CX0 5 fId fdId ["thing"] (spIsDir C) := by
  have GP : FnOk P w K mg base CX0 2 fP fdP ["thing"] (spIsPoint C) := D.GP
  have GA : FnOk P w K mg base CX0 4 fA fdA ["thing"] (spAsPoint C) := D.GA
  have GM : FnOk P w K mg base CX0 1 fPm fdPm ["self"] (spPairM C) := ok_pairM FPm D.T
  refine F.ok scIsDir (fun vs H Q E h => ?_) (fun cdv A outer s H vs Q E hr h => ?_)
  · obtain ⟨v, d, rfl, _⟩ := h
    rfl
  · obtain ⟨v, d, rfl, hv, hd, k⟩ := h
    refine ⟨_, pss_one (ps_ret (pe_and (pe_call GP (hr.mono (by decide)) rfl D.mP D.FP.kp D.bP .nil pass0 (pa_cons (pv 0) pa_nil))
      (pe_one (pe_cmpR (op_neD hr.units) (pe_meth0 (pe_call GA hr rfl D.mA D.FA.kp D.bA .nil pass0 (pa_cons (pv 0) pa_nil)) D.T.cl mPm GM (hr.mono (by decide)) bPm .nil pass0) (pe_tup (pa_cons pe_int (pa_cons pe_int pa_nil))) (nomark _))))), ?_⟩
    refine ⟨_, rfl, v, d.1, d.2, rfl, hv, true, rfl, ?_⟩
    refine iteT ?_
    refine ⟨_, rfl, v, d.1, d.2, rfl, hv, fun w1 H1 e1 h1 _ => ?_⟩
    obtain ⟨a, dx, rfl, ha⟩ := id h1
    refine ⟨a, dx, _, rfl, ha, pair_no' _ _, _, _, _, rfl, h1, fun q H2 nq e2 hq => ?_⟩
    refine ⟨(by show 2 ≤ sizeLine; decide), fun t nt => ?_⟩
    have g := same_new (o := .tup [.int 0, .int 0]) nt
    refine ⟨.tuple [.int d.1, .int d.2], .tuple [.int 0, .int 0], .tup (SqT.of (g _ _ hq)) (.cons (.int _) (.cons (.int _) .nil)), .tup (SqT.of upd_same) (.cons (.int _) (.cons (.int _) .nil)), rfl, rfl, ?_⟩
    have e : PyData.eqv (.tuple [.int d.1, .int d.2]) (.tuple [.int 0, .int 0]) = false := by
      rcases hd with h | h
      · simp [PyData.eqv, PyData.eqvAll, h]
      · simp [PyData.eqv, PyData.eqvAll, h]
    rw [e]
    exact k _ ((e1.trans e2).trans g)
theorem scWayS : FnScope ["self", "value"] ["self", "value"] (defScope sWayS) := ⟨rfl, rfl, rfl, by decide +kernel, rfl, by decide +kernel, by decide +kernel⟩
theorem HDefs.GWS (d : HDefs K mg C CH fId fHI fWG fWS fAG fAS fHs fCl fEq pW pA fdId fdHI fdWG fdWS fdAG fdAS fdHs fdCl fdEq) (D : Defs K mg C fW fI fP fA fO fdW fdI fdP fdA fdO) (L : DirL K mg C fG fDr fL fX fdG fdDr fdL fdX) (FPm : Fun K "pair" "Point.pair" sPairM fPm fdPm) (bPm : Binds K fdPm ["self"] []) (mPm : Meth K C "pair" fPm) :
    FnOk P w K mg base CX0 7 fWS fdWS ["self", "value"] (spWayS C CH) := by
  have GId : FnOk P w K mg base CX0 5 fId fdId ["thing"] (spIsDir C) := ok_is_dir d.FId D FPm bPm mPm
  have GL : FnOk P w K mg base CX0 6 fL fdL ["direction"] (spLow C) := L.GL D
  refine d.FWS.ok scWayS (fun vs H Q E h => ?_) (fun cdv A outer s H vs Q E hr h => ?_)
  · obtain ⟨n, p, dx, fs, v, d', rfl, _⟩ := h
    rfl
  · obtain ⟨n, p, dx, fs, v, d', rfl, hp, hfs, hv, hd, n0, n1, s1, s2, k⟩ := h
    refine ⟨_, pss_cons (ps_if (pt_not (pt_val (pe_call GId (hr.mono (by decide)) rfl d.mId d.FId.kp d.bId .nil pass0 (pa_cons (pv 1) pa_nil)))) (pss_one ps_never) pss_nil)
      (pss_one (ps_fld (pv 0) (pe_call GL hr rfl L.mL L.FL.kp L.bL .nil pass0 (pa_cons (pv 1) pa_nil)) rfl)), ?_⟩
    refine ⟨_, rfl, v, d', rfl, hv, hd, fun H1 e1 => ⟨true, rfl, ?_⟩⟩
    refine iteF ?_
    refine ⟨_, rfl, n, v, d'.1, d'.2, rfl, hv.ex e1, hd, n0, n1, s1, s2, fun w2 H2 e2 h2 => ?_⟩
    have e := e1.trans e2
    refine ⟨_, rfl, p, CH, dx, fs, rfl, e _ _ hp, d.TH.cl, d.TH.nH, (by omega), ?_⟩
    obtain ⟨q, dq, rfl, hq⟩ := h2
    have nq : q ≠ p := fun z => by
      subst z
      rw [e _ _ hp] at hq
      injection hq with hq
      injection hq with h1 h2 h3
      exact d.ne h1.symm
    exact k q _ ((But.of e).trans But.upd) upd_same ⟨q, dq, rfl, by rw [upd_ne nq]; exact hq⟩
theorem scAhS : FnScope ["self", "value"] ["self", "value"] (defScope sAhS) := ⟨rfl, rfl, rfl, by decide +kernel, rfl, by decide +kernel, by decide +kernel⟩
theorem HDefs.GAS (d : HDefs K mg C CH fId fHI fWG fWS fAG fAS fHs fCl fEq pW pA fdId fdHI fdWG fdWS fdAG fdAS fdHs fdCl fdEq) : FnOk P w K mg base CX0 1 fAS fdAS ["self", "value"] (spAhS CH) := by
  refine d.FAS.ok scAhS (fun vs H Q E h => ?_) (fun cdv A outer s H vs Q E hr h => ?_)
  · obtain ⟨p, dx, fs, o, rfl, _⟩ := h
    rfl
  · obtain ⟨p, dx, fs, o, rfl, hp, hfs, k⟩ := h
    refine ⟨_, pss_cons (ps_if (pt_not (pt_val (pe_callB call_isi (by rfl) d.TH.isi (by decide +kernel) (pa_cons (pv 1) (pa_cons (pe_bltn (v := .ty "bool") (by rfl) d.TH.bool (by decide +kernel) rfl) pa_nil))))) (pss_one ps_never) pss_nil)
      (pss_one (ps_fld (pv 0) (pv 1) rfl)), ?_⟩
    refine ⟨_, rfl, _, _, _, _, true, rfl, .ty _, .base (.bl o), kit_ty (by decide +kernel), true, rfl, ?_⟩
    refine iteF ?_
    exact ⟨_, rfl, _, rfl, p, CH, dx, fs, rfl, hp, d.TH.cl, d.TH.nO, by omega, k⟩
theorem scHInit : FnScope ["self", "way", "ahead"] ["self", "way", "ahead"] (defScope sHInit) := ⟨rfl, rfl, rfl, by decide +kernel, rfl, by decide +kernel, by decide +kernel⟩
theorem HDefs.GHI (d : HDefs K mg C CH fId fHI fWG fWS fAG fAS fHs fCl fEq pW pA fdId fdHI fdWG fdWS fdAG fdAS fdHs fdCl fdEq) (D : Defs K mg C fW fI fP fA fO fdW fdI fdP fdA fdO) (L : DirL K mg C fG fDr fL fX fdG fdDr fdL fdX) (FPm : Fun K "pair" "Point.pair" sPairM fPm fdPm) (bPm : Binds K fdPm ["self"] []) (mPm : Meth K C "pair" fPm) :
    FnOk P w K mg base CX0 10 fHI fdHI ["self", "way", "ahead"] (spHInit C CH) := by
  have GW : FnOk P w K mg base CX0 7 fWS fdWS ["self", "value"] (spWayS C CH) := d.GWS D L FPm bPm mPm
  have GA : FnOk P w K mg base CX0 1 fAS fdAS ["self", "value"] (spAhS CH) := d.GAS
  refine d.FHI.ok scHInit (fun vs H Q E h => ?_) (fun cdv A outer s H vs Q E hr h => ?_)
  · obtain ⟨n, p, dx, v, d', o, rfl, _⟩ := h
    rfl
  · obtain ⟨n, p, dx, v, d', o, rfl, hp, hv, hd, n0, n1, s1, s2, k⟩ := h
    refine ⟨_, pss_cons (ps_prop (pv 0) (pv 1) d.TH.cl d.pWS GW hr d.bWS pass0) (pss_one (ps_prop (pv 0) (pv 2) d.TH.cl d.pAS GA (hr.mono (by decide)) d.bAS pass0)), ?_⟩
    refine ⟨_, rfl, _, rfl, p, dx, [], rfl, hp, n, p, dx, [], v, d', rfl, hp, by decide, hv, hd, n0, n1, s1, s2, fun q H1 b1 h1 i1 => ?_⟩
    refine ⟨_, rfl, _, rfl, p, dx, _, rfl, h1, p, dx, _, o, rfl, h1, (by show 1 ≤ 900; decide), ?_⟩
    obtain ⟨q', dq, e, hq⟩ := i1
    cases e
    have nq : q ≠ p := fun z => by
      subst z
      rw [h1] at hq
      injection hq with hq
      injection hq with h1 _ _
      exact d.ne h1.symm
    exact k q _ (b1.trans But.upd) upd_same ⟨q, dq, rfl, by rw [upd_ne nq]; exact hq⟩
theorem scWayG : FnScope ["self"] ["self"] (defScope sWayG) := ⟨rfl, rfl, rfl, by decide +kernel, rfl, by decide +kernel, by decide +kernel⟩
theorem HDefs.GWG (d : HDefs K mg C CH fId fHI fWG fWS fAG fAS fHs fCl fEq pW pA fdId fdHI fdWG fdWS fdAG fdAS fdHs fdCl fdEq) : FnOk P w K mg base CX0 1 fWG fdWG ["self"] (spWayG C CH) := by
  refine d.FWG.ok scWayG (fun vs H Q E h => ?_) (fun cdv A outer s H vs Q E hr h => ?_)
  · obtain ⟨v, w', o, rfl, _⟩ := h
    rfl
  · obtain ⟨v, w', o, rfl, ⟨a, dx, q, rfl, h1, h2⟩, k⟩ := h
    exact ⟨_, pss_one (ps_ret (pe_fld (pv 0) rfl)), ⟨_, rfl, a, CH, dx, _, _, rfl, h1, d.TH.cl, d.TH.nH, halfF_h _ _, k _ h2⟩⟩
theorem scAhG : FnScope ["self"] ["self"] (defScope sAhG) := ⟨rfl, rfl, rfl, by decide +kernel, rfl, by decide +kernel, by decide +kernel⟩
theorem HDefs.GAG (d : HDefs K mg C CH fId fHI fWG fWS fAG fAS fHs fCl fEq pW pA fdId fdHI fdWG fdWS fdAG fdAS fdHs fdCl fdEq) : FnOk P w K mg base CX0 1 fAG fdAG ["self"] (spAhG C CH) := by
  refine d.FAG.ok scAhG (fun vs H Q E h => ?_) (fun cdv A outer s H vs Q E hr h => ?_)
  · obtain ⟨v, w', o, rfl, _⟩ := h
    rfl
  · obtain ⟨v, w', o, rfl, ⟨a, dx, q, rfl, h1, h2⟩, k⟩ := h
    exact ⟨_, pss_one (ps_ret (pe_fld (pv 0) rfl)), ⟨_, rfl, a, CH, dx, _, _, rfl, h1, d.TH.cl, d.TH.nO, halfF_o _ _, k⟩⟩
theorem scHas : FnScope ["self", "way", "turn", "goes_along"] ["self", "way"] (defScope sHas) := ⟨rfl, rfl, rfl, by decide +kernel, rfl, by decide +kernel, by decide +kernel⟩
theorem HDefs.GHs (d : HDefs K mg C CH fId fHI fWG fWS fAG fAS fHs fCl fEq pW pA fdId fdHI fdWG fdWS fdAG fdAS fdHs fdCl fdEq) (D : Defs K mg C fW fI fP fA fO fdW fdI fdP fdA fdO) (L : DirL K mg C fG fDr fL fX fdG fdDr fdL fdX) : FnOk P w K mg base CX0 6 fHs fdHs ["self", "way"] (spHas C CH) := by
  have GX : FnOk P w K mg base CX0 5 fX fdX ["self", "other"] (spCross C) := ok_cross L.FX D
  have T := D.T
  refine d.FHs.ok scHas (fun vs H Q E h => ?_) (fun cdv A outer s H vs Q E hr h => ?_)
  · obtain ⟨n, v, u, w', d', o, rfl, _⟩ := h
    rfl
  · obtain ⟨n, v, u, w', d', o, rfl, ⟨a, dx, q, rfl, h1, h2⟩, hu, n0, n1, s1, s2, s3, s4, k⟩ := h
    refine ⟨_, pss_cons (ps_set (i := 2) scHas.nd rfl (Or.inl rfl) (pe_meth (pe_fld (pv 0) rfl) T.cl L.mX GX hr L.bX .nil pass0 (pa_cons (pv 1) pa_nil)))
      (pss_cons (ps_if (pt_cmpR op_ne (pv 2) pe_int (nomark _)) (pss_one (ps_ret (pe_cmpR op_gt (pv 2) pe_int (nomark _)))) pss_nil)
      (pss_cons (ps_set (i := 3) scHas.nd rfl (Or.inl rfl) (pe_cmpR op_gt (pe_op op_add (pe_op op_mulW (pe_fld (pe_fld (pv 0) rfl) rfl) (pe_fld (pv 1) rfl)) (pe_op op_mulW (pe_fld (pe_fld (pv 0) rfl) rfl) (pe_fld (pv 1) rfl))) pe_int (nomark _)))
      (pss_one (ps_ret (pe_cmpR op_eq (pv 3) (pe_fld (pv 0) rfl) (nomark _)))))), ?_⟩
    obtain ⟨q', dq, e, hq⟩ := id h2
    cases e
    refine ⟨_, rfl, a, CH, dx, _, _, rfl, h1, d.TH.cl, d.TH.nH, halfF_h _ _, q, dq, _, rfl, hq, cross_no _ _, _, rfl, n, _, u, w'.1, w'.2, d'.1, d'.2, rfl, h2, hu.pt, n0, n1, s1, s2, s3, s4, fun H1 e1 => ?_⟩
    refine ⟨_, rfl, rfl, _, rfl, ?_⟩
    have hc : w'.1 * d'.2 - w'.2 * d'.1 = crs w' d' := rfl
    rw [hc]
    by_cases hz : crs w' d' = 0
    · have e0 : decide (V.int (crs w' d') = V.int 0) = true := decide_eq_true (by rw [hz])
      rw [e0]
      refine iteF ?_
      obtain ⟨b, db, rfl, hb⟩ := hu.ex e1
      have h1' := e1 _ _ h1
      have hq' := e1 _ _ hq
      refine ⟨_, rfl, a, CH, dx, _, _, rfl, h1', d.TH.cl, d.TH.nH, halfF_h _ _, q, C, dq, _, _, rfl, hq', T.cl, T.nX, ptF_x _ _, _, rfl, b, C, db, _, _, rfl, hb, T.cl, T.nX, ptF_x _ _, _, _, rfl, rfl, s1.mul s3 n0 n1, ?_⟩
      refine ⟨_, rfl, a, CH, dx, _, _, rfl, h1', d.TH.cl, d.TH.nH, halfF_h _ _, q, C, dq, _, _, rfl, hq', T.cl, T.nY, ptF_y _ _, _, rfl, b, C, db, _, _, rfl, hb, T.cl, T.nY, ptF_y _ _, _, _, rfl, rfl, s2.mul s4 n0 n1, ?_⟩
      refine ⟨_, _, rfl, rfl, _, _, rfl, rfl, ?_⟩
      refine ⟨_, rfl, _, rfl, a, CH, dx, _, _, rfl, h1', d.TH.cl, d.TH.nO, halfF_o _ _, rfl, ?_⟩
      have e2 : decide (V.bl (decide (0 < w'.1 * d'.1 + w'.2 * d'.2)) = V.bl o) = hin w' o d' := by
        unfold hin
        rw [if_pos hz]
        show decide (V.bl (decide (0 < dot w' d')) = V.bl o) = _
        cases decide (0 < dot w' d') <;> cases o <;> rfl
      have kk := k H1 e1
      rw [← e2] at kk
      exact kk
    · have e0 : decide (V.int (crs w' d') = V.int 0) = false := decide_eq_false (fun z => hz (by injection z))
      rw [e0]
      refine iteT ?_
      refine ⟨_, rfl, _, _, rfl, rfl, ?_⟩
      have kk := k H1 e1
      unfold hin at kk
      rw [if_neg hz] at kk
      exact kk
theorem scCall : FnScope ["self", "direction"] ["self", "direction"] (defScope sCall) := ⟨rfl, rfl, rfl, by decide +kernel, rfl, by decide +kernel, by decide +kernel⟩
theorem HDefs.GCl (d : HDefs K mg C CH fId fHI fWG fWS fAG fAS fHs fCl fEq pW pA fdId fdHI fdWG fdWS fdAG fdAS fdHs fdCl fdEq) (D : Defs K mg C fW fI fP fA fO fdW fdI fdP fdA fdO) (L : DirL K mg C fG fDr fL fX fdG fdDr fdL fdX) : FnOk P w K mg base CX0 7 fCl fdCl ["self", "direction"] (spHCall C CH) := by
  have GH : FnOk P w K mg base CX0 6 fHs fdHs ["self", "way"] (spHas C CH) := d.GHs D L
  have GD : FnOk P w K mg base CX0 5 fDr fdDr ["thing"] (spAsDir C) := ok_as_dir L.FDr D
  refine d.FCl.ok scCall (fun vs H Q E h => ?_) (fun cdv A outer s H vs Q E hr h => ?_)
  · obtain ⟨n, v, u, w', d', o, rfl, _⟩ := h
    rfl
  · obtain ⟨n, v, u, w', d', o, rfl, hh, hu, hd, n0, n1, s1, s2, s3, s4, k⟩ := h
    refine ⟨_, pss_one (ps_ret (pe_meth (pv 0) d.TH.cl d.mHs GH hr d.bHs .nil pass0 (pa_cons (pe_call GD (hr.mono (by decide)) rfl L.mDr L.FDr.kp L.bDr .nil pass0 (pa_cons (pv 1) pa_nil)) pa_nil))), ?_⟩
    obtain ⟨a, dx, q, rfl, h1, h2⟩ := id hh
    refine ⟨_, rfl, a, dx, _, rfl, h1, halfF_no _ _ (by decide +kernel) (by decide +kernel), _, rfl, u, d'.1, d'.2, rfl, hu, hd, fun w1 H1 e1 h1' _ => ?_⟩
    exact ⟨n, _, w1, w', d', o, rfl, hh.ex e1, h1', n0, n1, s1, s2, s3, s4, fun H2 e2 => k H2 (e1.trans e2)⟩
theorem scHEq : FnScope ["self", "other"] ["self", "other"] (defScope sHEq) := ⟨rfl, rfl, rfl, by decide +kernel, rfl, by decide +kernel, by decide +kernel⟩
theorem ok_heq {f : Addr} {fd : FuncData} (F : Fun K "__eq__" "Half.__eq__" sHEq f fd) (d : HDefs K mg C CH fId fHI fWG fWS fAG fAS fHs fCl fEq pW pA fdId fdHI fdWG fdWS fdAG fdAS fdHs fdCl fdEq) (D : Defs K mg C fW fI fP fA fO fdW fdI fdP fdA fdO) : FnOk P w K mg base CX0 2 f fd ["self", "other"] (spHEq C CH) := by
  have GE : FnOk P w K mg base CX0 1 fEq fdEq ["self", "other"] (spEqP C) := ok_eq d.FEq D.T
  have TH := d.TH
  refine F.ok scHEq (fun vs H Q E h => ?_) (fun cdv A outer s H vs Q E hr h => ?_)
  · obtain ⟨v, u, w1, w2, o1, o2, rfl, _⟩ := h
    rfl
  · obtain ⟨v, u, w1, w2, o1, o2, rfl, ⟨a, dx, q, rfl, h1, i1⟩, ⟨b, dy, r, rfl, h2, i2⟩, k⟩ := h
    refine ⟨_, pss_one (ps_ret (pe_and (pe_callB call_isi (by rfl) TH.isi (by decide +kernel) (pa_cons (pv 1) (pa_cons (pe_glob (v := .ref CH) rfl TH.mgH rfl) pa_nil)))
      (pe_and (pe_cmpR (op_ownEq d.oEq GE hr d.bEq pass0) (pe_fld (pv 0) rfl) (pe_fld (pv 1) rfl) (nomark _)) (pe_one (pe_cmpR op_eq (pe_fld (pv 0) rfl) (pe_fld (pv 1) rfl) (nomark _)))))), ?_⟩
    refine ⟨_, rfl, _, _, _, _, true, rfl, .own CH, .base (.ins h2 TH.cl TH.ha D.T.hn D.T.htk TH.hm), TH.kHH, true, rfl, ?_⟩
    refine iteT ?_
    obtain ⟨q', dq, e, hq⟩ := id i1
    cases e
    obtain ⟨r', dr, e, hr'⟩ := id i2
    cases e
    refine ⟨_, rfl, a, CH, dx, _, _, rfl, h1, TH.cl, TH.nH, halfF_h _ _, _, rfl, b, CH, dy, _, _, rfl, h2, TH.cl, TH.nH, halfF_h _ _, q, dq, _, rfl, hq, .inl ⟨r, dr, _, rfl, hr'⟩, _, _, _, _, _, _, rfl, i1, .inl ⟨i2, _, rfl, ?_⟩⟩
    have ew : (decide (w1.1 = w2.1) && decide (w1.2 = w2.2)) = decide (w1 = w2) := by
      by_cases h : w1 = w2
      · subst h
        simp
      · rw [decide_eq_false h]
        by_cases h1 : w1.1 = w2.1
        · have h2 : w1.2 ≠ w2.2 := fun q => h (Prod.ext h1 q)
          simp [h2]
        · simp [h1]
    rw [ew]
    cases hw : decide (w1 = w2) with
    | false =>
      refine iteF ?_
      rw [hw, Bool.false_and] at k
      exact k
    | true =>
      refine iteT ?_
      refine ⟨_, rfl, a, CH, dx, _, _, rfl, h1, TH.cl, TH.nO, halfF_o _ _, _, rfl, b, CH, dy, _, _, rfl, h2, TH.cl, TH.nO, halfF_o _ _, rfl, ?_⟩
      rw [hw, Bool.true_and] at k
      have e2 : decide (V.bl o1 = V.bl o2) = decide (o1 = o2) := by cases o1 <;> cases o2 <;> rfl
      rw [e2]
      exact k
end
end Fo

set_option Elab.async false
set_option linter.all false
set_option maxRecDepth 100000
set_option maxHeartbeats 2000000
namespace Fo
open PySem L2
/-! ### lists of pairs -/
/-- a list of pairs -/
inductive TL (H : Hp) : List V → List (Int × Int) → Prop
  | nil : TL H [] []
  | cons {q : Addr} {p : Int × Int} {xs : List V} {ps : List (Int × Int)} : H q = some (.tup [.int p.1, .int p.2]) → TL H xs ps → TL H (.ref q :: xs) (p :: ps)
theorem TL.ex {H H' : Hp} {xs : List V} {ps : List (Int × Int)} (e : Same H H') (h : TL H xs ps) : TL H' xs ps := by
  induction h with
  | nil => exact .nil
  | cons h _ ih => exact .cons (e _ _ h) ih
theorem TL.but {H H' : Hp} {D : Addr} {ys : List V} {xs : List V} {ps : List (Int × Int)} (hD : H D = some (.lst ys)) (b : But D H H') (h : TL H xs ps) : TL H' xs ps := by
  induction h with
  | nil => exact .nil
  | cons h _ ih => exact .cons (b _ _ (ne_of h hD (by intro z; cases z)) h) ih
theorem TL.length {H : Hp} {xs : List V} {ps : List (Int × Int)} (h : TL H xs ps) : xs.length = ps.length := by
  induction h with
  | nil => rfl
  | cons h _ ih => rw [List.length_cons, List.length_cons, ih]
theorem TL.append {H : Hp} {xs ys : List V} {ps qs : List (Int × Int)} (h : TL H xs ps) (h2 : TL H ys qs) : TL H (xs ++ ys) (ps ++ qs) := by
  induction h with
  | nil => exact h2
  | cons h _ ih => exact .cons h ih
theorem TL.take {H : Hp} {xs : List V} {ps : List (Int × Int)} (h : TL H xs ps) : ∀ n, TL H (xs.take n) (ps.take n) := by
  induction h with
  | nil =>
    intro n
    rw [List.take_nil, List.take_nil]
    exact .nil
  | cons h _ ih =>
    intro n
    cases n with
    | zero => exact .nil
    | succ n => exact .cons h (ih n)
theorem TL.drop {H : Hp} {xs : List V} {ps : List (Int × Int)} (h : TL H xs ps) : ∀ n, TL H (xs.drop n) (ps.drop n) := by
  induction h with
  | nil =>
    intro n
    rw [List.drop_nil, List.drop_nil]
    exact .nil
  | cons h t ih =>
    intro n
    cases n with
    | zero => exact .cons h t
    | succ n => exact ih n
theorem TL.get {H : Hp} {xs : List V} {ps : List (Int × Int)} (h : TL H xs ps) : ∀ {i : Nat} {x : V}, xs[i]? = some x → ∃ q p, x = V.ref q ∧ ps[i]? = some p ∧ H q = some (.tup [.int p.1, .int p.2]) := by
  induction h with
  | nil =>
    intro i x hx
    simp at hx
  | @cons q p _ _ h _ ih =>
    intro i x hx
    cases i with
    | zero =>
      simp at hx
      exact ⟨q, p, hx.symm, rfl, h⟩
    | succ i =>
      simp at hx
      obtain ⟨q2, p2, e1, e2, e3⟩ := ih hx
      exact ⟨q2, p2, e1, by simpa using e2, e3⟩
def pD (p : Int × Int) : PyData := .tuple [.int p.1, .int p.2]
theorem TL.dp {K : PySem.W.Frag} {H : Hp} {xs : List V} {ps : List (Int × Int)} (h : TL H xs ps) : DpAll K H xs (ps.map pD) := by
  induction h with
  | nil => exact .nil
  | cons h _ ih => exact .cons (.tup (SqT.of h) (.cons (.int _) (.cons (.int _) .nil))) ih
theorem pDs_lay : ∀ ps : List (Int × Int), PyData.canLayAll0 (ps.map pD) = true
  | [] => by simp [PyData.canLayAll0]
  | p :: ps => by simp [PyData.canLayAll0, PyData.canLay0, pD, pDs_lay ps]
theorem pDs_depth : ∀ ps : List (Int × Int), PyData.depthAll (ps.map pD) ≤ 2
  | [] => by simp [PyData.depthAll]
  | p :: ps => by
    have h1 := pDs_depth ps
    have h2 : (pD p).depth ≤ 2 := by simp [pD, PyData.depth, PyData.depthAll]
    simp only [List.map_cons, PyData.depthAll]
    omega
theorem pDs_shaped (ps : List (Int × Int)) : SeqAt.shaped (.list (ps.map pD)) = true := by
  have h1 := pDs_depth ps
  have h2 : PyData.depth (.list (ps.map pD)) ≤ 64 := by
    simp only [PyData.depth]
    omega
  show (PyData.canLay0 (.list (ps.map pD)) && decide (PyData.depth (.list (ps.map pD)) ≤ 64)) = true
  rw [Bool.and_eq_true]
  exact ⟨by simp only [PyData.canLay0]; exact pDs_lay ps, decide_eq_true h2⟩
theorem pDs_refl (ps : List (Int × Int)) : PyData.eqv (.list (ps.map pD)) (.list (ps.map pD)) = true := SeqAt.eqv_refl _ (by simp only [PyData.canLay0]; exact pDs_lay ps)
theorem TL.of_get {H : Hp} : ∀ {xs : List V} {ps : List (Int × Int)}, xs.length = ps.length → (∀ (i : Nat) x, xs[i]? = some x → ∃ q p, x = V.ref q ∧ ps[i]? = some p ∧ H q = some (.tup [.int p.1, .int p.2])) → TL H xs ps
  | [], [], _, _ => .nil
  | [], p :: ps, h, _ => by simp at h
  | x :: xs, [], h, _ => by simp at h
  | x :: xs, p :: ps, h, hg => by
    obtain ⟨q, p', rfl, hp, hq⟩ := hg 0 x rfl
    cases hp
    exact .cons hq (TL.of_get (by simpa using h) fun i y hy => hg (i + 1) y (by simpa using hy))
theorem tup_ne {pl q : Addr} {H : Hp} {xs : List V} (hp : PoolAt pl H) (h : H q = some (.tup xs)) : q ≠ pl := by
  obtain ⟨i, j, hp, _⟩ := hp
  exact ne_of h hp (by intro z; cases z)
theorem pair_no (x y : Int) : (ptF x y).lookup ("pair" : Str) = none := ptF_no _ _ (by decide +kernel) (by decide +kernel)
end Fo

set_option Elab.async false
set_option linter.all false
set_option maxRecDepth 100000
set_option maxHeartbeats 2000000
namespace Fo
open PySem L2
/-! ### filledonce.triangles -/
abbrev sTInit : Stmt := inClass (top 32) 0
abbrev sCorners : Stmt := inClass (top 32) 1
abbrev sEdges : Stmt := inClass (top 32) 2
abbrev sArea : Stmt := inClass (top 32) 3
abbrev sMoved : Stmt := inClass (top 32) 4
abbrev sTIn : Stmt := inClass (top 32) 5
abbrev sTEq : Stmt := inClass (top 32) 6
abbrev I2 := Int × Int
def sd (a b p : I2) : Int := sideI a.1 a.2 b.1 b.2 p.1 p.2
def Sm2 (n : Nat) (p : I2) : Prop := Sm n p.1 ∧ Sm n p.2
theorem Sm2.up {n m : Nat} {p : I2} (h : Sm2 n p) (l : n ≤ m) : Sm2 m p := ⟨h.1.up l, h.2.up l⟩
def tipF (l : Addr) : List (Str × V) := putF "tips" (.ref l) []
theorem tipF_tips (l : Addr) : (tipF l).lookup ("tips" : Str) = some (.ref l) := by
  unfold tipF
  rw [lookup_putF, if_pos rfl]
theorem tipF_no (l : Addr) {m : Str} (h : ¬ m = "tips") : (tipF l).lookup m = none := by
  unfold tipF
  rw [lookup_putF, if_neg h]
  rfl
/-- three Points -/
def Three (C : Addr) (v1 v2 v3 : V) (a b c : I2) (H : Hp) : Prop := IsP C v1 a.1 a.2 H ∧ IsP C v2 b.1 b.2 H ∧ IsP C v3 c.1 c.2 H
theorem Three.ex {C : Addr} {v1 v2 v3 : V} {a b c : I2} {H H' : Hp} (e : Same H H') (h : Three C v1 v2 v3 a b c H) : Three C v1 v2 v3 a b c H' := ⟨h.1.ex e, h.2.1.ex e, h.2.2.ex e⟩
/-- a Triangle with these corners -/
def IsT (C CT : Addr) (v : V) (a b c : I2) (H : Hp) : Prop := ∃ t dx l v1 v2 v3, v = .ref t ∧ H t = some (.ins CT dx (tipF l)) ∧ H l = some (.lst [v1, v2, v3]) ∧ Three C v1 v2 v3 a b c H
theorem IsT.ex {C CT : Addr} {v : V} {a b c : I2} {H H' : Hp} (e : Same H H') (h : IsT C CT v a b c H) : IsT C CT v a b c H' := by
  obtain ⟨t, dx, l, v1, v2, v3, rfl, h1, h2, h3⟩ := h
  exact ⟨t, dx, l, v1, v2, v3, rfl, e _ _ h1, e _ _ h2, h3.ex e⟩
def IsPt2 (C : Addr) (v : V) (p : I2) (H : Hp) : Prop := IsPt C v p.1 p.2 H
theorem IsPt2.ex {C : Addr} {v : V} {p : I2} {H H' : Hp} (e : Same H H') (h : IsPt2 C v p H) : IsPt2 C v p H' := IsPt.ex e h
/-- b and c, turned against the clock -/
def onB (a b c : I2) : I2 := if 0 < sd a b c then b else c
def onC (a b c : I2) : I2 := if 0 < sd a b c then c else b
def spTInit (C CT : Addr) : Sp := fun vs H Q _ => ∃ (n : Nat) (p dx : Addr) (u v w : V) (a b c : I2), vs = [.ref p, u, v, w] ∧ H p = some (.ins CT dx []) ∧ IsPt2 C u a H ∧ IsPt2 C v b H ∧ IsPt2 C w c H ∧ n < 1000 ∧ Sm2 n a ∧ Sm2 n b ∧ Sm2 n c ∧ sd a b c ≠ 0 ∧
  ∀ l v1 v2 v3 H', But p H H' → H' p = some (.ins CT dx (tipF l)) → H' l = some (.lst [v1, v2, v3]) → Three C v1 v2 v3 a (onB a b c) (onC a b c) H' → Q .non H'
def spCorners (C CT : Addr) : Sp := fun vs H Q _ => ∃ (t : V) (a b c : I2), vs = [t] ∧ IsT C CT t a b c H ∧ ∀ l v1 v2 v3 H', H l = none → Same H H' → H' l = some (.lst [v1, v2, v3]) → Three C v1 v2 v3 a b c H' → Q (.ref l) H'
/-- the list of the edges -/
def IsE (C : Addr) (v : V) (a b c : I2) (H : Hp) : Prop := ∃ l e1 e2 e3 v1 v2 v3, v = .ref l ∧ H l = some (.lst [.ref e1, .ref e2, .ref e3]) ∧ H e1 = some (.tup [v1, v2]) ∧ H e2 = some (.tup [v2, v3]) ∧ H e3 = some (.tup [v3, v1]) ∧ Three C v1 v2 v3 a b c H
theorem IsE.ex {C : Addr} {v : V} {a b c : I2} {H H' : Hp} (e : Same H H') (h : IsE C v a b c H) : IsE C v a b c H' := by
  obtain ⟨l, e1, e2, e3, v1, v2, v3, rfl, h1, h2, h3, h4, h5⟩ := h
  exact ⟨l, e1, e2, e3, v1, v2, v3, rfl, e _ _ h1, e _ _ h2, e _ _ h3, e _ _ h4, h5.ex e⟩
def spEdges (C CT : Addr) : Sp := fun vs H Q _ => ∃ (t : V) (a b c : I2), vs = [t] ∧ IsT C CT t a b c H ∧ ∀ v H', Same H H' → IsE C v a b c H' → Q v H'
def spArea (C CT : Addr) : Sp := fun vs H Q _ => ∃ (n : Nat) (t : V) (a b c : I2), vs = [t] ∧ IsT C CT t a b c H ∧ n < 1000 ∧ Sm2 n a ∧ Sm2 n b ∧ Sm2 n c ∧ ∀ H', Same H H' → Q (.int (sd a b c)) H'
def mv (p q : I2) : I2 := (p.1 + q.1, p.2 + q.2)
def spMoved (C CT : Addr) : Sp := fun vs H Q _ => ∃ (n : Nat) (t u : V) (a b c by' : I2), vs = [t, u] ∧ IsT C CT t a b c H ∧ IsPt2 C u by' H ∧ n < 999 ∧ Sm2 n a ∧ Sm2 n b ∧ Sm2 n c ∧ Sm2 n by' ∧ 0 < sd a b c ∧ ∀ v H', Same H H' → IsT C CT v (mv a by') (mv b by') (mv c by') H' → Q v H'
def inT (a b c p : I2) : Bool := decide (0 ≤ sd a b p) && (decide (0 ≤ sd b c p) && decide (0 ≤ sd c a p))
/-- the edge (a, b) is one of d e f -/
def hasE (a b d e f : I2) : Bool := (decide (d = a) && decide (e = b)) || ((decide (e = a) && decide (f = b)) || (decide (f = a) && decide (d = b)))
def eqT (a b c d e f : I2) : Bool := hasE a b d e f && hasE b c d e f
def spTEq (C CT : Addr) : Sp := fun vs H Q _ => ∃ (t u : V) (a b c : I2), vs = [t, u] ∧ IsT C CT t a b c H ∧ ((∃ d e f : I2, IsT C CT u d e f H ∧ ∀ H', Same H H' → Q (.bl (eqT a b c d e f)) H') ∨ ((∃ q xs, u = .ref q ∧ H q = some (.lst xs)) ∧ Q (.bl false) H))
/-- what the top has written of Triangle -/
structure TxtT (K : PySem.W.Frag) (mg : Str → Option Value) (CT : Addr) : Prop where
  cl : Cls K CT
  nT : NoAttr K CT "tips"
  mgT : mg "Triangle" = some (.ref CT)
  list : mg "list" = none
  all : mg "all" = none
  ha : PySem.W.findIn K (.ref CT) "__class__" = some (some (.builtin "object.__class__"))
  hm : PySem.W.mroIn K CT (.type "object") = some true
  kLT : PySem.W.kitOne K (.type "list") (.ref CT) = some false
  kTT : PySem.W.kitOne K (.ref CT) (.ref CT) = some true
/-- the defs of Triangle -/
structure TDefs (K : PySem.W.Frag) (mg : Str → Option Value) (C CT fS fTI fCo fEd fAr fEq fAd pAr : Addr) (fdS fdTI fdCo fdEd fdAr fdEq fdAd : FuncData) : Prop where
  TT : TxtT K mg CT
  FS : Fun K "side" "side" sSide fS fdS
  bS : Binds K fdS ["a", "b", "point"] []
  mS : mg "side" = some (.ref fS)
  MT : Mk K CT fTI
  FTI : Fun K "__init__" "Triangle.__init__" sTInit fTI fdTI
  bTI : Binds K fdTI ["self", "a", "b", "c"] []
  FCo : Fun K "corners" "Triangle.corners" sCorners fCo fdCo
  bCo : Binds K fdCo ["self"] []
  mCo : Meth K CT "corners" fCo
  FEd : Fun K "edges" "Triangle.edges" sEdges fEd fdEd
  bEd : Binds K fdEd ["self"] []
  mEd : Meth K CT "edges" fEd
  FAr : Fun K "area2" "Triangle.area2" sArea fAr fdAr
  bAr : Binds K fdAr ["self"] []
  pAr : PropOf K CT "area2" pAr fAr
  FEq : Fun K "__eq__" "Point.__eq__" sEq fEq fdEq
  bEq : Binds K fdEq ["self", "other"] []
  oEq : PySem.W.findIn K (.ref C) "__eq__" = some (some (.ref fEq))
  iEq : PySem.W.isFn K (.ref fEq) = true
  FAd : Fun K "__add__" "Point.__add__" sAdd fAd fdAd
  bAd : Binds K fdAd ["self", "other"] []
  oAd : OwnOp K C .Add fAd
section
variable {P : Program} {w : World} {K : PySem.W.Frag} {mg : Str → Option Value} {base : Heap}
variable {C fW fI fP fA fO CT fS fTI fCo fEd fAr fEq fAd pAr : Addr} {fdW fdI fdP fdA fdO fdS fdTI fdCo fdEd fdAr fdEq fdAd : FuncData}
theorem scTInit : FnScope ["self", "a", "b", "c", "first", "second", "third", "turn"] ["self", "a", "b", "c"] (defScope sTInit) := ⟨rfl, rfl, rfl, by decide +kernel, rfl, by decide +kernel, by decide +kernel⟩
theorem TDefs.GTI (d : TDefs K mg C CT fS fTI fCo fEd fAr fEq fAd pAr fdS fdTI fdCo fdEd fdAr fdEq fdAd) (D : Defs K mg C fW fI fP fA fO fdW fdI fdP fdA fdO) : FnOk P w K mg base CX0 8 fTI fdTI ["self", "a", "b", "c"] (spTInit C CT) := by
  have GA : FnOk P w K mg base CX0 4 fA fdA ["thing"] (spAsPoint C) := D.GA
  have GS : FnOk P w K mg base CX0 7 fS fdS ["a", "b", "point"] (spSide C) := ok_side d.FS D
  refine d.FTI.ok scTInit (fun vs H Q E h => ?_) (fun cdv A outer s H vs Q E hr h => ?_)
  · obtain ⟨n, p, dx, u, v, w, a, b, c, rfl, _⟩ := h
    rfl
  · obtain ⟨n, p, dx, u, v, w, a, b, c, rfl, hp, hu, hv, hw, n1, sa, sb, sc, ne, k⟩ := h
    have hr4 : Room 4 _ := hr.mono (by decide)
    refine ⟨_, pss_cons (ps_set (i := 4) scTInit.nd rfl (Or.inl rfl) (pe_call GA hr4 rfl D.mA D.FA.kp D.bA .nil pass0 (pa_cons (pv 1) pa_nil)))
      (pss_cons (ps_set (i := 5) scTInit.nd rfl (Or.inl rfl) (pe_call GA hr4 rfl D.mA D.FA.kp D.bA .nil pass0 (pa_cons (pv 2) pa_nil)))
      (pss_cons (ps_set (i := 6) scTInit.nd rfl (Or.inl rfl) (pe_call GA hr4 rfl D.mA D.FA.kp D.bA .nil pass0 (pa_cons (pv 3) pa_nil)))
      (pss_cons (ps_set (i := 7) scTInit.nd rfl (Or.inl rfl) (pe_call GS (hr.mono (by decide)) rfl d.mS d.FS.kp d.bS .nil pass0 (pa_cons (pv 4) (pa_cons (pv 5) (pa_cons (pv 6) pa_nil)))))
      (pss_cons (ps_if (pt_cmpR op_eq (pv 7) pe_int (nomark _)) (pss_one ps_never) pss_nil)
      (pss_one (ps_if (pt_cmpR op_gt (pv 7) pe_int (nomark _)) (pss_one (ps_fld (pv 0) (pe_lst (pa_cons (pv 4) (pa_cons (pv 5) (pa_cons (pv 6) pa_nil)))) rfl)) (pss_one (ps_fld (pv 0) (pe_lst (pa_cons (pv 4) (pa_cons (pv 6) (pa_cons (pv 5) pa_nil)))) rfl)))))))), ?_⟩
    refine ⟨_, rfl, u, a.1, a.2, rfl, hu, fun w1 H1 e1 h1 _ => ?_⟩
    refine ⟨_, rfl, v, b.1, b.2, rfl, hv.ex e1, fun w2 H2 e2 h2 _ => ?_⟩
    refine ⟨_, rfl, w, c.1, c.2, rfl, (hw.ex e1).ex e2, fun w3 H3 e3 h3 _ => ?_⟩
    have t1 := (h1.ex e2).ex e3
    have t2 := h2.ex e3
    refine ⟨_, rfl, _, rfl, _, rfl, n, w1, w2, w3, a.1, a.2, b.1, b.2, c.1, c.2, rfl, t1.pt, t2.pt, h3.pt, n1, sa.1, sa.2, sb.1, sb.2, sc.1, sc.2, fun H4 e4 => ?_⟩
    have e := ((e1.trans e2).trans e3).trans e4
    refine ⟨_, rfl, rfl, _, rfl, ?_⟩
    have nz : decide (V.int (sideI a.1 a.2 b.1 b.2 c.1 c.2) = V.int 0) = false := decide_eq_false (fun q => ne (by injection q))
    rw [nz]
    refine iteF ?_
    refine ⟨_, rfl, _, _, rfl, rfl, _, rfl, ?_⟩
    have fin : ∀ (l : Addr) (y z : V) (qb qc : I2), H4 l = none → IsP C y qb.1 qb.2 H4 → IsP C z qc.1 qc.2 H4 → qb = onB a b c → qc = onC a b c → Q .non (upd (upd H4 l (.lst [w1, y, z])) p (.ins CT dx (tipF l))) := fun l y z qb qc nl hy hz e5 e6 => by
      subst e5 e6
      have g := same_new (o := .lst [w1, y, z]) nl
      have pl : (upd H4 l (.lst [w1, y, z])) p = some (.ins CT dx []) := g _ _ (e _ _ hp)
      have np : l ≠ p := fun q => by
        rw [q, e _ _ hp] at nl
        cases nl
      have one : ∀ (v : V) (x y' : Int), IsP C v x y' H4 → IsP C v x y' (upd (upd H4 l (.lst [w1, y, z])) p (.ins CT dx (tipF l))) := fun v x y' hv => by
        obtain ⟨q, dq, rfl, hq⟩ := hv
        refine ⟨q, dq, rfl, ?_⟩
        have nq : q ≠ p := fun z => by
          rw [z, e _ _ hp] at hq
          injection hq with hq
          injection hq with _ _ h3
          have h4 := congrArg (List.lookup ("x" : Str)) h3
          rw [ptF_x] at h4
          cases h4
        rw [upd_ne nq]
        exact g _ _ hq
      refine k l w1 y z _ ((But.of (e.trans g)).trans But.upd) upd_same ?_ ⟨one _ _ _ ((t1.ex e4)), one _ _ _ hy, one _ _ _ hz⟩
      rw [upd_ne np]
      exact upd_same
    have hb4 := t2.ex e4
    have hc4 := h3.ex e4
    by_cases hs : 0 < sd a b c
    · have hd : decide ((0 : Int) < sideI a.1 a.2 b.1 b.2 c.1 c.2) = true := decide_eq_true hs
      rw [hd]
      refine iteT ?_
      refine ⟨_, rfl, _, rfl, _, rfl, (by show 3 ≤ sizeLine; decide), fun l nl => ?_⟩
      refine ⟨_, rfl, p, CT, dx, [], rfl, same_new nl _ _ (e _ _ hp), d.TT.cl, d.TT.nT, (by show 0 < 1000; decide), ?_⟩
      exact fin l w2 w3 b c nl hb4 hc4 (by unfold onB; rw [if_pos hs]) (by unfold onC; rw [if_pos hs])
    · have hd : decide ((0 : Int) < sideI a.1 a.2 b.1 b.2 c.1 c.2) = false := decide_eq_false hs
      rw [hd]
      refine iteF ?_
      refine ⟨_, rfl, _, rfl, _, rfl, (by show 3 ≤ sizeLine; decide), fun l nl => ?_⟩
      refine ⟨_, rfl, p, CT, dx, [], rfl, same_new nl _ _ (e _ _ hp), d.TT.cl, d.TT.nT, (by show 0 < 1000; decide), ?_⟩
      exact fin l w3 w2 c b nl hc4 hb4 (by unfold onB; rw [if_neg hs]) (by unfold onC; rw [if_neg hs])
end
end Fo

set_option Elab.async false
set_option linter.all false
set_option maxRecDepth 100000
set_option maxHeartbeats 2000000
namespace Fo
open PySem L2
/-! ### the methods of Triangle -/
section
variable {P : Program} {w : World} {K : PySem.W.Frag} {mg : Str → Option Value} {base : Heap}
variable {C fW fI fP fA fO CT fS fTI fCo fEd fAr fEq fAd pAr : Addr} {fdW fdI fdP fdA fdO fdS fdTI fdCo fdEd fdAr fdEq fdAd : FuncData}
/-- Triangle(u, v, w): spTInit's reading at a new instance -/
theorem make_tri {H : Hp} {u v w : V} {a b c : I2} {n : Nat} {Q : VK} {E : XK} (hu : IsPt2 C u a H) (hv : IsPt2 C v b H) (hw : IsPt2 C w c H) (n1 : n < 1000) (sa : Sm2 n a) (sb : Sm2 n b) (sc : Sm2 n c) (ne : sd a b c ≠ 0)
    (k : ∀ t H', Same H H' → IsT C CT t a (onB a b c) (onC a b c) H' → Q t H') :
    ∀ x dx, H x = none → H dx = none → dx ≠ x → spTInit C CT (.ref x :: ([u, v, w] ++ [])) (upd (upd H dx (.own x)) x (.ins CT dx [])) (fun v H2 => v = .non ∧ Q (.ref x) H2) E := fun x dx nx nd ndx => by
  have g1 : Same H (upd (upd H dx (.own x)) x (.ins CT dx [])) := (same_new nd).trans (same_new (by rw [upd_ne ndx.symm]; exact nx))
  refine ⟨n, x, dx, u, v, w, a, b, c, rfl, upd_same, hu.ex g1, hv.ex g1, hw.ex g1, n1, sa, sb, sc, ne, fun l v1 v2 v3 H' bt hx hl ht => ⟨rfl, ?_⟩⟩
  exact k _ H' (bt.same nx g1) ⟨x, dx, l, v1, v2, v3, rfl, hx, hl, ht⟩
theorem scCorners : FnScope ["self"] ["self"] (defScope sCorners) := ⟨rfl, rfl, rfl, by decide +kernel, rfl, by decide +kernel, by decide +kernel⟩
theorem TDefs.GCo (d : TDefs K mg C CT fS fTI fCo fEd fAr fEq fAd pAr fdS fdTI fdCo fdEd fdAr fdEq fdAd) : FnOk P w K mg base CX0 1 fCo fdCo ["self"] (spCorners C CT) := by
  refine d.FCo.ok scCorners (fun vs H Q E h => ?_) (fun cdv A outer s H vs Q E hr h => ?_)
  · obtain ⟨t, a, b, c, rfl, _⟩ := h
    rfl
  · obtain ⟨t, a, b, c, rfl, ⟨q, dx, l, v1, v2, v3, rfl, h1, h2, h3⟩, k⟩ := h
    refine ⟨_, pss_one (ps_ret (pe_callTy call_list_of (by rfl) d.TT.list (by decide +kernel) (pa_cons (pe_fld (pv 0) rfl) pa_nil))), ?_⟩
    refine ⟨_, rfl, q, CT, dx, _, _, rfl, h1, d.TT.cl, d.TT.nT, tipF_tips _, l, _, rfl, .inl (SqL.of h2), fun m nm => ?_⟩
    exact k m v1 v2 v3 _ nm (same_new nm) upd_same (h3.ex (same_new nm))
theorem scEdges : FnScope ["self"] ["self"] (defScope sEdges) := ⟨rfl, rfl, rfl, by decide +kernel, rfl, by decide +kernel, by decide +kernel⟩
theorem TDefs.GEd (d : TDefs K mg C CT fS fTI fCo fEd fAr fEq fAd pAr fdS fdTI fdCo fdEd fdAr fdEq fdAd) : FnOk P w K mg base CX0 1 fEd fdEd ["self"] (spEdges C CT) := by
  refine d.FEd.ok scEdges (fun vs H Q E h => ?_) (fun cdv A outer s H vs Q E hr h => ?_)
  · obtain ⟨t, a, b, c, rfl, _⟩ := h
    rfl
  · obtain ⟨t, a, b, c, rfl, ⟨q, dx, l, v1, v2, v3, rfl, h1, h2, h3⟩, k⟩ := h
    refine ⟨_, pss_one (ps_ret (pe_lst (pa_cons (pe_tup (pa_cons (pe_ix ix_list (pe_fld (pv 0) rfl) pe_int (fun _ _ => rfl)) (pa_cons (pe_ix ix_list (pe_fld (pv 0) rfl) pe_int (fun _ _ => rfl)) pa_nil)))
      (pa_cons (pe_tup (pa_cons (pe_ix ix_list (pe_fld (pv 0) rfl) pe_int (fun _ _ => rfl)) (pa_cons (pe_ix ix_list (pe_fld (pv 0) rfl) pe_int (fun _ _ => rfl)) pa_nil)))
      (pa_cons (pe_tup (pa_cons (pe_ix ix_list (pe_fld (pv 0) rfl) pe_int (fun _ _ => rfl)) (pa_cons (pe_ix ix_list (pe_fld (pv 0) rfl) pe_int (fun _ _ => rfl)) pa_nil))) pa_nil))))), ?_⟩
    have Z : 2 ≤ sizeLine := by decide
    have T := d.TT
    refine ⟨_, rfl, q, CT, dx, _, _, rfl, h1, T.cl, T.nT, tipF_tips _, l, _, _, _, rfl, rfl, SqL.of h2, atI_nat (j := 0) rfl, ?_⟩
    refine ⟨_, rfl, q, CT, dx, _, _, rfl, h1, T.cl, T.nT, tipF_tips _, l, _, _, _, rfl, rfl, SqL.of h2, atI_nat (j := 1) rfl, Z, fun t1 n1 => ?_⟩
    have g1 := same_new (o := .tup [v1, v2]) n1
    have a1 := g1 _ _ h1
    have a2 := g1 _ _ h2
    refine ⟨_, rfl, q, CT, dx, _, _, rfl, a1, T.cl, T.nT, tipF_tips _, l, _, _, _, rfl, rfl, SqL.of a2, atI_nat (j := 1) rfl, ?_⟩
    refine ⟨_, rfl, q, CT, dx, _, _, rfl, a1, T.cl, T.nT, tipF_tips _, l, _, _, _, rfl, rfl, SqL.of a2, atI_nat (j := 2) rfl, Z, fun t2 n2 => ?_⟩
    have g2 := same_new (o := .tup [v2, v3]) n2
    have b1 := g2 _ _ a1
    have b2 := g2 _ _ a2
    refine ⟨_, rfl, q, CT, dx, _, _, rfl, b1, T.cl, T.nT, tipF_tips _, l, _, _, _, rfl, rfl, SqL.of b2, atI_nat (j := 2) rfl, ?_⟩
    refine ⟨_, rfl, q, CT, dx, _, _, rfl, b1, T.cl, T.nT, tipF_tips _, l, _, _, _, rfl, rfl, SqL.of b2, atI_nat (j := 0) rfl, Z, fun t3 n3 => ?_⟩
    have g3 := same_new (o := .tup [v3, v1]) n3
    refine ⟨(by show 3 ≤ sizeLine; decide), fun m nm => ?_⟩
    have g4 := same_new (o := .lst [.ref t1, .ref t2, .ref t3]) nm
    have g := ((g1.trans g2).trans g3).trans g4
    exact k _ _ g ⟨m, t1, t2, t3, v1, v2, v3, rfl, upd_same, (g2.trans (g3.trans g4)) _ _ upd_same, (g3.trans g4) _ _ upd_same, g4 _ _ upd_same, h3.ex g⟩
theorem sd_mv (a b c q : I2) : sd (mv a q) (mv b q) (mv c q) = sd a b c := by
  unfold sd sideI mv
  grind
theorem Sm.add {n : Nat} {x y : Int} (hx : Sm n x) (hy : Sm n y) : Sm (n + 1) (x + y) := by
  unfold Sm at *
  rw [Nat.pow_succ]
  omega
theorem Sm2.mv {n : Nat} {p q : I2} (hp : Sm2 n p) (hq : Sm2 n q) : Sm2 (n + 1) (mv p q) := ⟨hp.1.add hq.1, hp.2.add hq.2⟩
theorem scMoved : FnScope ["self", "by", "step"] ["self", "by"] (defScope sMoved) := ⟨rfl, rfl, rfl, by decide +kernel, rfl, by decide +kernel, by decide +kernel⟩
theorem ok_moved {f : Addr} {fd : FuncData} (F : Fun K "moved" "Triangle.moved" sMoved f fd) (d : TDefs K mg C CT fS fTI fCo fEd fAr fEq fAd pAr fdS fdTI fdCo fdEd fdAr fdEq fdAd) (D : Defs K mg C fW fI fP fA fO fdW fdI fdP fdA fdO) : FnOk P w K mg base CX0 10 f fd ["self", "by"] (spMoved C CT) := by
  have GA : FnOk P w K mg base CX0 4 fA fdA ["thing"] (spAsPoint C) := D.GA
  have GAd : FnOk P w K mg base CX0 6 fAd fdAd ["self", "other"] (spBin C (· + ·)) := ok_add d.FAd D
  have GTI : FnOk P w K mg base CX0 8 fTI fdTI ["self", "a", "b", "c"] (spTInit C CT) := d.GTI D
  refine F.ok scMoved (fun vs H Q E h => ?_) (fun cdv A outer s H vs Q E hr h => ?_)
  · obtain ⟨n, t, u, a, b, c, q, rfl, _⟩ := h
    rfl
  · obtain ⟨n, t, u, a, b, c, by', rfl, ⟨q, dx, l, v1, v2, v3, rfl, h1, h2, h3⟩, hu, n1, sa, sb, sc, sy, pos, k⟩ := h
    have hr6 : Room 6 _ := hr.mono (by decide)
    refine ⟨_, pss_cons (ps_set (i := 2) scMoved.nd rfl (Or.inl rfl) (pe_call GA (hr.mono (by decide)) rfl D.mA D.FA.kp D.bA .nil pass0 (pa_cons (pv 1) pa_nil)))
      (pss_one (ps_ret (pe_make d.MT GTI hr rfl d.TT.mgT d.bTI .nil pass0
        (pa_cons (pe_op (op_own d.oAd FoOps.tup_add GAd hr6 d.bAd pass0) (pe_ix ix_list (pe_fld (pv 0) rfl) pe_int (fun _ _ => rfl)) (pv 2))
        (pa_cons (pe_op (op_own d.oAd FoOps.tup_add GAd hr6 d.bAd pass0) (pe_ix ix_list (pe_fld (pv 0) rfl) pe_int (fun _ _ => rfl)) (pv 2))
        (pa_cons (pe_op (op_own d.oAd FoOps.tup_add GAd hr6 d.bAd pass0) (pe_ix ix_list (pe_fld (pv 0) rfl) pe_int (fun _ _ => rfl)) (pv 2)) pa_nil)))))), ?_⟩
    have T := d.TT
    refine ⟨_, rfl, u, by'.1, by'.2, rfl, hu, fun w0 H0 e0 h0 _ => ?_⟩
    have p1 := e0 _ _ h1
    have p2 := e0 _ _ h2
    have t3 := h3.ex e0
    obtain ⟨q1, d1, r1, z1⟩ := id t3.1
    refine ⟨_, rfl, q, CT, dx, _, _, rfl, p1, T.cl, T.nT, tipF_tips _, l, _, _, _, rfl, rfl, SqL.of p2, atI_nat (j := 0) rfl, ?_⟩
    refine ⟨_, rfl, q1, d1, _, r1, z1, h0.pt.opnd, v1, w0, _, _, _, _, rfl, t3.1, h0.pt, fun x1 H1 e1 m1 => ?_⟩
    have t4 := t3.ex e1
    have k0 := h0.ex e1
    obtain ⟨q2, d2, r2, z2⟩ := id t4.2.1
    refine ⟨_, rfl, q, CT, dx, _, _, rfl, e1 _ _ p1, T.cl, T.nT, tipF_tips _, l, _, _, _, rfl, rfl, SqL.of (e1 _ _ p2), atI_nat (j := 1) rfl, ?_⟩
    refine ⟨_, rfl, q2, d2, _, r2, z2, k0.pt.opnd, v2, w0, _, _, _, _, rfl, t4.2.1, k0.pt, fun x2 H2 e2 m2 => ?_⟩
    have t5 := t4.ex e2
    have k1 := k0.ex e2
    obtain ⟨q3, d3, r3, z3⟩ := id t5.2.2
    refine ⟨_, rfl, q, CT, dx, _, _, rfl, e2 _ _ (e1 _ _ p1), T.cl, T.nT, tipF_tips _, l, _, _, _, rfl, rfl, SqL.of (e2 _ _ (e1 _ _ p2)), atI_nat (j := 2) rfl, ?_⟩
    refine ⟨_, rfl, q3, d3, _, r3, z3, k1.pt.opnd, v3, w0, _, _, _, _, rfl, t5.2.2, k1.pt, fun x3 H3 e3 m3 => ?_⟩
    have pos' : 0 < sd (mv a by') (mv b by') (mv c by') := by rw [sd_mv]; exact pos
    refine make_tri (n := n + 1) (a := mv a by') (b := mv b by') (c := mv c by') ((m1.ex e2).ex e3).pt (m2.ex e3).pt m3.pt (by omega) (sa.mv sy) (sb.mv sy) (sc.mv sy) (by omega) fun v H4 e4 h4 => ?_
    have e5 : onB (mv a by') (mv b by') (mv c by') = mv b by' := by unfold onB; rw [if_pos pos']
    have e6 : onC (mv a by') (mv b by') (mv c by') = mv c by' := by unfold onC; rw [if_pos pos']
    rw [e5, e6] at h4
    exact k v H4 (e0.trans (e1.trans (e2.trans (e3.trans e4)))) h4
end
end Fo

set_option Elab.async false
set_option linter.all false
set_option maxRecDepth 100000
set_option maxHeartbeats 2000000
namespace Fo
open PySem L2
/-! ### list comprehensions with any target -/
/-- [te for g in l] -/
theorem lc_all {K : PySem.W.Frag} {l D : Addr} {g : TG} {te : TE} {sl : List Nat} {σ : L2.St} {H1 : Hp} {xs : List V} {Qd : Hp → Prop} (R : Nat → V → Hp → Prop) (rex : ∀ i v H H', Same H H' → R i v H → R i v H') (rbut : ∀ i v H H' D ys, H D = some (HO.lst ys) → But D H H' → R i v H → R i v H')
    (hl : SqL K H1 l xs) (hn : xs.length ≤ 1000)
    (step : ∀ i x H', xs[i]? = some x → Same H1 H' → ∀ Q' : VK, (∀ v H'', Same H' H'' → R i v H'' → Q' v H'') → g x (wipe σ sl) H' fun σ2 H2 => wipe σ2 sl = wipe σ sl ∧ te σ2 H2 Q')
    (hd : ∀ H' vs, Same H1 H' → H' D = some (.lst vs) → vs.length = xs.length → (∀ i v, vs[i]? = some v → R i v H') → Qd H') (hD : H1 D = none) :
    ∃ W : Nat → Nat → Hp → Prop, (∃ m, W 0 m (upd H1 D (.lst []))) ∧ ∀ i m H, W i m H → ((Itl K l).stop i H ∧ Qd H) ∨
      ((Itl K l).go i H ∧ ∃ Nx : Hp → Prop, (∀ H', Nx H' → ∃ m', m' < m ∧ W (i + 1) m' H') ∧ ∀ x H', (Itl K l).yld i H x H' → g x (wipe σ sl) H' fun σ2 H2 => wipe σ2 sl = wipe σ sl ∧ tYes σ2 H2 fun b H3 =>
      if b = true then te σ2 H3 fun y H4 => ∃ acc, H4 D = some (.lst acc) ∧ acc.length < sizeLine ∧ Nx (upd H4 D (.lst (acc ++ [y]))) else Nx H3) := by
  refine lc_list (K := K) (a := l) (xs := xs) (fun i H' => Same H1 H' ∧ ∃ vs : List V, H' D = some (.lst vs) ∧ vs.length = i ∧ ∀ j v, vs[j]? = some v → R j v H') ?_ ?_ ?_ ?_
  · exact ⟨same_new hD, [], upd_same, rfl, fun j v h => by simp at h⟩
  · rintro i H' _ ⟨e, _⟩
    exact e.seq hl
  · rintro i x H' hx ⟨e, vs, hv, hlen, hp⟩
    have hi : i < xs.length := (List.getElem?_eq_some_iff.mp hx).1
    refine step i x H' hx e (fun y H4 => ∃ acc, H4 D = some (.lst acc) ∧ acc.length < sizeLine ∧ Same H1 (upd H4 D (.lst (acc ++ [y]))) ∧ ∃ vs : List V, (upd H4 D (.lst (acc ++ [y]))) D = some (.lst vs) ∧ vs.length = i + 1 ∧ ∀ j v, vs[j]? = some v → R j v (upd H4 D (.lst (acc ++ [y])))) fun v H'' e2 h2 => ?_
    have hv2 := e2 _ _ hv
    refine ⟨vs, hv2, Nat.lt_of_lt_of_le (by omega : vs.length < 1001) (by decide), (But.upd.same hD (e.trans e2)), vs ++ [v], upd_same, by rw [List.length_append, hlen]; rfl, fun j u hu => ?_⟩
    by_cases hj : j < vs.length
    · rw [List.getElem?_append_left hj] at hu
      exact rbut _ _ _ _ _ _ hv2 But.upd (rex _ _ _ _ e2 (hp j u hu))
    · have hj2 : j = vs.length := by
        have := (List.getElem?_eq_some_iff.mp hu).1
        rw [List.length_append] at this
        simp at this
        omega
      subst hj2
      rw [List.getElem?_append_right (Nat.le_refl _)] at hu
      simp at hu
      subst hu
      rw [hlen]
      exact rbut _ _ _ _ _ _ hv2 But.upd h2
  · rintro H' ⟨e, vs, hv, hlen, hp⟩
    exact hd H' vs e hv hlen hp
/-- how many of the first i are kept -/
def kept (keep : Nat → Bool) : Nat → Nat
  | 0 => 0
  | i + 1 => kept keep i + (if keep i = true then 1 else 0)
theorem kept_zero {keep : Nat → Bool} : ∀ {n : Nat}, kept keep n = 0 ↔ ∀ j, j < n → keep j = false
  | 0 => ⟨fun _ j hj => absurd hj (Nat.not_lt_zero _), fun _ => rfl⟩
  | n + 1 => by
    have ih := kept_zero (keep := keep) (n := n)
    show kept keep n + (if keep n = true then 1 else 0) = 0 ↔ _
    constructor
    · intro h j hj
      cases hk : keep n with
      | true =>
        rw [hk, if_pos rfl] at h
        omega
      | false =>
        rw [hk] at h
        by_cases q : j = n
        · rw [q]; exact hk
        · exact ih.mp (by simpa using h) j (by omega)
    · intro h
      rw [h n (Nat.lt_succ_self _), ih.mpr fun j hj => h j (by omega)]
      rfl
/-- [c for g in l if tt] -/
theorem lc_filt {K : PySem.W.Frag} {l D : Addr} {g : TG} {tt : TT} {te : TE} {sl : List Nat} {σ : L2.St} {H1 : Hp} {xs : List V} {Qd : Hp → Prop} (keep : Nat → Bool) (c : V)
    (hl : SqL K H1 l xs) (hn : xs.length ≤ 1000)
    (step : ∀ i x H', xs[i]? = some x → Same H1 H' → ∀ Nx : Hp → Prop, ∀ Q' : VK, (keep i = false → ∀ H'', Same H' H'' → Nx H'') → (keep i = true → ∀ H'', Same H' H'' → Q' c H'') → g x (wipe σ sl) H' fun σ2 H2 => wipe σ2 sl = wipe σ sl ∧ tt σ2 H2 fun b H3 => if b = true then te σ2 H3 Q' else Nx H3)
    (hd : ∀ H', Same H1 H' → H' D = some (.lst (List.replicate (kept keep xs.length) c)) → Qd H') (hD : H1 D = none) :
    ∃ W : Nat → Nat → Hp → Prop, (∃ m, W 0 m (upd H1 D (.lst []))) ∧ ∀ i m H, W i m H → ((Itl K l).stop i H ∧ Qd H) ∨
      ((Itl K l).go i H ∧ ∃ Nx : Hp → Prop, (∀ H', Nx H' → ∃ m', m' < m ∧ W (i + 1) m' H') ∧ ∀ x H', (Itl K l).yld i H x H' → g x (wipe σ sl) H' fun σ2 H2 => wipe σ2 sl = wipe σ sl ∧ tt σ2 H2 fun b H3 =>
      if b = true then te σ2 H3 fun y H4 => ∃ acc, H4 D = some (.lst acc) ∧ acc.length < sizeLine ∧ Nx (upd H4 D (.lst (acc ++ [y]))) else Nx H3) := by
  refine lc_list (K := K) (a := l) (xs := xs) (fun i H' => Same H1 H' ∧ i ≤ xs.length ∧ H' D = some (.lst (List.replicate (kept keep i) c))) ?_ ?_ ?_ ?_
  · exact ⟨same_new hD, Nat.zero_le _, upd_same⟩
  · rintro i H' _ ⟨e, _⟩
    exact e.seq hl
  · rintro i x H' hx ⟨e, hi', hv⟩
    have hi : i < xs.length := (List.getElem?_eq_some_iff.mp hx).1
    have hk : ∀ j, kept keep j ≤ j := fun j => by
      induction j with
      | zero => exact Nat.le_refl _
      | succ j ih =>
        show kept keep j + _ ≤ j + 1
        split <;> omega
    refine step i x H' hx e _ _ (fun hf H'' e2 => ?_) fun ht H'' e2 => ?_
    · refine ⟨e.trans e2, hi, ?_⟩
      show H'' D = some (.lst (List.replicate (kept keep i + (if keep i = true then 1 else 0)) c))
      rw [hf]
      exact e2 _ _ hv
    · have := hk i
      refine ⟨_, e2 _ _ hv, Nat.lt_of_lt_of_le (by rw [List.length_replicate]; omega : _ < 1001) (by decide), (But.upd.same hD (e.trans e2)), hi, ?_⟩
      rw [upd_same]
      show some (HO.lst _) = some (.lst (List.replicate (kept keep i + (if keep i = true then 1 else 0)) c))
      rw [ht, if_pos rfl, List.replicate_succ']
  · rintro H' ⟨e, _, hv⟩
    exact hd H' e hv
/-- [te for g in range(n)] -/
theorem lc_rAll {D : Addr} {lo : Int} {n : Nat} {g : TG} {te : TE} {sl : List Nat} {σ : L2.St} {H1 : Hp} {Qd : Hp → Prop} (R : Nat → V → Hp → Prop) (rex : ∀ i v H H', Same H H' → R i v H → R i v H') (rbut : ∀ i v H H' D ys, H D = some (HO.lst ys) → But D H H' → R i v H → R i v H')
    (hn : n ≤ 1000)
    (step : ∀ i H', i < n → Same H1 H' → ∀ Q' : VK, (∀ v H'', Same H' H'' → R i v H'' → Q' v H'') → g (.int (lo + i)) (wipe σ sl) H' fun σ2 H2 => wipe σ2 sl = wipe σ sl ∧ te σ2 H2 Q')
    (hd : ∀ H' vs, Same H1 H' → H' D = some (.lst vs) → vs.length = n → (∀ i v, vs[i]? = some v → R i v H') → Qd H') (hD : H1 D = none) :
    ∃ W : Nat → Nat → Hp → Prop, (∃ m, W 0 m (upd H1 D (.lst []))) ∧ ∀ i m H, W i m H → ((Itr lo n).stop i H ∧ Qd H) ∨
      ((Itr lo n).go i H ∧ ∃ Nx : Hp → Prop, (∀ H', Nx H' → ∃ m', m' < m ∧ W (i + 1) m' H') ∧ ∀ x H', (Itr lo n).yld i H x H' → g x (wipe σ sl) H' fun σ2 H2 => wipe σ2 sl = wipe σ sl ∧ tYes σ2 H2 fun b H3 =>
      if b = true then te σ2 H3 fun y H4 => ∃ acc, H4 D = some (.lst acc) ∧ acc.length < sizeLine ∧ Nx (upd H4 D (.lst (acc ++ [y]))) else Nx H3) := by
  refine lc_range (lo := lo) (n := n) (fun i H' => Same H1 H' ∧ ∃ vs : List V, H' D = some (.lst vs) ∧ vs.length = i ∧ ∀ j v, vs[j]? = some v → R j v H') ?_ ?_ ?_
  · exact ⟨same_new hD, [], upd_same, rfl, fun j v h => by simp at h⟩
  · rintro i H' hi ⟨e, vs, hv, hlen, hp⟩
    refine step i H' hi e (fun y H4 => ∃ acc, H4 D = some (.lst acc) ∧ acc.length < sizeLine ∧ Same H1 (upd H4 D (.lst (acc ++ [y]))) ∧ ∃ vs : List V, (upd H4 D (.lst (acc ++ [y]))) D = some (.lst vs) ∧ vs.length = i + 1 ∧ ∀ j v, vs[j]? = some v → R j v (upd H4 D (.lst (acc ++ [y])))) fun v H'' e2 h2 => ?_
    have hv2 := e2 _ _ hv
    refine ⟨vs, hv2, Nat.lt_of_lt_of_le (by omega : vs.length < 1001) (by decide), (But.upd.same hD (e.trans e2)), vs ++ [v], upd_same, by rw [List.length_append, hlen]; rfl, fun j u hu => ?_⟩
    by_cases hj : j < vs.length
    · rw [List.getElem?_append_left hj] at hu
      exact rbut _ _ _ _ _ _ hv2 But.upd (rex _ _ _ _ e2 (hp j u hu))
    · have hj2 : j = vs.length := by
        have := (List.getElem?_eq_some_iff.mp hu).1
        rw [List.length_append] at this
        simp at this
        omega
      subst hj2
      rw [List.getElem?_append_right (Nat.le_refl _)] at hu
      simp at hu
      subst hu
      rw [hlen]
      exact rbut _ _ _ _ _ _ hv2 But.upd h2
  · rintro H' ⟨e, vs, hv, hlen, hp⟩
    exact hd H' vs e hv hlen hp
theorem IsP.but {C D : Addr} {v : V} {x y : Int} {H H' : Hp} {ys : List V} (hD : H D = some (.lst ys)) (b : But D H H') (h : IsP C v x y H) : IsP C v x y H' := by
  obtain ⟨a, dx, rfl, h⟩ := h
  exact ⟨a, dx, rfl, b _ _ (ne_of h hD (by intro z; cases z)) h⟩
theorem two3 {e1 e2 e3 x : V} {i : Nat} (h : [e1, e2, e3][i]? = some x) : (i = 0 ∧ x = e1) ∨ (i = 1 ∧ x = e2) ∨ (i = 2 ∧ x = e3) := by
  match i, h with
  | 0, h => exact .inl ⟨rfl, (Option.some.inj h).symm⟩
  | 1, h => exact .inr (.inl ⟨rfl, (Option.some.inj h).symm⟩)
  | 2, h => exact .inr (.inr ⟨rfl, (Option.some.inj h).symm⟩)
  | n + 3, h => simp at h
theorem len3' {vs : List V} (h : vs.length = 3) : ∃ a b c, vs = [a, b, c] := by
  match vs, h with
  | [a, b, c], _ => exact ⟨a, b, c, rfl⟩
end Fo

set_option Elab.async false
set_option linter.all false
set_option maxRecDepth 100000
set_option maxHeartbeats 2000000
namespace Fo
open PySem L2
/-! ### the law's own words of triangles -/
abbrev sLSide : Stmt := top 39
abbrev sCorn : Stmt := top 40
abbrev sWays : Stmt := top 41
def rLenK (K : PySem.W.Frag) : List V → Hp → VK → Prop := fun xs H Q => ∃ p ys, xs = [V.ref p] ∧ (SqL K H p ys ∨ SqT K H p ys) ∧ Q (V.int ys.length) H
abbrev Tp (H : Hp) (q : Addr) (p : I2) : Prop := H q = some (.tup [.int p.1, .int p.2])
theorem seq_gen {t1 t2 : TS} {D : Ends} {σ : L2.St} {H : Hp} (cond : L2.St → Hp → Prop) (h1 : ∀ N : L2.St → Hp → Prop, (∀ σ' H', cond σ' H' → N σ' H') → t1 { D with nx := N } σ H) (h2 : ∀ σ' H', cond σ' H' → t2 D σ' H') : tSeq t1 t2 D σ H := h1 _ h2
/-- three tuples of numbers -/
structure T3 (H : Hp) (qa qb qc : Addr) (a b c : I2) : Prop where
  a : Tp H qa a
  b : Tp H qb b
  c : Tp H qc c
theorem T3.ex {H H' : Hp} {qa qb qc : Addr} {a b c : I2} (e : Same H H') (h : T3 H qa qb qc a b c) : T3 H' qa qb qc a b c := ⟨e _ _ h.a, e _ _ h.b, e _ _ h.c⟩
def spLSide : Sp := fun vs H Q _ => ∃ (n : Nat) (qa qb qp : Addr) (a b p : I2), vs = [.ref qa, .ref qb, .ref qp] ∧ T3 H qa qb qp a b p ∧ n < 1000 ∧ Sm2 n a ∧ Sm2 n b ∧ Sm2 n p ∧ Q (.int (sd a b p)) H
def spCorn : Sp := fun vs H Q _ => ∃ p : Addr, vs = [.ref p, .int 5] ∧ PoolAt p H ∧ ∀ l qa qb qc a b c H', But p H H' → PoolAt p H' → H' l = some (.lst [.ref qa, .ref qb, .ref qc]) → T3 H' qa qb qc a b c → 0 < sd a b c → Sm2 5 a → Sm2 5 b → Sm2 5 c → Q (.ref l) H'
def spWays (K : PySem.W.Frag) : Sp := fun vs H Q _ => ∃ (l : Addr) (x y z : V), vs = [.ref l] ∧ SqL K H l [x, y, z] ∧ ∀ m e1 e2 e3 H', H m = none → Same H H' → H' m = some (.lst [.ref e1, .ref e2, .ref e3]) → H' e1 = some (.tup [x, y]) → H' e2 = some (.tup [y, z]) → H' e3 = some (.tup [z, x]) → Q (.ref m) H'
section
variable {P : Program} {w : World} {K : PySem.W.Frag} {mg : Str → Option Value} {base : Heap}
theorem scLSide : FnScope ["a", "b", "p"] ["a", "b", "p"] (defScope sLSide) := ⟨rfl, rfl, rfl, by decide +kernel, rfl, by decide +kernel, by decide +kernel⟩
theorem ok_lside {f : Addr} {fd : FuncData} (F : Fun K "_law_side" "_law_side" sLSide f fd) : FnOk P w K mg base CX0 1 f fd ["a", "b", "p"] spLSide := by
  refine F.ok scLSide (fun vs H Q E h => ?_) (fun cdv A outer s H vs Q E hr h => ?_)
  · obtain ⟨n, qa, qb, qp, a, b, p, rfl, _⟩ := h
    rfl
  · obtain ⟨n, qa, qb, qp, a, b, p, rfl, t, n1, sa, sb, sp, k⟩ := h
    refine ⟨_, pss_one (ps_ret (pe_op op_sub
      (pe_op op_mulW (pe_op op_sub (pe_ix ix_tup (pv 1) pe_int (fun _ _ => rfl)) (pe_ix ix_tup (pv 0) pe_int (fun _ _ => rfl))) (pe_op op_sub (pe_ix ix_tup (pv 2) pe_int (fun _ _ => rfl)) (pe_ix ix_tup (pv 0) pe_int (fun _ _ => rfl))))
      (pe_op op_mulW (pe_op op_sub (pe_ix ix_tup (pv 1) pe_int (fun _ _ => rfl)) (pe_ix ix_tup (pv 0) pe_int (fun _ _ => rfl))) (pe_op op_sub (pe_ix ix_tup (pv 2) pe_int (fun _ _ => rfl)) (pe_ix ix_tup (pv 0) pe_int (fun _ _ => rfl)))))), ?_⟩
    refine ⟨_, rfl, qb, _, _, _, rfl, rfl, SqT.of t.b, atI_nat (j := 0) rfl, _, rfl, qa, _, _, _, rfl, rfl, SqT.of t.a, atI_nat (j := 0) rfl, _, _, rfl, rfl, ?_⟩
    refine ⟨_, rfl, qp, _, _, _, rfl, rfl, SqT.of t.c, atI_nat (j := 1) rfl, _, rfl, qa, _, _, _, rfl, rfl, SqT.of t.a, atI_nat (j := 1) rfl, _, _, rfl, rfl, ?_⟩
    refine ⟨_, _, rfl, rfl, (sb.1.sub sa.1).mul (sp.2.sub sa.2) (Nat.succ_pos _) n1, ?_⟩
    refine ⟨_, rfl, qb, _, _, _, rfl, rfl, SqT.of t.b, atI_nat (j := 1) rfl, _, rfl, qa, _, _, _, rfl, rfl, SqT.of t.a, atI_nat (j := 1) rfl, _, _, rfl, rfl, ?_⟩
    refine ⟨_, rfl, qp, _, _, _, rfl, rfl, SqT.of t.c, atI_nat (j := 0) rfl, _, rfl, qa, _, _, _, rfl, rfl, SqT.of t.a, atI_nat (j := 0) rfl, _, _, rfl, rfl, ?_⟩
    refine ⟨_, _, rfl, rfl, (sb.2.sub sa.2).mul (sp.1.sub sa.1) (Nat.succ_pos _) n1, ?_⟩
    exact ⟨_, _, rfl, rfl, k⟩
theorem scWays : FnScope ["corners_here", "k"] ["corners_here"] (defScope sWays) := ⟨rfl, rfl, rfl, by decide +kernel, rfl, by decide +kernel, by decide +kernel⟩
theorem ok_ways {f : Addr} {fd : FuncData} (F : Fun K "_law_ways" "_law_ways" sWays f fd) (T : TxtL mg) : FnOk P w K mg base CX0 1 f fd ["corners_here"] (spWays K) := by
  refine F.ok scWays (fun vs H Q E h => ?_) (fun cdv A outer s H vs Q E hr h => ?_)
  · obtain ⟨l, x, y, z, rfl, _⟩ := h
    rfl
  · obtain ⟨l, x, y, z, rfl, hl, k⟩ := h
    refine ⟨_, pss_one (ps_ret (pe_lc (own := [("k", 1)]) (g := gName 1) (tt := tYes) rfl scWays.nd (pi_range1 rfl T.range (pa_cons (pe_callB call_len_seq (by rfl) T.len PySem.boot_len (pa_cons (pv 0) pa_nil)) pa_nil))
      (blkOk_by (own := [("k", 1)]) (N := ["corners_here", "k"]) (sc := defScope sWays) (by decide +kernel)) (fun _ _ _ _ _ => pg_name (i := 1) scWays.nd rfl (Or.inl rfl)) (fun _ _ _ _ _ => pts_nil)
      (fun _ _ _ _ _ => pe_tup (pa_cons (pe_ix (r := rIxL K) ix_list (pv 0) (pv 1) (fun _ _ => rfl)) (pa_cons (pe_ix (r := rIxL K) ix_list (pv 0) (pe_op op_mod (pe_op op_add (pv 1) pe_int) (pe_callB (r := rLenK K) call_len_seq (by rfl) T.len PySem.boot_len (pa_cons (pv 0) pa_nil))) (fun _ _ => rfl)) pa_nil))))), ?_⟩
    refine ⟨_, rfl, l, _, rfl, .inl hl, 3, rfl, by decide, by decide, fun D0 nD => ?_⟩
    refine lc_rAll (lo := 0) (n := 3) (sl := [1]) (fun i v H' => ∃ e, v = .ref e ∧ H' e = some (.tup (if i = 0 then [x, y] else if i = 1 then [y, z] else [z, x]))) (fun i v H H' e h => by obtain ⟨q, h1, h2⟩ := h; exact ⟨q, h1, e _ _ h2⟩)
      (fun i v H H' D ys hD b h => by obtain ⟨q, h1, h2⟩ := h; exact ⟨q, h1, b _ _ (ne_of h2 hD (by intro z; cases z)) h2⟩) (by decide) ?_ ?_ nD
    · intro i H2 hi e2 Q' k'
      have hl2 := e2.seq hl
      have : i = 0 ∨ i = 1 ∨ i = 2 := by omega
      refine ⟨rfl, ?_⟩
      rcases this with rfl | rfl | rfl
      · refine ⟨_, rfl, _, rfl, l, _, _, _, rfl, rfl, hl2, atI_nat (j := 0) rfl, _, rfl, _, rfl, _, _, rfl, rfl, _, rfl, l, _, rfl, .inl hl2, _, _, rfl, rfl, (by show (0 : Int) < 3; decide), l, _, _, _, rfl, rfl, hl2, (show atI [x, y, z] (1 : Int) = some y from atI_nat (j := 1) rfl), (by show 2 ≤ sizeLine; decide), fun t nt => ?_⟩
        exact k' _ _ (same_new nt) ⟨t, rfl, upd_same⟩
      · refine ⟨_, rfl, _, rfl, l, _, _, _, rfl, rfl, hl2, atI_nat (j := 1) rfl, _, rfl, _, rfl, _, _, rfl, rfl, _, rfl, l, _, rfl, .inl hl2, _, _, rfl, rfl, (by show (0 : Int) < 3; decide), l, _, _, _, rfl, rfl, hl2, (show atI [x, y, z] (2 : Int) = some z from atI_nat (j := 2) rfl), (by show 2 ≤ sizeLine; decide), fun t nt => ?_⟩
        exact k' _ _ (same_new nt) ⟨t, rfl, upd_same⟩
      · refine ⟨_, rfl, _, rfl, l, _, _, _, rfl, rfl, hl2, atI_nat (j := 2) rfl, _, rfl, _, rfl, _, _, rfl, rfl, _, rfl, l, _, rfl, .inl hl2, _, _, rfl, rfl, (by show (0 : Int) < 3; decide), l, _, _, _, rfl, rfl, hl2, (by rw [show ((0 + ((2 : Nat) : Int) + 1) % (([x, y, z] : List V).length : Int)) = ((0 : Nat) : Int) from by simp]; exact atI_nat (j := 0) rfl), (by show 2 ≤ sizeLine; decide), fun t nt => ?_⟩
        exact k' _ _ (same_new nt) ⟨t, rfl, upd_same⟩
    · intro H2 vs e2 hv hlen hR
      obtain ⟨x1, x2, x3, rfl⟩ := len3' hlen
      obtain ⟨t1, rfl, r1⟩ := hR 0 x1 rfl
      obtain ⟨t2, rfl, r2⟩ := hR 1 x2 rfl
      obtain ⟨t3, rfl, r3⟩ := hR 2 x3 rfl
      exact k D0 t1 t2 t3 H2 nD e2 hv r1 r2 r3
theorem scCorn : FnScope ["pool", "size_here", "a", "b", "c"] ["pool", "size_here"] (defScope sCorn) := ⟨rfl, rfl, rfl, by decide +kernel, rfl, by decide +kernel, by decide +kernel⟩
theorem sm5 {x : Int} (h0 : -31 ≤ x) (h1 : x ≤ 31) : Sm 5 x := by
  unfold Sm
  omega
theorem ok_corn {f fD fPr fLs : Addr} {fd fdD fdPr fdLs : FuncData} (F : Fun K "_law_corners" "_law_corners" sCorn f fd) (T : TxtL mg) (FD : Fun K "_law_draw" "_law_draw" sDraw fD fdD) (bD : Binds K fdD ["pool", "many"] []) (mD : mg "_law_draw" = some (.ref fD))
    (FPr : Fun K "_law_pair" "_law_pair" sPair fPr fdPr) (bPr : Binds K fdPr ["pool", "size_here"] []) (mPr : mg "_law_pair" = some (.ref fPr)) (FLs : Fun K "_law_side" "_law_side" sLSide fLs fdLs) (bLs : Binds K fdLs ["a", "b", "p"] []) (mLs : mg "_law_side" = some (.ref fLs)) :
    FnOk P w K mg base CX0 3 f fd ["pool", "size_here"] spCorn := by
  have GD : FnOk P w K mg base CX0 1 fD fdD ["pool", "many"] spDraw := ok_draw FD T
  have GP : FnOk P w K mg base CX0 2 fPr fdPr ["pool", "size_here"] spPair := ok_pair FPr T FD bD mD
  have GL : FnOk P w K mg base CX0 1 fLs fdLs ["a", "b", "p"] spLSide := ok_lside FLs
  refine F.ok scCorn (fun vs H Q E h => ?_) (fun cdv A outer s H vs Q E hr h => ?_)
  · obtain ⟨p, rfl, _⟩ := h
    rfl
  · obtain ⟨p, rfl, hp, k⟩ := h
    have hr1 : Room 1 _ := hr.mono (by decide)
    refine ⟨_, pss_cons (ps_par3 (i := 2) (j := 3) (l := 4) (by rfl) scCorn.nd rfl rfl rfl (by decide) (by decide) (by decide) rfl rfl rfl (pa_cons (pe_call GP hr rfl mPr FPr.kp bPr .nil pass0 (pa_cons (pv 0) (pa_cons (pv 1) pa_nil))) (pa_cons (pe_call GP hr rfl mPr FPr.kp bPr .nil pass0 (pa_cons (pv 0) (pa_cons (pv 1) pa_nil))) (pa_cons (pe_call GP hr rfl mPr FPr.kp bPr .nil pass0 (pa_cons (pv 0) (pa_cons (pv 1) pa_nil))) pa_nil))) (by rfl))
      (pss_cons (ps_if (pt_cmpR op_eq (pe_call GL hr1 rfl mLs FLs.kp bLs .nil pass0 (pa_cons (pv 2) (pa_cons (pv 3) (pa_cons (pv 4) pa_nil)))) pe_int (nomark _))
        (pss_one (ps_par (i := 3) (j := 4) (by rfl) scCorn.nd rfl rfl (by decide) rfl rfl (pa_cons (pe_tup (pa_cons (pe_op op_add (pe_op op_add (pe_ix ix_tup (pv 2) pe_int (fun _ _ => rfl)) pe_int) (pe_call GD hr1 rfl mD FD.kp bD .nil pass0 (pa_cons (pv 0) (pa_cons pe_int pa_nil)))) (pa_cons (pe_ix ix_tup (pv 2) pe_int (fun _ _ => rfl)) pa_nil)))
          (pa_cons (pe_tup (pa_cons (pe_op op_add (pe_ix ix_tup (pv 2) pe_int (fun _ _ => rfl)) (pe_call GD hr1 rfl mD FD.kp bD .nil pass0 (pa_cons (pv 0) (pa_cons pe_int pa_nil)))) (pa_cons (pe_op op_add (pe_ix ix_tup (pv 2) pe_int (fun _ _ => rfl)) pe_int) pa_nil))) pa_nil)) (by rfl))) pss_nil)
      (pss_one (ps_ret (pe_ifExp (pt_cmpR op_gt (pe_call GL hr1 rfl mLs FLs.kp bLs .nil pass0 (pa_cons (pv 2) (pa_cons (pv 3) (pa_cons (pv 4) pa_nil)))) pe_int (nomark _)) (pe_lst (pa_cons (pv 2) (pa_cons (pv 3) (pa_cons (pv 4) pa_nil)))) (pe_lst (pa_cons (pv 2) (pa_cons (pv 4) (pa_cons (pv 3) pa_nil)))))))), ?_⟩
    refine seq_gen (fun σ' H' => ∃ qa qb qc a b c, σ' = [some (.ref p), some (.int 5), some (.ref qa), some (.ref qb), some (.ref qc)] ∧ But p H H' ∧ PoolAt p H' ∧ T3 H' qa qb qc a b c ∧ (-5 ≤ a.1 ∧ a.1 ≤ 5 ∧ -5 ≤ a.2 ∧ a.2 ≤ 5) ∧ (-5 ≤ b.1 ∧ b.1 ≤ 5 ∧ -5 ≤ b.2 ∧ b.2 ≤ 5) ∧ (-5 ≤ c.1 ∧ c.1 ≤ 5 ∧ -5 ≤ c.2 ∧ c.2 ≤ 5)) (fun N hN => ?_) ?_
    · refine ⟨_, rfl, _, rfl, p, 5, rfl, hp, by decide, by decide, fun q1 x1 y1 H1 b1 p1 h1 c1 c2 c3 c4 => ?_⟩
      refine ⟨_, rfl, _, rfl, p, 5, rfl, p1, by decide, by decide, fun q2 x2 y2 H2 b2 p2 h2 d1 d2 d3 d4 => ?_⟩
      refine ⟨_, rfl, _, rfl, p, 5, rfl, p2, by decide, by decide, fun q3 x3 y3 H3 b3 p3 h3 e1 e2 e3 e4 => ?_⟩
      refine ⟨_, _, _, rfl, ?_⟩
      exact hN _ _ ⟨q1, q2, q3, (x1, y1), (x2, y2), (x3, y3), rfl, (b1.trans b2).trans b3, p3, ⟨b3 _ _ (tup_ne p2 (b2 _ _ (tup_ne p1 h1) h1)) (b2 _ _ (tup_ne p1 h1) h1), b3 _ _ (tup_ne p2 h2) h2, h3⟩, ⟨c1, c2, c3, c4⟩, ⟨d1, d2, d3, d4⟩, ⟨e1, e2, e3, e4⟩⟩
    rintro σ H2 ⟨qa, qb, qc, a, b, c, rfl, b2, p2, t2, ra, rb, rc⟩
    refine seq_gen (fun σ' H' => ∃ qb qc b c, σ' = [some (.ref p), some (.int 5), some (.ref qa), some (.ref qb), some (.ref qc)] ∧ But p H H' ∧ PoolAt p H' ∧ T3 H' qa qb qc a b c ∧ sd a b c ≠ 0 ∧ Sm2 5 b ∧ Sm2 5 c) (fun N hN => ?_) ?_
    · refine ⟨_, rfl, _, rfl, _, rfl, 5, qa, qb, qc, a, b, c, rfl, t2, by decide, ⟨sm5 (by omega) (by omega), sm5 (by omega) (by omega)⟩, ⟨sm5 (by omega) (by omega), sm5 (by omega) (by omega)⟩, ⟨sm5 (by omega) (by omega), sm5 (by omega) (by omega)⟩, rfl, _, rfl, ?_⟩
      by_cases hz : sd a b c = 0
      · rw [int_eqT hz]
        refine iteT ?_
        refine ⟨_, rfl, qa, _, _, _, rfl, rfl, SqT.of t2.a, atI_nat (j := 0) rfl, _, _, rfl, rfl, _, rfl, p, 3, rfl, p2, by decide, by decide, fun r1 H3 r10 r11 b3 p3 => ?_⟩
        have a3 := b3 _ _ (tup_ne p2 t2.a) t2.a
        refine ⟨_, _, rfl, rfl, _, rfl, qa, _, _, _, rfl, rfl, SqT.of a3, atI_nat (j := 1) rfl, (by show 2 ≤ sizeLine; decide), fun s1 ns1 => ?_⟩
        have g1 := same_new (o := .tup [.int (a.1 + 1 + r1), .int a.2]) ns1
        have a4 := g1 _ _ a3
        have p4 := p3.ex g1
        refine ⟨_, rfl, qa, _, _, _, rfl, rfl, SqT.of a4, atI_nat (j := 0) rfl, _, rfl, p, 3, rfl, p4, by decide, by decide, fun r2 H5 r20 r21 b5 p5 => ?_⟩
        have a5 := b5 _ _ (tup_ne p4 a4) a4
        have s5 := b5 _ _ (tup_ne p4 (upd_same (H := H3) (a := s1) (o := .tup [.int (a.1 + 1 + r1), .int a.2]))) upd_same
        refine ⟨_, _, rfl, rfl, _, rfl, qa, _, _, _, rfl, rfl, SqT.of a5, atI_nat (j := 1) rfl, _, _, rfl, rfl, (by show 2 ≤ sizeLine; decide), fun s2 ns2 => ?_⟩
        have g2 := same_new (o := .tup [.int (a.1 + r2), .int (a.2 + 2)]) ns2
        refine ⟨_, _, rfl, ?_⟩
        have g23 := g2
        refine hN _ _ ⟨s1, s2, (a.1 + 1 + r1, a.2), (a.1 + r2, a.2 + 2), rfl, (((b2.trans b3).trans (But.of g1)).trans b5).trans (But.of g23), p5.ex g23, ⟨g23 _ _ a5, g23 _ _ s5, upd_same⟩, ?_, ⟨sm5 (by show -31 ≤ a.1 + 1 + r1; omega) (by show a.1 + 1 + r1 ≤ 31; omega), sm5 (by show -31 ≤ a.2; omega) (by show a.2 ≤ 31; omega)⟩, ⟨sm5 (by show -31 ≤ a.1 + r2; omega) (by show a.1 + r2 ≤ 31; omega), sm5 (by show -31 ≤ a.2 + 2; omega) (by show a.2 + 2 ≤ 31; omega)⟩⟩
        have e : sd a (a.1 + 1 + r1, a.2) (a.1 + r2, a.2 + 2) = 2 * (1 + r1) := by
          unfold sd sideI
          grind
        rw [e]
        omega
      · rw [int_eqF hz]
        refine iteF ?_
        exact hN _ _ ⟨qb, qc, b, c, rfl, b2, p2, t2, hz, ⟨sm5 (by omega) (by omega), sm5 (by omega) (by omega)⟩, ⟨sm5 (by omega) (by omega), sm5 (by omega) (by omega)⟩⟩
    rintro σ H3 ⟨qb, qc, b, c, rfl, b3, p3, t3, nz, sb, sc⟩
    have sa : Sm2 5 a := ⟨sm5 (by omega) (by omega), sm5 (by omega) (by omega)⟩
    refine ⟨_, rfl, _, rfl, _, rfl, 5, qa, qb, qc, a, b, c, rfl, t3, by decide, sa, sb, sc, _, _, rfl, rfl, _, rfl, ?_⟩
    by_cases hs : 0 < sd a b c
    · rw [decide_eq_true hs]
      refine iteT ?_
      refine ⟨_, rfl, _, rfl, _, rfl, (by show 3 ≤ sizeLine; decide), fun l nl => ?_⟩
      have g := same_new (o := .lst [.ref qa, .ref qb, .ref qc]) nl
      exact k l qa qb qc a b c _ (b3.trans (But.of g)) (p3.ex g) upd_same (t3.ex g) hs sa sb sc
    · rw [decide_eq_false hs]
      refine iteF ?_
      refine ⟨_, rfl, _, rfl, _, rfl, (by show 3 ≤ sizeLine; decide), fun l nl => ?_⟩
      have g := same_new (o := .lst [.ref qa, .ref qc, .ref qb]) nl
      have t4 := t3.ex g
      have e : sd a c b = - sd a b c := by
        unfold sd sideI
        grind
      exact k l qa qc qb a c b _ (b3.trans (But.of g)) (p3.ex g) upd_same ⟨t4.a, t4.c, t4.b⟩ (by omega) sa sc sb
end
end Fo

set_option Elab.async false
set_option linter.all false
set_option maxRecDepth 100000
set_option maxHeartbeats 2000000
namespace Fo
open PySem L2
/-! ### owns, is_left; shift_of -/
abbrev sOwns : Stmt := top 33
abbrev sIsLeft : Stmt := top 34
abbrev sShift : Stmt := top 19
def sbP (p q : I2) : I2 := (p.1 - q.1, p.2 - q.2)
/-- left of the way from a to b, or on it with the way in -/
def lft (w : J2) (o : Bool) (a b p : I2) : Bool := decide (0 < sd a b p) || (decide (sd a b p = 0) && hin w o (sbP b a))
def own3 (w : J2) (o : Bool) (a b c p : I2) : Bool := lft w o a b p && (lft w o b c p && lft w o c a p)
def spIsLeft (C CH : Addr) : Sp := fun vs H Q _ => ∃ (n : Nat) (r u v z : V) (w : J2) (o : Bool) (a b p : I2), vs = [r, u, v, z] ∧ IsH C CH r w o H ∧ IsP C u a.1 a.2 H ∧ IsP C v b.1 b.2 H ∧ IsP C z p.1 p.2 H ∧ a ≠ b ∧ n < 900 ∧ Sm2 n w ∧ Sm2 n a ∧ Sm2 n b ∧ Sm2 n p ∧ ∀ H', Same H H' → Q (.bl (lft w o a b p)) H'
def spOwns (C CH CT : Addr) : Sp := fun vs H Q _ => ∃ (n : Nat) (r t z : V) (w : J2) (o : Bool) (a b c p : I2), vs = [r, t, z] ∧ IsH C CH r w o H ∧ IsT C CT t a b c H ∧ IsPt2 C z p H ∧ a ≠ b ∧ b ≠ c ∧ c ≠ a ∧ n < 900 ∧ Sm2 n w ∧ Sm2 n a ∧ Sm2 n b ∧ Sm2 n c ∧ Sm2 n p ∧ ∀ H', Same H H' → Q (.bl (own3 w o a b c p)) H'
def sh1 (w : J2) : I2 := (w.1 * -1, w.2 * -1)
def sh2 (w : J2) (o : Bool) : I2 := if o = true then (-w.2, w.1) else (-w.2 * -1, w.1 * -1)
def spShift (C CH : Addr) : Sp := fun vs H Q _ => ∃ (r : V) (w : J2) (o : Bool), vs = [r] ∧ IsH C CH r w o H ∧ Sm2 900 w ∧ ∀ t u v H', Same H H' → H' t = some (.tup [u, v]) → IsP C u (sh1 w).1 (sh1 w).2 H' → IsP C v (sh2 w o).1 (sh2 w o).2 H' → Q (.ref t) H'
section
variable {P : Program} {w : World} {K : PySem.W.Frag} {mg : Str → Option Value} {base : Heap}
variable {C fW fI fP fA fO fG fDr fL fX CH fId fHI fWG fWS fAG fAS fHs fCl fEq pW pA fPm CT fS fTI fCo fEd fAr fAd pAr fSb fQ fM fRm : Addr} {fdW fdI fdP fdA fdO fdG fdDr fdL fdX fdId fdHI fdWG fdWS fdAG fdAS fdHs fdCl fdEq fdPm fdS fdTI fdCo fdEd fdAr fdAd fdSb fdQ fdM : FuncData}
theorem Dir.sb {a b : I2} (h : a ≠ b) : Dir (sbP b a) := by
  by_cases h1 : b.1 - a.1 = 0
  · refine .inr (fun h2 => h (Prod.ext ?_ ?_))
    · omega
    · have h2' : b.2 - a.2 = 0 := h2
      omega
  · exact .inl h1
theorem Sm2.sb {n : Nat} {p q : I2} (hp : Sm2 n p) (hq : Sm2 n q) : Sm2 (n + 1) (sbP p q) := ⟨hp.1.sub hq.1, hp.2.sub hq.2⟩
theorem scIsLeft : FnScope ["rule", "a", "b", "place", "turn"] ["rule", "a", "b", "place"] (defScope sIsLeft) := ⟨rfl, rfl, rfl, by decide +kernel, rfl, by decide +kernel, by decide +kernel⟩
theorem ok_is_left {f : Addr} {fd : FuncData} (F : Fun K "is_left" "is_left" sIsLeft f fd) (h : HDefs K mg C CH fId fHI fWG fWS fAG fAS fHs fCl fEq pW pA fdId fdHI fdWG fdWS fdAG fdAS fdHs fdCl fdEq) (D : Defs K mg C fW fI fP fA fO fdW fdI fdP fdA fdO) (L : DirL K mg C fG fDr fL fX fdG fdDr fdL fdX)
    (FS : Fun K "side" "side" sSide fS fdS) (bS : Binds K fdS ["a", "b", "point"] []) (mS : mg "side" = some (.ref fS)) (FSb : Fun K "__sub__" "Point.__sub__" sSub fSb fdSb) (bSb : Binds K fdSb ["self", "other"] []) (oSb : OwnOp K C .Sub fSb) : FnOk P w K mg base CX0 9 f fd ["rule", "a", "b", "place"] (spIsLeft C CH) := by
  have GS : FnOk P w K mg base CX0 7 fS fdS ["a", "b", "point"] (spSide C) := ok_side FS D
  have GB : FnOk P w K mg base CX0 6 fSb fdSb ["self", "other"] (spBin C (· - ·)) := ok_sub FSb D
  have GC : FnOk P w K mg base CX0 7 fCl fdCl ["self", "direction"] (spHCall C CH) := h.GCl D L
  refine F.ok scIsLeft (fun vs H Q E h => ?_) (fun cdv A outer s H vs Q E hr hq => ?_)
  · obtain ⟨n, r, u, v, z, w', o, a, b, p, rfl, _⟩ := h
    rfl
  · obtain ⟨n, r, u, v, z, w', o, a, b, p, rfl, hh, ha, hb, hp, ne, n1, sw, sa, sb, sp, k⟩ := hq
    refine ⟨_, pss_cons (ps_set (i := 4) scIsLeft.nd rfl (Or.inl rfl) (pe_call GS (hr.mono (by decide)) rfl mS FS.kp bS .nil pass0 (pa_cons (pv 1) (pa_cons (pv 2) (pa_cons (pv 3) pa_nil)))))
      (pss_one (ps_ret (pe_or (pe_cmpR op_gt (pv 4) pe_int (nomark _)) (pe_one (pe_and (pe_cmpR op_eq (pv 4) pe_int (nomark _)) (pe_one (pe_callI (i := 0) h.oCl GC hr h.bCl pass0 rfl (by first | exact Or.inl rfl | exact Or.inr (Or.inl rfl)) (pa_cons (pe_op (op_own oSb FoOps.tup_sub GB (hr.mono (by decide)) bSb pass0) (pv 2) (pv 1)) pa_nil)))))))), ?_⟩
    refine ⟨_, rfl, _, rfl, _, rfl, n, u, v, z, a.1, a.2, b.1, b.2, p.1, p.2, rfl, ha.pt, hb.pt, hp.pt, by omega, sa.1, sa.2, sb.1, sb.2, sp.1, sp.2, fun H1 e1 => ?_⟩
    have hs : sideI a.1 a.2 b.1 b.2 p.1 p.2 = sd a b p := rfl
    rw [hs]
    refine ⟨_, rfl, _, _, rfl, rfl, _, rfl, ?_⟩
    by_cases h0 : 0 < sd a b p
    · rw [decide_eq_true h0]
      refine iteT ?_
      have kk := k H1 e1
      unfold lft at kk
      rw [decide_eq_true h0, Bool.true_or] at kk
      exact kk
    · rw [decide_eq_false h0]
      refine iteF ?_
      have kk : ∀ H', Same H H' → Q (.bl (decide (sd a b p = 0) && hin w' o (sbP b a))) H' := fun H' e => by
        have z := k H' e
        unfold lft at z
        rw [decide_eq_false h0, Bool.false_or] at z
        exact z
      refine ⟨_, rfl, rfl, _, rfl, ?_⟩
      by_cases hz : sd a b p = 0
      · rw [int_eqT hz]
        refine iteT ?_
        obtain ⟨ar, dr, qr, rfl, h1, h2⟩ := id hh
        have hb1 := hb.ex e1
        have ha1 := ha.ex e1
        obtain ⟨b2, d2, q2, z2⟩ := id hb1
        refine ⟨ar, rfl, _, rfl, _, rfl, b2, d2, _, q2, z2, ha1.pt.opnd, v, u, _, _, _, _, rfl, hb1, ha1.pt, fun w3 H3 e3 h3 => ?_⟩
        have hh3 := hh.ex (e1.trans e3)
        obtain ⟨ar', dr', qr', q', h1', _⟩ := id hh3
        cases q'
        refine ⟨dr', _, h1', n + 1, _, w3, w', sbP b a, o, rfl, hh3, h3.pt, Dir.sb ne, Nat.succ_pos _, by omega, sw.1.up (Nat.le_succ _), sw.2.up (Nat.le_succ _), (sb.sb sa).1, (sb.sb sa).2, fun H4 e4 => ?_⟩
        have z := kk H4 ((e1.trans e3).trans e4)
        rw [decide_eq_true hz, Bool.true_and] at z
        exact z
      · rw [int_eqF hz]
        refine iteF ?_
        have z := kk H1 e1
        rw [decide_eq_false hz, Bool.false_and] at z
        exact z
theorem scOwns : FnScope ["rule", "triangle", "point", "place", "a", "b"] ["rule", "triangle", "point"] (defScope sOwns) := ⟨rfl, rfl, rfl, by decide +kernel, rfl, by decide +kernel, by decide +kernel⟩
theorem ok_owns {f fIl : Addr} {fd fdIl : FuncData} (F : Fun K "owns" "owns" sOwns f fd) (d : TDefs K mg C CT fS fTI fCo fEd fAr fEq fAd pAr fdS fdTI fdCo fdEd fdAr fdEq fdAd) (h : HDefs K mg C CH fId fHI fWG fWS fAG fAS fHs fCl fEq pW pA fdId fdHI fdWG fdWS fdAG fdAS fdHs fdCl fdEq) (D : Defs K mg C fW fI fP fA fO fdW fdI fdP fdA fdO) (L : DirL K mg C fG fDr fL fX fdG fdDr fdL fdX)
    (FSb : Fun K "__sub__" "Point.__sub__" sSub fSb fdSb) (bSb : Binds K fdSb ["self", "other"] []) (oSb : OwnOp K C .Sub fSb) (FIl : Fun K "is_left" "is_left" sIsLeft fIl fdIl) (bIl : Binds K fdIl ["rule", "a", "b", "place"] []) (mIl : mg "is_left" = some (.ref fIl)) : FnOk P w K mg base CX0 10 f fd ["rule", "triangle", "point"] (spOwns C CH CT) := by
  have GL : FnOk P w K mg base CX0 9 fIl fdIl ["rule", "a", "b", "place"] (spIsLeft C CH) := ok_is_left FIl h D L d.FS d.bS d.mS FSb bSb oSb
  have GA : FnOk P w K mg base CX0 4 fA fdA ["thing"] (spAsPoint C) := D.GA
  have GE : FnOk P w K mg base CX0 1 fEd fdEd ["self"] (spEdges C CT) := d.GEd
  refine F.ok scOwns (fun vs H Q E h => ?_) (fun cdv A outer s H vs Q E hr hq => ?_)
  · obtain ⟨n, r, t, z, w', o, a, b, c, p, rfl, _⟩ := h
    rfl
  · obtain ⟨n, r, t, z, w', o, a, b, c, p, rfl, hh, ht, hz, n1', n2', n3', n1, sw, sa, sb, sc, sp, k⟩ := hq
    refine ⟨_, pss_cons (ps_set (i := 3) scOwns.nd rfl (Or.inl rfl) (pe_call GA (hr.mono (by decide)) rfl D.mA D.FA.kp D.bA .nil pass0 (pa_cons (pv 2) pa_nil)))
      (pss_cons (ps_for PassesOwn.never rfl (pi_list (pe_meth0 (pv 1) d.TT.cl d.mEd GE (hr.mono (by decide)) d.bEd .nil pass0)) (pg_tup rfl (pgs_cons (pg_name (i := 4) scOwns.nd rfl (Or.inl rfl)) (pgs_cons (pg_name (i := 5) scOwns.nd rfl (Or.inl rfl)) pgs_nil)))
        (pss_one (ps_if (pt_not (pt_val (pe_call GL hr rfl mIl FIl.kp bIl .nil pass0 (pa_cons (pv 0) (pa_cons (pv 4) (pa_cons (pv 5) (pa_cons (pv 3) pa_nil))))))) (pss_one (ps_ret pe_bl)) pss_nil)))
      (pss_one (ps_ret pe_bl))), ?_⟩
    refine ⟨_, rfl, z, p.1, p.2, rfl, hz, fun w1 H1 e1 h1 _ => ?_⟩
    have ht1 := ht.ex e1
    have hh1 := hh.ex e1
    obtain ⟨tq, dx, l, v1, v2, v3, rfl, g1, _⟩ := id ht1
    refine ⟨_, rfl, tq, dx, _, rfl, g1, tipF_no _ (by decide +kernel), _, a, b, c, rfl, ht1, fun v H2 e2 hE => ?_⟩
    obtain ⟨m, t1, t2, t3, u1, u2, u3, rfl, g0, k1, k2, k3, th⟩ := hE
    have h12 := h1.ex e2
    have hh2 := hh1.ex e2
    refine ⟨m, rfl, ⟨_, SqL.of g0⟩, ?_⟩
    refine for_list (K := K) (a := m) (xs := [.ref t1, .ref t2, .ref t3]) (fun j σ' H' => ∃ v4 v5 : Option V, σ' = [some r, some (.ref tq), some z, some w1, v4, v5] ∧ Same H2 H' ∧ (j ≥ 1 → lft w' o a b p = true) ∧ (j ≥ 2 → lft w' o b c p = true) ∧ (j ≥ 3 → lft w' o c a p = true)) ⟨_, _, rfl, Same.refl _, fun z => absurd z (by decide), fun z => absurd z (by decide), fun z => absurd z (by decide)⟩ (fun j σ' H' _ h => by
      obtain ⟨_, _, _, e, _⟩ := h
      exact SqL.of (e _ _ g0)) ?_ ?_
    · rintro j x σ H3 hx ⟨v4, v5, rfl, e3, q1, q2, q3⟩
      have th3 := th.ex e3
      have h13 := h12.ex e3
      have hh3 := hh2.ex e3
      have E3 := (e1.trans e2).trans e3
      rcases two3 hx with ⟨rfl, rfl⟩ | ⟨rfl, rfl⟩ | ⟨rfl, rfl⟩
      · refine ⟨t1, _, rfl, SqT.of (e3 _ _ k1), rfl, _, _, rfl, _, _, rfl, rfl, ?_⟩
        refine ⟨_, rfl, _, rfl, _, rfl, _, rfl, n, r, u1, u2, w1, w', o, a, b, p, rfl, hh3, th3.1, th3.2.1, h13, n1', n1, sw, sa, sb, sp, fun H4 e4 => ⟨_, rfl, ?_⟩⟩
        cases hl : lft w' o a b p with
        | false =>
          refine iteT ?_
          have kk := k H4 (E3.trans e4)
          unfold own3 at kk
          rw [hl, Bool.false_and] at kk
          exact kk
        | true =>
          refine iteF ?_
          exact ⟨_, _, rfl, e3.trans e4, fun _ => rfl, fun z => absurd z (by decide), fun z => absurd z (by decide)⟩
      · refine ⟨t2, _, rfl, SqT.of (e3 _ _ k2), rfl, _, _, rfl, _, _, rfl, rfl, ?_⟩
        refine ⟨_, rfl, _, rfl, _, rfl, _, rfl, n, r, u2, u3, w1, w', o, b, c, p, rfl, hh3, th3.2.1, th3.2.2, h13, n2', n1, sw, sb, sc, sp, fun H4 e4 => ⟨_, rfl, ?_⟩⟩
        cases hl : lft w' o b c p with
        | false =>
          refine iteT ?_
          have kk := k H4 (E3.trans e4)
          unfold own3 at kk
          rw [hl, Bool.false_and, Bool.and_false] at kk
          exact kk
        | true =>
          refine iteF ?_
          exact ⟨_, _, rfl, e3.trans e4, fun _ => q1 (by decide), fun _ => rfl, fun z => absurd z (by decide)⟩
      · refine ⟨t3, _, rfl, SqT.of (e3 _ _ k3), rfl, _, _, rfl, _, _, rfl, rfl, ?_⟩
        refine ⟨_, rfl, _, rfl, _, rfl, _, rfl, n, r, u3, u1, w1, w', o, c, a, p, rfl, hh3, th3.2.2, th3.1, h13, n3', n1, sw, sc, sa, sp, fun H4 e4 => ⟨_, rfl, ?_⟩⟩
        cases hl : lft w' o c a p with
        | false =>
          refine iteT ?_
          have kk := k H4 (E3.trans e4)
          unfold own3 at kk
          rw [hl, Bool.and_false, Bool.and_false] at kk
          exact kk
        | true =>
          refine iteF ?_
          exact ⟨_, _, rfl, e3.trans e4, fun _ => q1 (by decide), fun _ => q2 (by decide), fun _ => rfl⟩
    · rintro σ H3 ⟨v4, v5, rfl, e3, q1, q2, q3⟩
      have kk := k H3 ((e1.trans e2).trans e3)
      unfold own3 at kk
      rw [q1 (by show 3 ≥ 1; decide), q2 (by show 3 ≥ 2; decide), q3 (by show 3 ≥ 3; decide)] at kk
      exact kk
theorem sm1 : Sm 900 (-1) := by
  unfold Sm
  exact Nat.one_lt_two_pow (by decide)
theorem scShift : FnScope ["half", "turned"] ["half"] (defScope sShift) := ⟨rfl, rfl, rfl, by decide +kernel, rfl, by decide +kernel, by decide +kernel⟩
theorem ok_shift {f : Addr} {fd : FuncData} (F : Fun K "shift_of" "shift_of" sShift f fd) (h : HDefs K mg C CH fId fHI fWG fWS fAG fAS fHs fCl fEq pW pA fdId fdHI fdWG fdWS fdAG fdAS fdHs fdCl fdEq) (D : Defs K mg C fW fI fP fA fO fdW fdI fdP fdA fdO)
    (FQ : Fun K "quarter" "quarter" sQuarter fQ fdQ) (bQ : Binds K fdQ ["point"] []) (mQ : mg "quarter" = some (.ref fQ)) (FM : Fun K "__mul__" "Point.__mul__" sMul fM fdM) (bM : Binds K fdM ["self", "other"] []) (oM : OwnMul K C fM fRm) : FnOk P w K mg base CX0 6 f fd ["half"] (spShift C CH) := by
  have GQ : FnOk P w K mg base CX0 5 fQ fdQ ["point"] (spQuarter C) := ok_quarter FQ D
  have GM : FnOk P w K mg base CX0 4 fM fdM ["self", "other"] (spMul C) := ok_mul FM D
  have GW : FnOk P w K mg base CX0 1 fWG fdWG ["self"] (spWayG C CH) := h.GWG
  have GA : FnOk P w K mg base CX0 1 fAG fdAG ["self"] (spAhG C CH) := h.GAG
  refine F.ok scShift (fun vs H Q E h => ?_) (fun cdv A outer s H vs Q E hr hq => ?_)
  · obtain ⟨r, w', o, rfl, _⟩ := h
    rfl
  · obtain ⟨r, w', o, rfl, hh, sw, k⟩ := hq
    have hr2 : Room 2 _ := hr.mono (by decide)
    have hr4 : Room 4 _ := hr.mono (by decide)
    refine ⟨_, pss_cons (ps_set (i := 1) scShift.nd rfl (Or.inl rfl) (pe_call GQ hr rfl mQ FQ.kp bQ .nil pass0 (pa_cons (pe_prop (pv 0) h.TH.cl h.pWG GW hr2 h.bWG .nil pass0 rfl) pa_nil)))
      (pss_cons (ps_if (pt_val (pe_prop (pv 0) h.TH.cl h.pAG GA hr2 h.bAG .nil pass0 rfl)) (pss_one (ps_ret (pe_tup (pa_cons (pe_op (op_ownMul oM GM hr4 bM pass0) (pe_prop (pv 0) h.TH.cl h.pWG GW hr2 h.bWG .nil pass0 rfl) (pe_un un_neg pe_int)) (pa_cons (pv 1) pa_nil))))) pss_nil)
      (pss_one (ps_ret (pe_tup (pa_cons (pe_op (op_ownMul oM GM hr4 bM pass0) (pe_prop (pv 0) h.TH.cl h.pWG GW hr2 h.bWG .nil pass0 rfl) (pe_un un_neg pe_int)) (pa_cons (pe_op (op_ownMul oM GM hr4 bM pass0) (pv 1) (pe_un un_neg pe_int)) pa_nil)))))), ?_⟩
    obtain ⟨a, dx, q, rfl, h1, h2⟩ := id hh
    refine ⟨_, rfl, a, dx, _, rfl, h1, _, w', o, rfl, hh, fun u hu => ⟨u, w'.1, w'.2, rfl, hu.pt, fun tq H1 e1 ht => ?_⟩⟩
    refine ⟨_, rfl, a, dx, _, rfl, e1 _ _ h1, _, w', o, rfl, hh.ex e1, o, rfl, ?_⟩
    have cm : ∀ z : Int, Sm 900 z → CMulW z (-1) := fun z hz => hz.mul sm1 (by decide) (by decide)
    have s3 : Sm 900 (-w'.2) := by
      have := sw.2
      unfold Sm at *
      rw [Int.natAbs_neg]
      exact this
    cases o with
    | true =>
      refine iteT ?_
      refine ⟨_, rfl, a, dx, _, rfl, e1 _ _ h1, _, w', true, rfl, hh.ex e1, fun u hu => ?_⟩
      obtain ⟨a2, d2, q2, z2⟩ := id hu
      refine ⟨_, rfl, a2, d2, _, _, q2, z2, rfl, u, w'.1, w'.2, _, rfl, hu, cm _ sw.1, cm _ sw.2, fun v2 H2 e2 i2 => ?_⟩
      refine ⟨_, rfl, (by show 2 ≤ sizeLine; decide), fun t nt => ?_⟩
      have g := same_new (o := .tup [v2, tq]) nt
      exact k t v2 tq _ ((e1.trans e2).trans g) upd_same (i2.ex g) ((ht.ex e2).ex g)
    | false =>
      refine iteF ?_
      refine ⟨_, rfl, a, dx, _, rfl, e1 _ _ h1, _, w', false, rfl, hh.ex e1, fun u hu => ?_⟩
      obtain ⟨a2, d2, q2, z2⟩ := id hu
      refine ⟨_, rfl, a2, d2, _, _, q2, z2, rfl, u, w'.1, w'.2, _, rfl, hu, cm _ sw.1, cm _ sw.2, fun v2 H2 e2 i2 => ?_⟩
      have ht2 := ht.ex e2
      obtain ⟨a3, d3, q3, z3⟩ := id ht2
      refine ⟨_, rfl, _, rfl, a3, d3, _, _, q3, z3, rfl, tq, -w'.2, w'.1, _, rfl, ht2, cm _ s3, cm _ sw.1, fun v3 H3 e3 i3 => ?_⟩
      refine ⟨(by show 2 ≤ sizeLine; decide), fun t nt => ?_⟩
      have g := same_new (o := .tup [v2, v3]) nt
      exact k t v2 v3 _ ((e1.trans (e2.trans e3)).trans g) upd_same ((i2.ex e3).ex g) (i3.ex g)
end
end Fo

set_option Elab.async false
set_option linter.all false
set_option maxRecDepth 100000
set_option maxHeartbeats 2000000
namespace Fo
open PySem L2
/-! ### owns_shifted, scale_for -/
abbrev sOwnsS : Stmt := top 20
abbrev sScale : Stmt := top 21
theorem Sm.mulS {n m : Nat} {x y : Int} (hx : Sm n x) (hy : Sm m y) : Sm (n + m) (x * y) := by
  unfold Sm at *
  rw [Int.natAbs_mul, Nat.pow_add]
  exact Nat.mul_lt_mul'' hx hy
def mlP (p : I2) (m : Int) : I2 := (p.1 * m, p.2 * m)
theorem Sm2.mulS {n m : Nat} {p : I2} {y : Int} (hx : Sm2 n p) (hy : Sm m y) : Sm2 (n + m) (mlP p y) := ⟨hx.1.mulS hy, hx.2.mulS hy⟩
/-- the point that is moved, all at the scale -/
def mvS (w : J2) (o : Bool) (p : I2) (s : Int) : I2 := mv (mv (mlP p (s * s)) (mlP (sh1 w) s)) (sh2 w o)
def sdS (w : J2) (o : Bool) (a b p : I2) (s : Int) : Int := sd (mlP a (s * s)) (mlP b (s * s)) (mvS w o p s)
def inS (w : J2) (o : Bool) (a b c p : I2) (s : Int) : Bool := decide (0 < sdS w o a b p s) && (decide (0 < sdS w o b c p s) && decide (0 < sdS w o c a p s))
theorem Sm2.shA {n : Nat} {w : J2} (h : Sm2 n w) : Sm2 n (sh1 w) := by
  obtain ⟨h1, h2⟩ := h
  unfold Sm at *
  refine ⟨?_, ?_⟩
  · show (w.1 * -1).natAbs < 2 ^ n
    omega
  · show (w.2 * -1).natAbs < 2 ^ n
    omega
theorem Sm2.shB {n : Nat} {w : J2} {o : Bool} (h : Sm2 n w) : Sm2 n (sh2 w o) := by
  obtain ⟨h1, h2⟩ := h
  unfold Sm at *
  unfold sh2
  cases o with
  | true =>
    refine ⟨?_, ?_⟩
    · show (-w.2).natAbs < 2 ^ n
      omega
    · exact h1
  | false =>
    refine ⟨?_, ?_⟩
    · show (-w.2 * -1).natAbs < 2 ^ n
      omega
    · show (w.1 * -1).natAbs < 2 ^ n
      omega
def spOwnsS (C CH CT : Addr) : Sp := fun vs H Q _ => ∃ (r t z : V) (s : Int) (w : J2) (o : Bool) (a b c p : I2), vs = [r, t, z, .int s] ∧ IsH C CH r w o H ∧ IsT C CT t a b c H ∧ IsPt2 C z p H ∧ 1 ≤ s ∧ Sm 40 s ∧ Sm2 10 w ∧ Sm2 10 a ∧ Sm2 10 b ∧ Sm2 10 c ∧ Sm2 10 p ∧ ∀ H', Same H H' → Q (.bl (inS w o a b c p s)) H'
def ecr (e s : I2) : Int := e.1 * s.2 - e.2 * s.1
/-- what the scale is above, for one edge -/
def eAb (w : J2) (o : Bool) (a b : I2) : Int := ((ecr (sbP b a) (sh1 w)).natAbs : Int) + ((ecr (sbP b a) (sh2 w o)).natAbs : Int)
def spScale (C CH CT : Addr) : Sp := fun vs H Q _ => ∃ (r t z : V) (w : J2) (o : Bool) (a b c p : I2), vs = [r, t, z] ∧ IsH C CH r w o H ∧ IsT C CT t a b c H ∧ IsPt2 C z p H ∧ Sm2 10 w ∧ Sm2 10 a ∧ Sm2 10 b ∧ Sm2 10 c ∧
  ∀ S H', Same H H' → eAb w o a b < S → eAb w o b c < S → eAb w o c a < S → (∃ a' b' : I2, Sm2 10 a' ∧ Sm2 10 b' ∧ S = 1 + eAb w o a' b') → Q (.int S) H'
section
variable {P : Program} {w : World} {K : PySem.W.Frag} {mg : Str → Option Value} {base : Heap}
variable {C fW fI fP fA fO fG fDr fL fX CH fId fHI fWG fWS fAG fAS fHs fCl fEq pW pA fPm CT fS fTI fCo fEd fAr fAd pAr fSb fQ fM fRm fSh : Addr} {fdW fdI fdP fdA fdO fdG fdDr fdL fdX fdId fdHI fdWG fdWS fdAG fdAS fdHs fdCl fdEq fdPm fdS fdTI fdCo fdEd fdAr fdAd fdSb fdQ fdM fdSh : FuncData}
abbrev osN : List Str := ["half", "triangle", "point", "scale", "place", "small", "smaller", "square", "moved", "a", "b"]
theorem scOwnsS : FnScope osN ["half", "triangle", "point", "scale"] (defScope sOwnsS) := ⟨rfl, rfl, rfl, by decide +kernel, rfl, by decide +kernel, by decide +kernel⟩
theorem ok_ownsS {f : Addr} {fd : FuncData} (F : Fun K "owns_shifted" "owns_shifted" sOwnsS f fd) (d : TDefs K mg C CT fS fTI fCo fEd fAr fEq fAd pAr fdS fdTI fdCo fdEd fdAr fdEq fdAd) (h : HDefs K mg C CH fId fHI fWG fWS fAG fAS fHs fCl fEq pW pA fdId fdHI fdWG fdWS fdAG fdAS fdHs fdCl fdEq) (D : Defs K mg C fW fI fP fA fO fdW fdI fdP fdA fdO)
    (FQ : Fun K "quarter" "quarter" sQuarter fQ fdQ) (bQ : Binds K fdQ ["point"] []) (mQ : mg "quarter" = some (.ref fQ)) (FM : Fun K "__mul__" "Point.__mul__" sMul fM fdM) (bM : Binds K fdM ["self", "other"] []) (oM : OwnMul K C fM fRm)
    (FSh : Fun K "shift_of" "shift_of" sShift fSh fdSh) (bSh : Binds K fdSh ["half"] []) (mSh : mg "shift_of" = some (.ref fSh)) : FnOk P w K mg base CX0 8 f fd ["half", "triangle", "point", "scale"] (spOwnsS C CH CT) := by
  have GW : FnOk P w K mg base CX0 1 fW fdW ["value"] spWhole := D.GW
  have GA : FnOk P w K mg base CX0 4 fA fdA ["thing"] (spAsPoint C) := D.GA
  have GSh : FnOk P w K mg base CX0 6 fSh fdSh ["half"] (spShift C CH) := ok_shift FSh h D FQ bQ mQ FM bM oM
  have GM : FnOk P w K mg base CX0 4 fM fdM ["self", "other"] (spMul C) := ok_mul FM D
  have GAd : FnOk P w K mg base CX0 6 fAd fdAd ["self", "other"] (spBin C (· + ·)) := ok_add d.FAd D
  have GS : FnOk P w K mg base CX0 7 fS fdS ["a", "b", "point"] (spSide C) := ok_side d.FS D
  have GE : FnOk P w K mg base CX0 1 fEd fdEd ["self"] (spEdges C CT) := d.GEd
  refine F.ok scOwnsS (fun vs H Q E h => ?_) (fun cdv A outer s H vs Q E hr hq => ?_)
  · obtain ⟨r, t, z, s', w', o, a, b, c, p, rfl, _⟩ := h
    rfl
  · obtain ⟨r, t, z, S, w', o, a, b, c, p, rfl, hh, ht, hz, s1, sS, sw, sa, sb, sc, sp, k⟩ := hq
    have hr4 : Room 4 _ := hr.mono (by decide)
    have hr6 : Room 6 _ := hr.mono (by decide)
    refine ⟨_, pss_cons (ps_set (i := 4) scOwnsS.nd rfl (Or.inl rfl) (pe_call GA hr4 rfl D.mA D.FA.kp D.bA .nil pass0 (pa_cons (pv 2) pa_nil)))
      (pss_cons (ps_if (PW.pt (pw_or (pt_not (pt_val (pe_call GW (hr.mono (by decide)) rfl D.mW D.FW.kp D.bW .nil pass0 (pa_cons (pv 3) pa_nil)))) (pw_or1 (pt_cmpR op_lt (pv 3) pe_int (nomark _))))) (pss_one ps_never) pss_nil)
      (pss_cons (ps_asg (pe_call GSh hr6 rfl mSh FSh.kp bSh .nil pass0 (pa_cons (pv 0) pa_nil)) (pg_tup rfl (pgs_cons (pg_name (i := 5) scOwnsS.nd rfl (Or.inl rfl)) (pgs_cons (pg_name (i := 6) scOwnsS.nd rfl (Or.inl rfl)) pgs_nil))))
      (pss_cons (ps_set (i := 7) scOwnsS.nd rfl (Or.inr rfl) (pe_op op_mulW (pv 3) (pv 3)))
      (pss_cons (ps_set (i := 8) scOwnsS.nd rfl (Or.inr rfl) (pe_op (op_own d.oAd FoOps.tup_add GAd hr6 d.bAd pass0) (pe_op (op_own d.oAd FoOps.tup_add GAd hr6 d.bAd pass0) (pe_op (op_ownMul oM GM hr4 bM pass0) (pv 4) (pv 7)) (pe_op (op_ownMul oM GM hr4 bM pass0) (pv 5) (pv 3))) (pv 6)))
      (pss_one (ps_ret (pe_callB (cr_all rfl) (by rfl) d.TT.all (by decide +kernel) (pa_cons
        (pe_lc (own := [("a", 9), ("b", 10)]) (g := gTup K 2 (gCons (gName 9) (gCons (gName 10) gNil))) (tt := tYes) rfl scOwnsS.nd (pi_list (pe_meth0 (pv 1) d.TT.cl d.mEd GE (hr.mono (by decide)) d.bEd .nil pass0))
          (blkOk_by (own := [("a", 9), ("b", 10)]) (N := osN) (sc := defScope sOwnsS) (by decide +kernel))
          (fun _ _ _ _ _ => pg_tup rfl (pgs_cons (pg_name (i := 9) scOwnsS.nd rfl (Or.inl rfl)) (pgs_cons (pg_name (i := 10) scOwnsS.nd rfl (Or.inl rfl)) pgs_nil)))
          (fun _ _ _ _ _ => pts_nil)
          (fun _ _ _ _ _ => pe_cmpR op_gt (pe_call GS hr rfl d.mS d.FS.kp d.bS .nil pass0 (pa_cons (pe_op (op_ownMul oM GM hr4 bM pass0) (pv 9) (pv 7)) (pa_cons (pe_op (op_ownMul oM GM hr4 bM pass0) (pv 10) (pv 7)) (pa_cons (pv 8) pa_nil)))) pe_int (nomark _))) pa_nil)))))))), ?_⟩
    have sq : Sm 80 (S * S) := sS.mulS sS
    have cm : ∀ {n m : Nat} {x y : Int}, Sm n x → Sm m y → n ≤ 100 → m ≤ 100 → CMulW x y := fun {n m x y} hx hy h1 h2 => (hx.up h1).mul (hy.up h2) (by decide) (by decide)
    refine ⟨_, rfl, z, p.1, p.2, rfl, hz, fun pl H1 e1 hpl _ => ?_⟩
    refine ⟨_, rfl, S, rfl, true, rfl, ?_⟩
    refine iteF ?_
    refine ⟨_, rfl, _, _, rfl, rfl, _, rfl, ?_⟩
    rw [decide_eq_false (by omega : ¬ S < 1)]
    refine iteF ?_
    refine ⟨_, rfl, r, w', o, rfl, hh.ex e1, sw.up (by decide), fun tt u1 u2 H2 e2 htt i1 i2 => ?_⟩
    refine ⟨tt, _, rfl, SqT.of htt, rfl, _, _, rfl, _, _, rfl, rfl, ?_⟩
    refine ⟨_, rfl, _, rfl, _, _, rfl, rfl, cm sS sS (by decide) (by decide), ?_⟩
    -- moved
    have hp2 := hpl.ex e2
    obtain ⟨a2, d2, q2, z2⟩ := id hp2
    refine ⟨_, rfl, _, rfl, a2, d2, _, _, q2, z2, rfl, pl, p.1, p.2, _, rfl, hp2, cm sp.1 sq (by decide) (by decide), cm sp.2 sq (by decide) (by decide), fun m1 H3 e3 j1 => ?_⟩
    have i13 := i1.ex e3
    obtain ⟨a3, d3, q3, z3⟩ := id i13
    refine ⟨_, rfl, _, rfl, a3, d3, _, _, q3, z3, rfl, u1, _, _, _, rfl, i13, cm sw.shA.1 sS (by decide) (by decide), cm sw.shA.2 sS (by decide) (by decide), fun m2 H4 e4 j2 => ?_⟩
    have j14 := j1.ex e4
    obtain ⟨a4, d4, q4, z4⟩ := id j14
    refine ⟨a4, d4, _, q4, z4, j2.pt.opnd, m1, m2, _, _, _, _, rfl, j14, j2.pt, fun m3 H5 e5 j3 => ?_⟩
    have i25 := ((i2.ex e3).ex e4).ex e5
    obtain ⟨a5, d5, q5, z5⟩ := id j3
    refine ⟨_, rfl, a5, d5, _, q5, z5, i25.pt.opnd, m3, u2, _, _, _, _, rfl, j3, i25.pt, fun m4 H6 e6 j4 => ?_⟩
    have E6 := ((e1.trans e2).trans (e3.trans e4)).trans (e5.trans e6)
    have ht6 := ht.ex E6
    have j4' : IsP C m4 (mvS w' o p S).1 (mvS w' o p S).2 H6 := j4
    have sm : Sm2 95 (mvS w' o p S) := by
      have h1 : Sm2 90 (mlP p (S * S)) := sp.mulS sq
      have h2 : Sm2 50 (mlP (sh1 w') S) := sw.shA.mulS sS
      have h3 : Sm2 91 (mv (mlP p (S * S)) (mlP (sh1 w') S)) := h1.mv (h2.up (by decide))
      have h4 : Sm2 92 (mvS w' o p S) := h3.mv ((Sm2.shB (o := o) sw).up (by decide))
      exact h4.up (by decide)
    obtain ⟨tq, dx, l, v1, v2, v3, rfl, g1, _⟩ := id ht6
    refine ⟨_, rfl, tq, dx, _, rfl, g1, tipF_no _ (by decide +kernel), _, a, b, c, rfl, ht6, fun v H7 e7 hE => ?_⟩
    obtain ⟨m, t1, t2, t3, y1, y2, y3, rfl, g0, k1, k2, k3, th⟩ := hE
    refine ⟨m, rfl, ⟨_, SqL.of g0⟩, fun D0 nD => ?_⟩
    refine lc_all (K := K) (xs := [.ref t1, .ref t2, .ref t3]) (sl := [9, 10]) (fun i v _ => v = .bl (decide (0 < (if i = 0 then sdS w' o a b p S else if i = 1 then sdS w' o b c p S else sdS w' o c a p S)))) (fun _ _ _ _ _ h => h) (fun _ _ _ _ _ _ _ _ h => h) (SqL.of g0) (by show 3 ≤ 1000; decide) ?_ ?_ nD
    · intro i x H8 hx e8 Q' k'
      have th8 := th.ex e8
      have j8 := (j4'.ex e7).ex e8
      have go : ∀ (vx vy : V) (px py : I2), IsP C vx px.1 px.2 H8 → IsP C vy py.1 py.2 H8 → Sm2 10 px → Sm2 10 py → (∀ H9, Same H8 H9 → Q' (.bl (decide (0 < sdS w' o px py p S))) H9) →
          ∃ ax dx fx, vx = .ref ax ∧ H8 ax = some (.ins C dx fx) ∧ ∃ (v' : V) (x y m : Int), [vx, V.int (S * S)] = [v', .int m] ∧ IsP C v' x y H8 ∧ CMulW x m ∧ CMulW y m ∧ ∀ w1 H9, Same H8 H9 → IsP C w1 (x * m) (y * m) H9 →
            ∃ ay dy fy, vy = .ref ay ∧ H9 ay = some (.ins C dy fy) ∧ ∃ (v'' : V) (x' y' m' : Int), [vy, V.int (S * S)] = [v'', .int m'] ∧ IsP C v'' x' y' H9 ∧ CMulW x' m' ∧ CMulW y' m' ∧ ∀ w2 H10, Same H9 H10 → IsP C w2 (x' * m') (y' * m') H10 →
              ∃ (n : Nat) (a' b' p' : V) (ax' ay' bx' by'' px' py' : Int), [w1, w2, m4] = [a', b', p'] ∧ IsPt C a' ax' ay' H10 ∧ IsPt C b' bx' by'' H10 ∧ IsPt C p' px' py' H10 ∧ n < 1000 ∧ Sm n ax' ∧ Sm n ay' ∧ Sm n bx' ∧ Sm n by'' ∧ Sm n px' ∧ Sm n py' ∧ ∀ H11, Same H10 H11 → Q' (.bl (decide (0 < sideI ax' ay' bx' by'' px' py'))) H11 := fun vx vy px py hx hy sx sy kk => by
        obtain ⟨ax, dx', rfl, hax⟩ := id hx
        refine ⟨ax, dx', _, rfl, hax, _, px.1, px.2, _, rfl, hx, cm sx.1 sq (by decide) (by decide), cm sx.2 sq (by decide) (by decide), fun w1 H9 e9 i9 => ?_⟩
        have hy9 := hy.ex e9
        obtain ⟨ay, dy', rfl, hay⟩ := id hy9
        refine ⟨ay, dy', _, rfl, hay, _, py.1, py.2, _, rfl, hy9, cm sy.1 sq (by decide) (by decide), cm sy.2 sq (by decide) (by decide), fun w2 H10 e10 i10 => ?_⟩
        have s1 : Sm2 95 (mlP px (S * S)) := (sx.mulS sq).up (by decide)
        have s2 : Sm2 95 (mlP py (S * S)) := (sy.mulS sq).up (by decide)
        exact ⟨95, w1, w2, m4, _, _, _, _, _, _, rfl, (i9.ex e10).pt, i10.pt, ((j8.ex e9).ex e10).pt, by decide, s1.1, s1.2, s2.1, s2.2, sm.1, sm.2, fun H11 e11 => kk H11 ((e9.trans e10).trans e11)⟩
      rcases two3 hx with ⟨rfl, rfl⟩ | ⟨rfl, rfl⟩ | ⟨rfl, rfl⟩
      · refine ⟨t1, _, rfl, SqT.of (e8 _ _ k1), rfl, _, _, rfl, _, _, rfl, rfl, rfl, ?_⟩
        obtain ⟨ax, dx', fx, rfl, hax, v', xx, yy, mm, q0, i0, c1, c2, kk⟩ := go y1 y2 a b th8.1 th8.2.1 sa sb (fun H9 e9 => k' _ _ e9 rfl)
        refine ⟨_, rfl, _, rfl, ax, dx', fx, _, rfl, hax, rfl, v', xx, yy, mm, q0, i0, c1, c2, fun w1 H9 e9 i9 => ?_⟩
        obtain ⟨ay, dy', fy, rfl, hay, v'', xx', yy', mm', q1, i1', c3, c4, kk⟩ := kk w1 H9 e9 i9
        refine ⟨_, rfl, _, rfl, ay, dy', fy, _, rfl, hay, rfl, v'', xx', yy', mm', q1, i1', c3, c4, fun w2 H10 e10 i10 => ?_⟩
        obtain ⟨n, a', b', p', r1, r2, r3, r4, r5, r6, q2, z1, z2, z3, z4, z5, z6, z7, z8, z9, z10, kk⟩ := kk w2 H10 e10 i10
        exact ⟨_, rfl, n, a', b', p', r1, r2, r3, r4, r5, r6, q2, z1, z2, z3, z4, z5, z6, z7, z8, z9, z10, fun H11 e11 => ⟨_, _, rfl, rfl, kk H11 e11⟩⟩
      · refine ⟨t2, _, rfl, SqT.of (e8 _ _ k2), rfl, _, _, rfl, _, _, rfl, rfl, rfl, ?_⟩
        obtain ⟨ax, dx', fx, rfl, hax, v', xx, yy, mm, q0, i0, c1, c2, kk⟩ := go y2 y3 b c th8.2.1 th8.2.2 sb sc (fun H9 e9 => k' _ _ e9 rfl)
        refine ⟨_, rfl, _, rfl, ax, dx', fx, _, rfl, hax, rfl, v', xx, yy, mm, q0, i0, c1, c2, fun w1 H9 e9 i9 => ?_⟩
        obtain ⟨ay, dy', fy, rfl, hay, v'', xx', yy', mm', q1, i1', c3, c4, kk⟩ := kk w1 H9 e9 i9
        refine ⟨_, rfl, _, rfl, ay, dy', fy, _, rfl, hay, rfl, v'', xx', yy', mm', q1, i1', c3, c4, fun w2 H10 e10 i10 => ?_⟩
        obtain ⟨n, a', b', p', r1, r2, r3, r4, r5, r6, q2, z1, z2, z3, z4, z5, z6, z7, z8, z9, z10, kk⟩ := kk w2 H10 e10 i10
        exact ⟨_, rfl, n, a', b', p', r1, r2, r3, r4, r5, r6, q2, z1, z2, z3, z4, z5, z6, z7, z8, z9, z10, fun H11 e11 => ⟨_, _, rfl, rfl, kk H11 e11⟩⟩
      · refine ⟨t3, _, rfl, SqT.of (e8 _ _ k3), rfl, _, _, rfl, _, _, rfl, rfl, rfl, ?_⟩
        obtain ⟨ax, dx', fx, rfl, hax, v', xx, yy, mm, q0, i0, c1, c2, kk⟩ := go y3 y1 c a th8.2.2 th8.1 sc sa (fun H9 e9 => k' _ _ e9 rfl)
        refine ⟨_, rfl, _, rfl, ax, dx', fx, _, rfl, hax, rfl, v', xx, yy, mm, q0, i0, c1, c2, fun w1 H9 e9 i9 => ?_⟩
        obtain ⟨ay, dy', fy, rfl, hay, v'', xx', yy', mm', q1, i1', c3, c4, kk⟩ := kk w1 H9 e9 i9
        refine ⟨_, rfl, _, rfl, ay, dy', fy, _, rfl, hay, rfl, v'', xx', yy', mm', q1, i1', c3, c4, fun w2 H10 e10 i10 => ?_⟩
        obtain ⟨n, a', b', p', r1, r2, r3, r4, r5, r6, q2, z1, z2, z3, z4, z5, z6, z7, z8, z9, z10, kk⟩ := kk w2 H10 e10 i10
        exact ⟨_, rfl, n, a', b', p', r1, r2, r3, r4, r5, r6, q2, z1, z2, z3, z4, z5, z6, z7, z8, z9, z10, fun H11 e11 => ⟨_, _, rfl, rfl, kk H11 e11⟩⟩
    · intro H8 vs e8 hv hlen hR
      obtain ⟨x1, x2, x3, rfl⟩ := len3' hlen
      have r1 := hR 0 x1 rfl
      have r2 := hR 1 x2 rfl
      have r3 := hR 2 x3 rfl
      subst r1 r2 r3
      refine ⟨D0, [decide (0 < sdS w' o a b p S), decide (0 < sdS w' o b c p S), decide (0 < sdS w' o c a p S)], rfl, SqL.of hv, ?_⟩
      have e : ([decide (0 < sdS w' o a b p S), decide (0 < sdS w' o b c p S), decide (0 < sdS w' o c a p S)].all id) = inS w' o a b c p S := by simp [inS]
      rw [e]
      exact k _ (E6.trans (e7.trans e8))
end
end Fo

set_option Elab.async false
set_option linter.all false
set_option maxRecDepth 100000
set_option maxHeartbeats 2000000
namespace Fo
open PySem L2
/-! ### scale_for -/
section
variable {P : Program} {w : World} {K : PySem.W.Frag} {mg : Str → Option Value} {base : Heap}
variable {C fW fI fP fA fO fG fDr fL fX CH fId fHI fWG fWS fAG fAS fHs fCl fEq pW pA fPm CT fS fTI fCo fEd fAr fAd pAr fSb fQ fM fRm fSh : Addr} {fdW fdI fdP fdA fdO fdG fdDr fdL fdX fdId fdHI fdWG fdWS fdAG fdAS fdHs fdCl fdEq fdPm fdS fdTI fdCo fdEd fdAr fdAd fdSb fdQ fdM fdSh : FuncData}
abbrev slN : List Str := ["half", "triangle", "point", "small", "smaller", "ways", "a", "b", "way"]
theorem scScale : FnScope slN ["half", "triangle", "point"] (defScope sScale) := ⟨rfl, rfl, rfl, by decide +kernel, rfl, by decide +kernel, by decide +kernel⟩
theorem abs_nat (i : Int) : (if i < 0 then -i else i) = (i.natAbs : Int) := by
  split <;> omega
theorem cross_no'' (x y : Int) : (ptF x y).lookup ("cross" : Str) = none := ptF_no _ _ (by decide +kernel) (by decide +kernel)
def eN (w : J2) (o : Bool) (a b c : I2) (i : Nat) : Int := if i = 0 then eAb w o a b else if i = 1 then eAb w o b c else eAb w o c a
def eW (a b c : I2) (i : Nat) : I2 := if i = 0 then sbP b a else if i = 1 then sbP c b else sbP a c
theorem ok_scale {f : Addr} {fd : FuncData} (F : Fun K "scale_for" "scale_for" sScale f fd) (d : TDefs K mg C CT fS fTI fCo fEd fAr fEq fAd pAr fdS fdTI fdCo fdEd fdAr fdEq fdAd) (h : HDefs K mg C CH fId fHI fWG fWS fAG fAS fHs fCl fEq pW pA fdId fdHI fdWG fdWS fdAG fdAS fdHs fdCl fdEq) (D : Defs K mg C fW fI fP fA fO fdW fdI fdP fdA fdO) (L : DirL K mg C fG fDr fL fX fdG fdDr fdL fdX)
    (FSb : Fun K "__sub__" "Point.__sub__" sSub fSb fdSb) (bSb : Binds K fdSb ["self", "other"] []) (oSb : OwnOp K C .Sub fSb)
    (FQ : Fun K "quarter" "quarter" sQuarter fQ fdQ) (bQ : Binds K fdQ ["point"] []) (mQ : mg "quarter" = some (.ref fQ)) (FM : Fun K "__mul__" "Point.__mul__" sMul fM fdM) (bM : Binds K fdM ["self", "other"] []) (oM : OwnMul K C fM fRm)
    (FSh : Fun K "shift_of" "shift_of" sShift fSh fdSh) (bSh : Binds K fdSh ["half"] []) (mSh : mg "shift_of" = some (.ref fSh)) (zA : mg "abs" = none) (zM : mg "max" = none) (zI : mg "int" = none) : FnOk P w K mg base CX0 8 f fd ["half", "triangle", "point"] (spScale C CH CT) := by
  have GA : FnOk P w K mg base CX0 4 fA fdA ["thing"] (spAsPoint C) := D.GA
  have GSh : FnOk P w K mg base CX0 6 fSh fdSh ["half"] (spShift C CH) := ok_shift FSh h D FQ bQ mQ FM bM oM
  have GB : FnOk P w K mg base CX0 6 fSb fdSb ["self", "other"] (spBin C (· - ·)) := ok_sub FSb D
  have GX : FnOk P w K mg base CX0 5 fX fdX ["self", "other"] (spCross C) := ok_cross L.FX D
  have GE : FnOk P w K mg base CX0 1 fEd fdEd ["self"] (spEdges C CT) := d.GEd
  refine F.ok scScale (fun vs H Q E h => ?_) (fun cdv A outer s H vs Q E hr hq => ?_)
  · obtain ⟨r, t, z, w', o, a, b, c, p, rfl, _⟩ := h
    rfl
  · obtain ⟨r, t, z, w', o, a, b, c, p, rfl, hh, ht, hz, sw, sa, sb, sc, k⟩ := hq
    have hr4 : Room 4 _ := hr.mono (by decide)
    have hr5 : Room 5 _ := hr.mono (by decide)
    have hr6 : Room 6 _ := hr.mono (by decide)
    refine ⟨_, pss_cons (ps_expr (pe_call GA hr4 rfl D.mA D.FA.kp D.bA .nil pass0 (pa_cons (pv 2) pa_nil)))
      (pss_cons (ps_asg (pe_call GSh hr6 rfl mSh FSh.kp bSh .nil pass0 (pa_cons (pv 0) pa_nil)) (pg_tup rfl (pgs_cons (pg_name (i := 3) scScale.nd rfl (Or.inr rfl)) (pgs_cons (pg_name (i := 4) scScale.nd rfl (Or.inr rfl)) pgs_nil))))
      (pss_cons (ps_setLc (i := 5) (own := [("a", 6), ("b", 7)]) (g := gTup K 2 (gCons (gName 6) (gCons (gName 7) gNil))) (tt := tYes) rfl scScale.nd rfl rfl (sw_true rfl rfl rfl (by decide +kernel)) (pi_list (pe_meth0 (pv 1) d.TT.cl d.mEd GE (hr.mono (by decide)) d.bEd .nil pass0))
          (blkOk_by (own := [("a", 6), ("b", 7)]) (N := slN) (sc := defScope sScale) (by decide +kernel))
          (fun _ _ _ _ _ => pg_tup rfl (pgs_cons (pg_name (i := 6) scScale.nd rfl (Or.inl rfl)) (pgs_cons (pg_name (i := 7) scScale.nd rfl (Or.inl rfl)) pgs_nil)))
          (fun _ _ _ _ _ => pts_nil)
          (fun _ _ _ _ _ => pe_op (op_own oSb FoOps.tup_sub GB hr6 bSb pass0) (pv 7) (pv 6)))
      (pss_one (ps_ret (pe_op op_add pe_int (pe_callB (cr_max rfl) (by rfl) zM (by decide +kernel) (pa_cons
        (pe_lc (own := [("way", 8)]) (g := gName 8) (tt := tYes) rfl scScale.nd (pi_list (pv 5))
          (blkOk_by (own := [("way", 8)]) (N := slN) (sc := defScope sScale) (by decide +kernel))
          (fun _ _ _ _ _ => pg_name (i := 8) scScale.nd rfl (Or.inl rfl))
          (fun _ _ _ _ _ => pts_nil)
          (fun _ _ _ _ _ => pe_callTy call_int1 (by rfl) zI (by decide +kernel) (pa_cons (pe_op op_add
            (pe_callB call_abs (by rfl) zA (by decide +kernel) (pa_cons (pe_meth (pv 8) D.T.cl L.mX GX hr5 L.bX .nil pass0 (pa_cons (pv 3) pa_nil)) pa_nil))
            (pe_callB call_abs (by rfl) zA (by decide +kernel) (pa_cons (pe_meth (pv 8) D.T.cl L.mX GX hr5 L.bX .nil pass0 (pa_cons (pv 4) pa_nil)) pa_nil))) pa_nil))) pa_nil))))))), ?_⟩
    refine ⟨_, rfl, z, p.1, p.2, rfl, hz, fun pl H1 e1 hpl _ => ?_⟩
    refine ⟨_, rfl, r, w', o, rfl, hh.ex e1, sw.up (by decide), fun tt u1 u2 H2 e2 htt i1 i2 => ?_⟩
    refine ⟨tt, _, rfl, SqT.of htt, rfl, _, _, rfl, _, _, rfl, rfl, ?_⟩
    have ht2 := ht.ex (e1.trans e2)
    obtain ⟨tq, dx, l, v1, v2, v3, rfl, g1, _⟩ := id ht2
    refine ⟨_, rfl, tq, dx, _, rfl, g1, tipF_no _ (by decide +kernel), _, a, b, c, rfl, ht2, fun v H3 e3 hE => ?_⟩
    obtain ⟨m, t1, t2, t3, y1, y2, y3, rfl, g0, k1, k2, k3, th⟩ := hE
    refine ⟨m, rfl, ⟨_, SqL.of g0⟩, fun D0 nD => ?_⟩
    refine lc_all (K := K) (xs := [.ref t1, .ref t2, .ref t3]) (sl := [6, 7]) (fun i v H => IsP C v (eW a b c i).1 (eW a b c i).2 H) (fun _ _ _ _ e h => h.ex e) (fun _ _ _ _ _ _ hD bt h => h.but hD bt) (SqL.of g0) (by show 3 ≤ 1000; decide) ?_ ?_ nD
    · intro i x H8 hx e8 Q' k'
      have th8 := th.ex e8
      have go : ∀ (vx vy : V) (px py : I2), IsP C vx px.1 px.2 H8 → IsP C vy py.1 py.2 H8 → (∀ v H9, Same H8 H9 → IsP C v (sbP py px).1 (sbP py px).2 H9 → Q' v H9) →
          ∃ ay dy fy, vy = .ref ay ∧ H8 ay = some (.ins C dy fy) ∧ ((∃ b dy gs, vx = .ref b ∧ H8 b = some (.ins C dy gs)) ∨ ∃ b xs, vx = .ref b ∧ H8 b = some (.tup xs)) ∧ ∃ (v u : V) (x y x' y' : Int), [vy, vx] = [v, u] ∧ IsP C v x y H8 ∧ IsPt C u x' y' H8 ∧ ∀ w1 H', Same H8 H' → IsP C w1 (x - x') (y - y') H' → Q' w1 H' := fun vx vy px py hx hy kk => by
        obtain ⟨ay, dy', rfl, hay⟩ := id hy
        exact ⟨ay, dy', _, rfl, hay, hx.pt.opnd, _, _, _, _, _, _, rfl, hy, hx.pt, fun w1 H' e' i' => kk w1 H' e' i'⟩
      rcases two3 hx with ⟨rfl, rfl⟩ | ⟨rfl, rfl⟩ | ⟨rfl, rfl⟩
      · refine ⟨t1, _, rfl, SqT.of (e8 _ _ k1), rfl, _, _, rfl, _, _, rfl, rfl, rfl, ?_⟩
        exact ⟨_, rfl, _, rfl, go y1 y2 a b th8.1 th8.2.1 (fun v H9 e9 i9 => k' _ _ e9 i9)⟩
      · refine ⟨t2, _, rfl, SqT.of (e8 _ _ k2), rfl, _, _, rfl, _, _, rfl, rfl, rfl, ?_⟩
        exact ⟨_, rfl, _, rfl, go y2 y3 b c th8.2.1 th8.2.2 (fun v H9 e9 i9 => k' _ _ e9 i9)⟩
      · refine ⟨t3, _, rfl, SqT.of (e8 _ _ k3), rfl, _, _, rfl, _, _, rfl, rfl, rfl, ?_⟩
        exact ⟨_, rfl, _, rfl, go y3 y1 c a th8.2.2 th8.1 (fun v H9 e9 i9 => k' _ _ e9 i9)⟩
    · intro H4 vs e4 hv hlen hR
      obtain ⟨x1, x2, x3, rfl⟩ := len3' hlen
      have r1 := hR 0 x1 rfl
      have r2 := hR 1 x2 rfl
      have r3 := hR 2 x3 rfl
      refine ⟨_, rfl, D0, rfl, ⟨_, SqL.of hv⟩, fun D1 nD1 => ?_⟩
      refine lc_all (K := K) (xs := [x1, x2, x3]) (sl := [8]) (fun i v _ => v = .int (eN w' o a b c i)) (fun _ _ _ _ _ h => h) (fun _ _ _ _ _ _ _ _ h => h) (SqL.of hv) (by show 3 ≤ 1000; decide) ?_ ?_ nD1
      · intro i x H8 hx e8 Q' k'
        have E8 := (e3.trans e4).trans e8
        have i18 := i1.ex E8
        have i28 := i2.ex E8
        have s1 := sw.shA
        have s2 := Sm2.shB (o := o) sw
        have fin : ∀ (px py : I2) (vx : V), IsP C vx (sbP py px).1 (sbP py px).2 H8 → Sm2 10 px → Sm2 10 py → (∀ H9, Same H8 H9 → Q' (.int (eAb w' o px py)) H9) →
            ∃ ax dx fx, vx = .ref ax ∧ H8 ax = some (.ins C dx fx) ∧ fx.lookup ("cross" : Str) = none ∧ ∃ (n : Nat) (v u : V) (x y z t : Int), [vx, u1] = [v, u] ∧ IsP C v x y H8 ∧ IsPt C u z t H8 ∧ 0 < n ∧ n ≤ 1000 ∧ Sm n x ∧ Sm n y ∧ Sm n z ∧ Sm n t ∧ ∀ H', Same H8 H' →
              ∃ ax' dx' fx', vx = .ref ax' ∧ H' ax' = some (.ins C dx' fx') ∧ fx'.lookup ("cross" : Str) = none ∧ ∃ (n : Nat) (v u : V) (x' y' z' t' : Int), [vx, u2] = [v, u] ∧ IsP C v x' y' H' ∧ IsPt C u z' t' H' ∧ 0 < n ∧ n ≤ 1000 ∧ Sm n x' ∧ Sm n y' ∧ Sm n z' ∧ Sm n t' ∧ ∀ H'', Same H' H'' →
                Q' (.int ((if x * t - y * z < 0 then -(x * t - y * z) else x * t - y * z) + (if x' * t' - y' * z' < 0 then -(x' * t' - y' * z') else x' * t' - y' * z'))) H'' := fun px py vx hx sx sy kk => by
          have sp := (sy.sb sx)
          obtain ⟨ax, dx', rfl, hax⟩ := id hx
          refine ⟨ax, dx', _, rfl, hax, cross_no'' _ _, 11, _, u1, _, _, _, _, rfl, hx, i18.pt, by decide, by decide, sp.1, sp.2, s1.1.up (by decide), s1.2.up (by decide), fun H9 e9 => ?_⟩
          have hx9 := hx.ex e9
          refine ⟨ax, dx', _, rfl, e9 _ _ hax, cross_no'' _ _, 11, _, u2, _, _, _, _, rfl, hx9, (i28.ex e9).pt, by decide, by decide, sp.1, sp.2, s2.1.up (by decide), s2.2.up (by decide), fun H10 e10 => ?_⟩
          rw [abs_nat, abs_nat]
          exact kk H10 (e9.trans e10)
        have pick : ∃ px py : I2, IsP C x (sbP py px).1 (sbP py px).2 H8 ∧ Sm2 10 px ∧ Sm2 10 py ∧ eN w' o a b c i = eAb w' o px py := by
          rcases two3 hx with ⟨rfl, rfl⟩ | ⟨rfl, rfl⟩ | ⟨rfl, rfl⟩
          · exact ⟨a, b, r1.ex e8, sa, sb, rfl⟩
          · exact ⟨b, c, r2.ex e8, sb, sc, rfl⟩
          · exact ⟨c, a, r3.ex e8, sc, sa, rfl⟩
        obtain ⟨px, py, hx', sx, sy, en⟩ := pick
        obtain ⟨ax, dx1, fx, rfl, hax, lx, n, v, u, x0, y0, z0, t0, q0, a1, a2, a3, a4, a5, a6, a7, a8, kk⟩ := fin px py x hx' sx sy (fun H9 e9 => k' _ _ e9 (by rw [en]))
        refine ⟨rfl, ⟨_, rfl, ax, dx1, fx, rfl, hax, lx, _, rfl, n, v, u, x0, y0, z0, t0, q0, a1, a2, a3, a4, a5, a6, a7, a8, fun H9 e9 => ?_⟩⟩
        obtain ⟨ax', dx', fx', q1, hax', lx', n', v', u', x1', y1', z1', t1', q2, b1, b2, b3, b4, b5, b6, b7, b8, kk⟩ := kk H9 e9
        cases q1
        refine ⟨_, rfl, ⟨_, rfl, ax, dx', fx', rfl, hax', lx', _, rfl, n', v', u', x1', y1', z1', t1', q2, b1, b2, b3, b4, b5, b6, b7, b8, fun H10 e10 => ?_⟩⟩
        exact ⟨_, rfl, _, _, rfl, rfl, .inl ⟨_, rfl, kk H10 e10⟩⟩
      · intro H8 vs e8 hv hlen hR
        obtain ⟨z1, z2, z3, rfl⟩ := len3' hlen
        have q1 := hR 0 z1 rfl
        have q2 := hR 1 z2 rfl
        have q3 := hR 2 z3 rfl
        subst q1 q2 q3
        refine ⟨D1, [eAb w' o a b, eAb w' o b c, eAb w' o c a], rfl, SqL.of hv, by show 0 < 3; decide, fun m hm hall => ?_⟩
        have h1 := hall (eAb w' o a b) (by simp)
        have h2 := hall (eAb w' o b c) (by simp)
        have h3 := hall (eAb w' o c a) (by simp)
        refine ⟨_, _, rfl, rfl, ?_⟩
        refine k (1 + m) H8 (((e1.trans e2).trans (e3.trans e4)).trans e8) (by omega) (by omega) (by omega) ?_
        simp only [List.mem_cons, List.not_mem_nil, or_false] at hm
        rcases hm with rfl | rfl | rfl
        · exact ⟨a, b, sa, sb, rfl⟩
        · exact ⟨b, c, sb, sc, rfl⟩
        · exact ⟨c, a, sc, sa, rfl⟩
end
end Fo

set_option Elab.async false
set_option linter.all false
set_option maxRecDepth 100000
set_option maxHeartbeats 2000000
namespace Fo
open PySem L2
/-! ### the mathematics of small shifts -/
theorem sdS_eq (w : J2) (o : Bool) (a b p : I2) (s : Int) : sdS w o a b p s = (s * s) * (sd a b p * (s * s) + ecr (sbP b a) (sh1 w) * s + ecr (sbP b a) (sh2 w o)) := by
  unfold sdS mvS mv mlP sd sideI ecr sbP
  generalize sh1 w = u
  generalize sh2 w o = v
  simp only []
  grind
theorem ecr_sh1 (w : J2) (e : I2) : ecr e (sh1 w) = crs w e := by
  unfold ecr sh1 crs
  grind
theorem ecr_sh2T (w : J2) (e : I2) : ecr e (sh2 w true) = dot w e := by
  unfold ecr sh2 dot
  simp only [if_pos]
  grind
theorem ecr_sh2F (w : J2) (e : I2) : ecr e (sh2 w false) = - dot w e := by
  unfold ecr sh2 dot
  simp only [Bool.false_eq_true, if_false]
  grind
theorem dot_ne {w e : I2} (hw : Dir w) (he : Dir e) (hc : crs w e = 0) : dot w e ≠ 0 := fun hd => by
  have h : (w.1 * w.1 + w.2 * w.2) * (e.1 * e.1 + e.2 * e.2) = 0 := by
    have : (w.1 * w.1 + w.2 * w.2) * (e.1 * e.1 + e.2 * e.2) = crs w e * crs w e + dot w e * dot w e := by
      unfold crs dot
      grind
    rw [this, hc, hd]
    rfl
  have pos : ∀ {u : I2}, Dir u → 0 < u.1 * u.1 + u.2 * u.2 := fun {u} hu => by
    have q : ∀ z : Int, 0 ≤ z * z := fun z => by
      rcases Int.le_total 0 z with h | h
      · exact Int.mul_nonneg h h
      · exact Int.mul_nonneg_of_nonpos_of_nonpos h h
    have q' : ∀ z : Int, z ≠ 0 → 0 < z * z := fun z hz => by
      rcases Int.lt_or_gt_of_ne hz with h | h
      · exact Int.mul_pos_of_neg_of_neg h h
      · exact Int.mul_pos h h
    rcases hu with h | h
    · have := q' _ h
      have := q u.2
      omega
    · have := q' _ h
      have := q u.1
      omega
  have := Int.mul_pos (pos hw) (pos he)
  omega
/-- with a scale above |q| + |r| the sign is that of the first that is not 0 -/
theorem lex_sign {d q r s : Int} (hs : (q.natAbs : Int) + (r.natAbs : Int) < s) : (0 < d * (s * s) + q * s + r) ↔ (0 < d ∨ (d = 0 ∧ (0 < q ∨ (q = 0 ∧ 0 < r)))) := by
  have s0 : 0 < s := by omega
  have hq : - s < q + 1 ∧ q < s := by omega
  have hr : - s < r ∧ r < s := by omega
  -- q * s + r lies between -(s*s) and s*s
  have key : ∀ z : Int, 0 < z → (q.natAbs : Int) + (r.natAbs : Int) < z → (q * z + r < z * z ∧ - (z * z) < q * z + r) := fun z z0 hz => by
    have h1 : (q + 1) * z ≤ z * z := Int.mul_le_mul_of_nonneg_right (by omega) (by omega)
    have h2 : (-z) * z ≤ (q - 1) * z := Int.mul_le_mul_of_nonneg_right (by omega) (by omega)
    have e1 : (q + 1) * z = q * z + z := by grind
    have e2 : (q - 1) * z = q * z - z := by grind
    have e3 : (-z) * z = - (z * z) := by grind
    rw [e1] at h1
    rw [e2, e3] at h2
    omega
  obtain ⟨k1, k2⟩ := key s s0 hs
  constructor
  · intro h
    rcases Int.lt_trichotomy d 0 with hd | hd | hd
    · exfalso
      have h3 : (d + 1) * (s * s) ≤ 0 := by
        have ss : 0 ≤ s * s := Int.mul_nonneg (by omega) (by omega)
        have := Int.mul_le_mul_of_nonneg_right (show d + 1 ≤ 0 by omega) ss
        rwa [Int.zero_mul] at this
      have e : (d + 1) * (s * s) = d * (s * s) + s * s := by grind
      rw [e] at h3
      omega
    · refine .inr ⟨hd, ?_⟩
      subst hd
      rw [Int.zero_mul, Int.zero_add] at h
      rcases Int.lt_trichotomy q 0 with hq' | hq' | hq'
      · exfalso
        have h3 : (q + 1) * s ≤ 0 := by
          have := Int.mul_le_mul_of_nonneg_right (show q + 1 ≤ 0 by omega) (show 0 ≤ s by omega)
          rwa [Int.zero_mul] at this
        have e : (q + 1) * s = q * s + s := by grind
        rw [e] at h3
        omega
      · subst hq'
        rw [Int.zero_mul, Int.zero_add] at h
        exact .inr ⟨rfl, h⟩
      · exact .inl hq'
    · exact .inl hd
  · rintro (hd | ⟨rfl, hq' | ⟨rfl, hr'⟩⟩)
    · have h3 : 0 ≤ (d - 1) * (s * s) := Int.mul_nonneg (by omega) (Int.mul_nonneg (by omega) (by omega))
      have e : (d - 1) * (s * s) = d * (s * s) - s * s := by grind
      rw [e] at h3
      omega
    · have h3 : 0 ≤ (q - 1) * s := Int.mul_nonneg (by omega) (by omega)
      have e : (q - 1) * s = q * s - s := by grind
      rw [e] at h3
      omega
    · omega
theorem pos_ss {s z : Int} (hs : 1 ≤ s) : 0 < (s * s) * z ↔ 0 < z := by
  have ss : 0 < s * s := Int.mul_pos (by omega) (by omega)
  constructor
  · intro h
    rcases Int.lt_or_le 0 z with h' | h'
    · exact h'
    · exfalso
      have := Int.mul_nonneg (Int.le_of_lt ss) (show 0 ≤ -z by omega)
      rw [Int.mul_neg] at this
      omega
  · exact Int.mul_pos ss
theorem hin_iff {w e : I2} {o : Bool} (hw : Dir w) (he : Dir e) : hin w o e = true ↔ (0 < crs w e ∨ (crs w e = 0 ∧ 0 < ecr e (sh2 w o))) := by
  unfold hin
  by_cases hc : crs w e = 0
  · rw [if_pos hc]
    have hd := dot_ne hw he hc
    cases o with
    | true =>
      rw [ecr_sh2T]
      simp [hc]
    | false =>
      rw [ecr_sh2F]
      simp [hc]
      omega
  · rw [if_neg hc]
    simp [hc]
theorem lftS {w : J2} {o : Bool} {a b p : I2} {s : Int} (hw : Dir w) (ne : a ≠ b) (hs : eAb w o a b < s) : decide (0 < sdS w o a b p s) = lft w o a b p := by
  have s1 : 1 ≤ s := by
    unfold eAb at hs
    omega
  have h1 : 0 < sdS w o a b p s ↔ (0 < sd a b p ∨ (sd a b p = 0 ∧ hin w o (sbP b a) = true)) := by
    rw [sdS_eq, pos_ss s1, lex_sign hs, hin_iff hw (Dir.sb ne), ecr_sh1]
  unfold lft
  rw [Bool.eq_iff_iff]
  simp [h1]
theorem inS_own {w : J2} {o : Bool} {a b c p : I2} {s : Int} (hw : Dir w) (n1 : a ≠ b) (n2 : b ≠ c) (n3 : c ≠ a) (h1 : eAb w o a b < s) (h2 : eAb w o b c < s) (h3 : eAb w o c a < s) : inS w o a b c p s = own3 w o a b c p := by
  unfold inS own3
  rw [lftS hw n1 h1, lftS hw n2 h2, lftS hw n3 h3]
theorem hin_neg {w e : I2} {o : Bool} (hw : Dir w) (he : Dir e) : hin w o e ≠ hin w o (-e.1, -e.2) := by
  have e1 : crs w (-e.1, -e.2) = - crs w e := by unfold crs; grind
  have e2 : dot w (-e.1, -e.2) = - dot w e := by unfold dot; grind
  unfold hin
  rw [e1, e2]
  by_cases hc : crs w e = 0
  · have hd := dot_ne hw he hc
    rw [if_pos hc, if_pos (by omega)]
    cases o <;> simp <;> omega
  · rw [if_neg hc, if_neg (by omega)]
    simp
    omega
theorem sb_mv (a b t : I2) : sbP (mv b t) (mv a t) = sbP b a := by
  unfold sbP mv
  ext <;> (simp only []; omega)
theorem own3_mv (w : J2) (o : Bool) (a b c p t : I2) : own3 w o (mv a t) (mv b t) (mv c t) (mv p t) = own3 w o a b c p := by
  unfold own3 lft
  rw [sd_mv, sd_mv, sd_mv, sb_mv, sb_mv, sb_mv]
theorem eAb_sm {w : J2} {o : Bool} {a b : I2} (sw : Sm2 10 w) (sa : Sm2 10 a) (sb : Sm2 10 b) : eAb w o a b < 2 ^ 30 := by
  have h : ∀ {e v : I2}, Sm2 11 e → Sm2 10 v → (ecr e v).natAbs < 2 ^ 22 := fun {e v} he hv => by
    have h1 : Sm 21 (e.1 * v.2) := he.1.mulS hv.2
    have h2 : Sm 21 (e.2 * v.1) := he.2.mulS hv.1
    exact h1.sub h2
  have h1 := h (sb.sb sa) sw.shA
  have h2 := h (sb.sb sa) (Sm2.shB (o := o) sw)
  unfold eAb
  have e1 : (2 : Nat) ^ 22 = 4194304 := by decide
  have e2 : (2 : Int) ^ 30 = 1073741824 := by decide
  rw [e1] at h1 h2
  rw [e2]
  omega
end Fo

set_option Elab.async false
set_option linter.all false
set_option maxRecDepth 100000
set_option maxHeartbeats 2000000
namespace Fo
open PySem L2
/-! ### owns_shifted where it raises; the law's own door to it -/
abbrev sRefused : Stmt := top 42
def XDn (v : V) : HO := .xd [((Str.ofString "number"), v)]
def noScale : V → Prop
  | .non => True
  | .bl _ => True
  | .int i => i < 1
  | _ => False
def spOwnsSX (C CH CT CM : Addr) : Sp := fun vs H _ E => ∃ (r t z v : V) (p : I2), vs = [r, t, z, v] ∧ IsPt2 C z p H ∧ noScale v ∧ ∀ d H', Same H H' → H' d = some (XDn v) → E (.ref CM) (some d) H'
def spRefN (K : PySem.W.Frag) (C CH CT : Addr) : Sp := fun vs H Q _ => ∃ (r t v : V) (d : PyData), vs = [r, t, v] ∧ noScale v ∧ ShowsOk d ∧ Dp K H v d ∧ ∀ H', Same H H' → Q (.str d.shown) H'
/-- what the top says of the errors besides -/
structure RTxtN (P : Program) (K : PySem.W.Frag) (mg : Str → Option Value) (C CM fMI CF : Addr) : Prop where
  xM : FoX_number.XTxt P K mg CM fMI
  gM : mg "InvalidNumber" = some (.ref CM)
  gF : mg "FillError" = some (.ref CF)
  ex : PySem.W.exmOne K (.ref CM) (.ref CF) = some true
  is : XIsC K CM
  k1 : PySem.W.kitOne K (.ref CM) (.ref CM) = some true
  zR : mg "repr" = none
section
variable {P : Program} {w : World} {K : PySem.W.Frag} {mg : Str → Option Value} {base : Heap}
variable {C fW fI fP fA fO CH CT CM fMI CF : Addr} {fdW fdI fdP fdA fdO : FuncData}
theorem ok_ownsSX {f : Addr} {fd : FuncData} (F : Fun K "owns_shifted" "owns_shifted" sOwnsS f fd) (D : Defs K mg C fW fI fP fA fO fdW fdI fdP fdA fdO) (R : RTxtN P K mg C CM fMI CF) : FnOk P w K mg base (L2.CX P w) 8 f fd ["half", "triangle", "point", "scale"] (spOwnsSX C CH CT CM) := by
  have GA : FnOk P w K mg base CX0 4 fA fdA ["thing"] (spAsPoint C) := D.GA
  have GW : FnOk P w K mg base CX0 1 fW fdW ["value"] spWholeX := ok_wholeX D.FW D.T
  refine F.okX scOwnsS (fun vs H Q E h => ?_) (fun cdv A outer s H vs Q E hr h => ?_)
  · obtain ⟨r, t, z, v, p, rfl, _⟩ := h
    rfl
  · obtain ⟨r, t, z, v, p, rfl, hz, hv, k⟩ := h
    refine ⟨_, pss_cons (ps_set (i := 4) scOwnsS.nd rfl (Or.inl rfl) (pe_call GA (hr.mono (by decide)) rfl D.mA D.FA.kp D.bA .nil pass0 (pa_cons (pv 2) pa_nil)))
      (pss_cons (ps_if (PW.pt (pw_or (pt_not (pt_val (pe_call GW (hr.mono (by decide)) rfl D.mW D.FW.kp D.bW .nil pass0 (pa_cons (pv 3) pa_nil)))) (pw_or1 (pt_cmpR op_lt (pv 3) pe_int (nomark _))))) (pss_one (ps_raise_number (W := fun cls d _ H => E cls d H) rfl R.xM R.gM hr (takes_of rfl rfl rfl rfl) (pa_cons (pv 3) pa_nil))) pss_nil)
      (pss_cons ps_never (pss_cons ps_never (pss_cons ps_never (pss_one ps_never))))), ?_⟩
    refine ⟨_, rfl, z, p.1, p.2, rfl, hz, fun pl H1 e1 hpl _ => ?_⟩
    have fin : ∀ d, H1 d = none → E (.ref CM) (some d) (upd H1 d (XDn v)) := fun d nd => k d _ (e1.trans (same_new nd)) upd_same
    cases v with
    | non =>
      refine ⟨_, rfl, .non, rfl, trivial, false, rfl, ?_⟩
      refine iteT ?_
      exact ⟨_, rfl, _, rfl, fin⟩
    | bl b =>
      refine ⟨_, rfl, .bl b, rfl, trivial, false, rfl, ?_⟩
      refine iteT ?_
      exact ⟨_, rfl, _, rfl, fin⟩
    | int i =>
      refine ⟨_, rfl, .int i, rfl, trivial, true, rfl, ?_⟩
      refine iteF ?_
      refine ⟨_, rfl, _, _, rfl, rfl, _, rfl, ?_⟩
      rw [decide_eq_true (show i < 1 from hv)]
      refine iteT ?_
      exact ⟨_, rfl, _, rfl, fin⟩
    | _ => exact hv.elim
theorem scRefN : FnScope ["half", "triangle", "scale", "e"] ["half", "triangle", "scale"] (defScope sRefused) := ⟨rfl, rfl, rfl, by decide +kernel, rfl, by decide +kernel, by decide +kernel⟩
theorem ok_refN {f fOs : Addr} {fd fdOs : FuncData} (F : Fun K "_law_refused" "_law_refused" sRefused f fd) (D : Defs K mg C fW fI fP fA fO fdW fdI fdP fdA fdO) (FOs : Fun K "owns_shifted" "owns_shifted" sOwnsS fOs fdOs) (bOs : Binds K fdOs ["half", "triangle", "point", "scale"] []) (mOs : mg "owns_shifted" = some (.ref fOs)) (R : RTxtN P K mg C CM fMI CF) : FnG P w K mg base CX0 9 f fd ["half", "triangle", "scale"] (spRefN K C CH CT) := by
  have GO : FnOk P w K mg base (L2.CX P w) 8 fOs fdOs ["half", "triangle", "point", "scale"] (spOwnsSX C CH CT CM) := ok_ownsSX FOs D R
  have T := D.T
  refine F.okG scRefN (fun vs H Q E h => ?_) (fun cdv A outer s H vs Q E hgd hr h => ?_)
  · obtain ⟨r, t, v, d, rfl, _⟩ := h
    rfl
  · obtain ⟨r, t, v, d, rfl, nv, sh, hdp, k⟩ := h
    have hu : (A.deeper (PyProof.Rows.envOfC (Str.ofString "_law_refused") (defScope sRefused) s.heap.objs.size f cdv)).units + 64 < cLine := by
      have := hr.un
      omega
    have cR : ∀ (a : Addr) (pn : List (Addr × Obj)), CallR ((cxOf CX0 P w K mg base ["half", "triangle", "scale", "e"] "_law_refused" (defScope sRefused) f cdv A outer s H E).nox.suite a pn) (.builtin "repr") (rReprD K) := fun a pn => call_reprD hgd hu
    have hT : ∃ (tb : WX → TS) (ts : Addr → Value → Option Addr → TS), PS (cxOf CX0 P w K mg base ["half", "triangle", "scale", "e"] "_law_refused" (defScope sRefused) f cdv A outer s H E).nox ((defBody sRefused).getD 0 (.Pass ⟨0, 0, 0, 0⟩)) (fun D σ H => tb (wAs K (.ref CF) 3 ts (fun _ _ _ _ => False) D) D σ H) ∧
        (∀ (W : WX) (D' : Ends), (∀ (dd : Addr) (H' : Hp), Same H H' → H' dd = some (XDn v) → Dp K H' v d → EW W 4 (.ref CM) (some dd) H') → tb W D' (start ["half", "triangle", "scale", "e"] [r, t, v]) H) ∧
        (∀ (a dd : Addr) (σ : L2.St) (H' : Hp) (D' : Ends), σ[3]? = some (some (.ref a)) → H' dd = some (XDn v) → Dp K H' v d → D'.rt (.str d.shown) H' → ts a (.ref CM) (some dd) D' σ H') := by
      refine ⟨_, _, ps_try_as (i := 3) (c := .ref CF) (Wout := fun _ _ _ _ => False) rfl rfl scRefN.nd rfl rfl ⟨rfl, by decide, .inl R.gF⟩ takes0
        (fun W pn xe tk po => pss_one (ps_expr (pe_call (E := EW W 4) GO hr rfl mOs FOs.kp bOs .nil (passesW tk rfl) (pa_cons (pv 0) (pa_cons (pv 1) (pa_cons (pe_tup (pa_cons pe_int (pa_cons pe_int pa_nil))) (pa_cons (pv 2) pa_nil)))))))
        (fun a oe cls dd pn hz hf => pss_one (ps_ret (pe_and (pe_callB (call_isX hz hf) (by rfl) T.isi (by decide +kernel) (pa_cons (pv 3) (pa_cons (pe_glob (v := .ref CM) rfl R.gM rfl) pa_nil)))
          (pe_one (pe_callB (cR a ((a, oe) :: pn)) (by rfl) R.zR (by decide +kernel) (pa_cons (pe_by_number R.xM hz hf (pv 3)) pa_nil)))))), ?_, ?_⟩
      · intro W D' hW
        refine ⟨_, rfl, _, rfl, (by show 2 ≤ sizeLine; decide), fun t1 n1 => ⟨_, rfl, ?_⟩⟩
        have e1 := same_new (o := .tup [.int 0, .int 0]) n1
        exact ⟨r, t, .ref t1, v, (0, 0), rfl, ⟨t1, rfl, .inr upd_same⟩, nv, fun dd H' e' hd => hW dd H' (e1.trans e') hd (Dp.ex (e1.trans e') d v hdp)⟩
      · intro a dd σ H' D' hσ hd hdp k'
        refine ⟨_, hσ, CM, dd, _, _, _, true, rfl, rfl, rfl, hd, .own CM, R.is, R.k1, true, rfl, ?_⟩
        refine iteT ?_
        exact ⟨_, hσ, rfl, rfl, dd, v, rfl, hd, v, d, rfl, hdp, sh.s, sh.nd, sh.dp, sh.z, k'⟩
    obtain ⟨tb, ts, hPS, h1, h2⟩ := hT
    refine ⟨_, pss_cons hPS (pss_one ps_never), ?_⟩
    refine h1 _ _ fun dd H' e' hd hdp σ hσ => ⟨true, R.ex, fun _ a na => ?_, fun z => nomatch z⟩
    refine h2 a dd _ H' _ ?_ hd hdp (k H' e')
    rw [List.getElem?_set_self (by omega)]
end
end Fo

set_option Elab.async false
set_option linter.all false
set_option maxRecDepth 100000
set_option maxHeartbeats 2000000
namespace Fo
open PySem L2
/-! ### set_part; the law's _law_set_right -/
abbrev sSetRight : Stmt := top 45
theorem putF_h (q q' : Addr) (o : Bool) : putF "heading" (.ref q') (halfF q o) = halfF q' o := by
  have e : ¬ (("onward" : Str) = "heading") := by decide +kernel
  simp [halfF, putF, ho_, e]
theorem putF_o (q : Addr) (o o' : Bool) : putF "onward" (.bl o') (halfF q o) = halfF q o' := by
  have e : ¬ (("onward" : Str) = "heading") := by decide +kernel
  simp [halfF, putF, ho_, e]
def spSet (C CH : Addr) : Sp := fun vs H Q _ => ∃ (n : Nat) (p dx q : Addr) (o : Bool), H p = some (.ins CH dx (halfF q o)) ∧ 0 < n ∧ n ≤ 1000 ∧
  ((∃ (v : V) (d : J2), vs = [.ref p, .str "way", v] ∧ IsPt C v d.1 d.2 H ∧ Dir d ∧ Sm n d.1 ∧ Sm n d.2 ∧ ∀ q' H', But p H H' → H' p = some (.ins CH dx (halfF q' o)) → IsP C (.ref q') (low d).1 (low d).2 H' → Q .non H') ∨
   (∃ o' : Bool, vs = [.ref p, .str "ahead", .bl o'] ∧ Q .non (upd H p (.ins CH dx (halfF q o')))))
def spSetR (C CH : Addr) : Sp := fun vs H Q _ => ∃ (r : V) (w : J2) (o : Bool), vs = [r] ∧ IsH C CH r w o H ∧ Dir w ∧ low w = w ∧ Sm2 900 w ∧ ∀ H', Same H H' → Q (.bl true) H'
section
variable {P : Program} {w : World} {K : PySem.W.Frag} {mg : Str → Option Value} {base : Heap}
variable {C fW fI fP fA fO fG fDr fL fX CH fId fHI fWG fWS fAG fAS fHs fCl fEq pW pA fPm CT fS fTI fCo fEd fAr fAd pAr fSb fQ fM fRm fSh : Addr} {fdW fdI fdP fdA fdO fdG fdDr fdL fdX fdId fdHI fdWG fdWS fdAG fdAS fdHs fdCl fdEq fdPm fdS fdTI fdCo fdEd fdAr fdAd fdSb fdQ fdM fdSh : FuncData}
theorem ext_same {H H' : Hp} (e : Ext H H') : Same H H' := fun a o h => e a o h
theorem i2_dec (a b : I2) : (decide (a.1 = b.1) && decide (a.2 = b.2)) = decide (a = b) := by
  by_cases h : a = b
  · subst h
    simp
  · rw [decide_eq_false h]
    by_cases h1 : a.1 = b.1
    · have h2 : a.2 ≠ b.2 := fun q => h (Prod.ext h1 q)
      simp [h2]
    · simp [h1]
theorem dOwn_pt {x y : V} {a b : I2} {H : Hp} {E : XK} (hx : IsP C x a.1 a.2 H) (hy : IsP C y b.1 b.2 H) : DOwn C (spEqP C) E x y (decide (a = b)) H := by
  obtain ⟨p, dx, rfl, hp⟩ := id hx
  obtain ⟨q, dy, rfl, hq⟩ := id hy
  refine ⟨p, q, dx, dy, _, _, rfl, rfl, hp, hq, fun e => ?_, _, _, _, _, _, _, rfl, hx, .inl ⟨hy, ?_, Ext.rfl'⟩⟩
  · subst e
    rw [hp] at hq
    injection hq with hq
    injection hq with _ _ hq
    have e1 : a.1 = b.1 := by
      have z := congrArg (List.lookup ("x" : Str)) hq
      rw [ptF_x, ptF_x] at z
      injection z with z
      injection z
    have e2 : a.2 = b.2 := by
      have z := congrArg (List.lookup ("y" : Str)) hq
      rw [ptF_y, ptF_y] at z
      injection z with z
      injection z
    exact decide_eq_true (Prod.ext e1 e2)
  · rw [i2_dec]
/-- two Points, as tuples and lists ask -/
def DPt (C : Addr) : EqvB := fun x y b H => ∃ a c : I2, IsP C x a.1 a.2 H ∧ IsP C y c.1 c.2 H ∧ b = decide (a = c)
theorem monB_pt : MonB (DPt C) := fun x y b H H' e ⟨a, c, h1, h2, h3⟩ => ⟨a, c, h1.ex (ext_same e), h2.ex (ext_same e), h3⟩
theorem eqB_pt {X : Cx} (F : FnOk X.prog X.w X.K X.mg X.base CX0 1 fEq fdEq ["self", "other"] (spEqP C)) (hs : PySem.W.findIn X.K (.ref C) "__eq__" = some (some (.ref fEq))) (hf : PySem.W.isFn X.K (.ref fEq) = true) (hb : Binds X.K fdEq ["self", "other"] []) : EqB X 1 (DPt C) := by
  intro A pins s σ H x y u v b sb I rx ry d
  obtain ⟨a, c, h1, h2, rfl⟩ := d
  exact eqB_own (E := fun _ _ _ => False) F hs hf hb pass0 A pins s σ H x y u v _ sb I rx ry (dOwn_pt h1 h2)
theorem scSet : FnScope ["half", "part", "thing"] ["half", "part", "thing"] (defScope sSetPart) := ⟨rfl, rfl, rfl, by decide +kernel, rfl, by decide +kernel, by decide +kernel⟩
theorem str_eqT {x y : Str} (h : x = y) : decide (V.str x = V.str y) = true := by simp [h]
theorem str_eqF {x y : Str} (h : ¬ x = y) : decide (V.str x = V.str y) = false := by simp [h]
theorem ok_set {f : Addr} {fd : FuncData} (F : Fun K "set_part" "set_part" sSetPart f fd) (h : HDefs K mg C CH fId fHI fWG fWS fAG fAS fHs fCl fEq pW pA fdId fdHI fdWG fdWS fdAG fdAS fdHs fdCl fdEq) (D : Defs K mg C fW fI fP fA fO fdW fdI fdP fdA fdO) (L : DirL K mg C fG fDr fL fX fdG fdDr fdL fdX) (FPm : Fun K "pair" "Point.pair" sPairM fPm fdPm) (bPm : Binds K fdPm ["self"] []) (mPm : Meth K C "pair" fPm) (zS : mg "str" = none) :
    FnOk P w K mg base CX0 10 f fd ["half", "part", "thing"] (spSet C CH) := by
  have GW : FnOk P w K mg base CX0 7 fWS fdWS ["self", "value"] (spWayS C CH) := h.GWS D L FPm bPm mPm
  have GA : FnOk P w K mg base CX0 1 fAS fdAS ["self", "value"] (spAhS CH) := h.GAS
  refine F.ok scSet (fun vs H Q E h => ?_) (fun cdv A outer s H vs Q E hr hq => ?_)
  · obtain ⟨n, p, dx, q, o, _, _, _, ⟨v, d, rfl, _⟩ | ⟨o', rfl, _⟩⟩ := h
    · rfl
    · rfl
  · obtain ⟨n, p, dx, q, o, hp, n0, n1, hh⟩ := hq
    refine ⟨_, pss_cons (ps_if (pt_not (pt_val (pe_callB call_isi (by rfl) h.TH.isi (by decide +kernel) (pa_cons (pv 1) (pa_cons (pe_bltn (v := .ty "str") (by rfl) zS (by decide +kernel) rfl) pa_nil))))) (pss_one ps_never) pss_nil)
      (pss_one (ps_if (pt_cmpR op_eq (pv 1) pe_str (nomark _)) (pss_one (ps_prop (pv 0) (pv 2) h.TH.cl h.pWS GW hr h.bWS pass0))
        (pss_one (ps_if (pt_cmpR op_eq (pv 1) pe_str (nomark _)) (pss_one (ps_prop (pv 0) (pv 2) h.TH.cl h.pAS GA (hr.mono (by decide)) h.bAS pass0)) (pss_one ps_never))))), ?_⟩
    rcases hh with ⟨v, d, rfl, hv, hd, s1, s2, k⟩ | ⟨o', rfl, k⟩
    · refine ⟨_, rfl, _, _, _, _, true, rfl, .ty _, .base (.str _), kit_ty (by decide +kernel), true, rfl, ?_⟩
      refine iteF ?_
      refine ⟨_, rfl, rfl, _, rfl, ?_⟩
      rw [str_eqT (by decide +kernel)]
      refine iteT ?_
      refine ⟨_, rfl, _, rfl, p, dx, _, rfl, hp, n, p, dx, _, v, d, rfl, hp, (by show 2 ≤ 900; decide), hv, hd, n0, n1, s1, s2, fun q' H1 b1 h1 i1 => ?_⟩
      rw [putF_h] at h1
      exact k q' H1 b1 h1 i1
    · refine ⟨_, rfl, _, _, _, _, true, rfl, .ty _, .base (.str _), kit_ty (by decide +kernel), true, rfl, ?_⟩
      refine iteF ?_
      refine ⟨_, rfl, rfl, _, rfl, ?_⟩
      rw [str_eqF (by decide +kernel)]
      refine iteF ?_
      refine ⟨_, rfl, rfl, _, rfl, ?_⟩
      rw [str_eqT (by decide +kernel)]
      refine iteT ?_
      refine ⟨_, rfl, _, rfl, p, dx, _, rfl, hp, p, dx, _, o', rfl, hp, (by show 2 ≤ 900; decide), ?_⟩
      rw [putF_o]
      exact k
theorem scSetR : FnScope ["half", "late"] ["half"] (defScope sSetRight) := ⟨rfl, rfl, rfl, by decide +kernel, rfl, by decide +kernel, by decide +kernel⟩
theorem ok_setR {f fSp fHE : Addr} {fd fdSp fdHE : FuncData} (F : Fun K "_law_set_right" "_law_set_right" sSetRight f fd) (h : HDefs K mg C CH fId fHI fWG fWS fAG fAS fHs fCl fEq pW pA fdId fdHI fdWG fdWS fdAG fdAS fdHs fdCl fdEq) (D : Defs K mg C fW fI fP fA fO fdW fdI fdP fdA fdO) (L : DirL K mg C fG fDr fL fX fdG fdDr fdL fdX) (FPm : Fun K "pair" "Point.pair" sPairM fPm fdPm) (bPm : Binds K fdPm ["self"] []) (mPm : Meth K C "pair" fPm) (zS : mg "str" = none)
    (FSp : Fun K "set_part" "set_part" sSetPart fSp fdSp) (bSp : Binds K fdSp ["half", "part", "thing"] []) (mSp : mg "set_part" = some (.ref fSp))
    (FHE : Fun K "__eq__" "Half.__eq__" sHEq fHE fdHE) (bHE : Binds K fdHE ["self", "other"] []) (oHE : OwnEqC K CH fHE)
    (FQ : Fun K "quarter" "quarter" sQuarter fQ fdQ) (bQ : Binds K fdQ ["point"] []) (mQ : mg "quarter" = some (.ref fQ)) (FM : Fun K "__mul__" "Point.__mul__" sMul fM fdM) (bM : Binds K fdM ["self", "other"] []) (oM : OwnMul K C fM fRm)
    (FSh : Fun K "shift_of" "shift_of" sShift fSh fdSh) (bSh : Binds K fdSh ["half"] []) (mSh : mg "shift_of" = some (.ref fSh)) : FnOk P w K mg base CX0 12 f fd ["half"] (spSetR C CH) := by
  have GHI : FnOk P w K mg base CX0 10 fHI fdHI ["self", "way", "ahead"] (spHInit C CH) := h.GHI D L FPm bPm mPm
  have GSp : FnOk P w K mg base CX0 10 fSp fdSp ["half", "part", "thing"] (spSet C CH) := ok_set FSp h D L FPm bPm mPm zS
  have GSh : FnOk P w K mg base CX0 6 fSh fdSh ["half"] (spShift C CH) := ok_shift FSh h D FQ bQ mQ FM bM oM
  have GHE : FnOk P w K mg base CX0 2 fHE fdHE ["self", "other"] (spHEq C CH) := ok_heq FHE h D
  have GE : FnOk P w K mg base CX0 1 fEq fdEq ["self", "other"] (spEqP C) := ok_eq h.FEq D.T
  have GW : FnOk P w K mg base CX0 1 fWG fdWG ["self"] (spWayG C CH) := h.GWG
  have GA : FnOk P w K mg base CX0 1 fAG fdAG ["self"] (spAhG C CH) := h.GAG
  refine F.ok scSetR (fun vs H Q E h => ?_) (fun cdv A outer s H vs Q E hr hq => ?_)
  · obtain ⟨r, w', o, rfl, _⟩ := h
    rfl
  · obtain ⟨r, w', o, rfl, hh, dw, lw, sw, k⟩ := hq
    have hr2 : Room 2 _ := hr.mono (by decide)
    have hr6 : Room 6 _ := hr.mono (by decide)
    have hr10 : Room 10 _ := hr.mono (by decide)
    refine ⟨_, pss_cons (ps_set (i := 1) scSetR.nd rfl (Or.inl rfl) (pe_make h.MH GHI hr rfl h.TH.mgH h.bHI .nil pass0 (pa_cons (pe_tup (pa_cons pe_int (pa_cons pe_int pa_nil))) (pa_cons (pe_not (pe_prop (pv 0) h.TH.cl h.pAG GA hr2 h.bAG .nil pass0 rfl)) pa_nil))))
      (pss_cons (ps_expr (pe_call GSp hr10 rfl mSp FSp.kp bSp .nil pass0 (pa_cons (pv 1) (pa_cons pe_str (pa_cons (pe_prop (pv 0) h.TH.cl h.pWG GW hr2 h.bWG .nil pass0 rfl) pa_nil)))))
      (pss_cons (ps_expr (pe_call GSp hr10 rfl mSp FSp.kp bSp .nil pass0 (pa_cons (pv 1) (pa_cons pe_str (pa_cons (pe_prop (pv 0) h.TH.cl h.pAG GA hr2 h.bAG .nil pass0 rfl) pa_nil)))))
      (pss_one (ps_ret (pe_and (pe_cmpR (op_eqPair monB_pt (eqB_pt GE h.oEq.eq h.oEq.fn h.bEq) hr2) (pe_call GSh hr6 rfl mSh FSh.kp bSh .nil pass0 (pa_cons (pv 1) pa_nil)) (pe_call GSh hr6 rfl mSh FSh.kp bSh .nil pass0 (pa_cons (pv 0) pa_nil)) (nomark _))
        (pe_one (pe_cmpR (op_ownEq oHE GHE hr2 bHE pass0) (pv 1) (pv 0) (nomark _)))))))), ?_⟩
    obtain ⟨ar, dr, qr, rfl, h1, h2⟩ := id hh
    refine ⟨(by show 2 ≤ sizeLine; decide), fun t nt => ?_⟩
    have g := same_new (o := .tup [.int 1, .int 2]) nt
    have hh1 := hh.ex g
    refine ⟨_, rfl, ar, dr, _, rfl, g _ _ h1, _, w', o, rfl, hh1, o, rfl, fun x dx nx ndx ne => ?_⟩
    have nx0 : H x = none := by
      by_cases z : x = t
      · subst z; rw [upd_same] at nx; cases nx
      · rwa [upd_ne z] at nx
    generalize hH1 : upd H t (.tup [.int 1, .int 2]) = H1 at *
    have ht1 : H1 t = some (.tup [.int 1, .int 2]) := by rw [← hH1]; exact upd_same
    have e2 : Same H1 (upd (upd H1 dx (.own x)) x (.ins CH dx [])) := (same_new ndx).trans (same_new (by rw [upd_ne ne.symm]; exact nx))
    refine ⟨2, x, dx, .ref t, (1, 2), !o, rfl, upd_same, ⟨t, rfl, .inr (e2 _ _ ht1)⟩, .inl (by decide), by decide, by decide, (by unfold Sm; decide), (by unfold Sm; decide), fun q H2 b2 h2' i2 => ⟨rfl, ?_⟩⟩
    have S2 : Same H H2 := But.same nx0 (g.trans e2) b2
    have hh2 := hh.ex S2
    obtain ⟨ar', dr', qr', e', h3, h4⟩ := id hh2
    cases e'
    refine ⟨_, rfl, _, rfl, ar, dr', _, rfl, h3, _, w', o, rfl, hh2, fun u hu => ?_⟩
    refine ⟨900, x, dx, q, !o, h2', by decide, by decide, .inl ⟨u, w', rfl, hu.pt, dw, sw.1, sw.2, fun q' H3 b3 h3' i3 => ?_⟩⟩
    have S3 : Same H H3 := But.same nx0 S2 b3
    have hh3 := hh.ex S3
    obtain ⟨ar', dr', qr', e', h5, h6⟩ := id hh3
    cases e'
    refine ⟨_, rfl, _, rfl, ar, dr', _, rfl, h5, _, w', o, rfl, hh3, ?_⟩
    refine ⟨900, x, dx, q', !o, h3', by decide, by decide, .inr ⟨o, rfl, ?_⟩⟩
    have S4 : Same H (upd H3 x (.ins CH dx (halfF q' o))) := But.same nx0 S3 But.upd
    have hh4 := hh.ex S4
    rw [lw] at i3
    obtain ⟨q2, dq, eq, hq'⟩ := id i3
    cases eq
    have nq : q' ≠ x := fun z => by
      subst z
      rw [h3'] at hq'
      injection hq' with hq'
      injection hq' with z _ _
      exact h.ne z.symm
    have hl4 : IsH C CH (.ref x) w' o (upd H3 x (.ins CH dx (halfF q' o))) := ⟨x, dx, q', rfl, upd_same, q', dq, rfl, by rw [upd_ne nq]; exact hq'⟩
    generalize upd H3 x (.ins CH dx (halfF q' o)) = H4 at *
    refine ⟨_, rfl, _, w', o, rfl, hl4, sw, fun t1 u1 v1 H5 e5 ht5 i1 i2' => ?_⟩
    refine ⟨_, rfl, _, w', o, rfl, hh4.ex e5, sw, fun t2 u2 v2 H6 e6 ht6 j1 j2 => ?_⟩
    refine ⟨t1, t2, u1, v1, u2, v2, true, true, rfl, rfl, SqT.of (e6 _ _ ht5), SqT.of ht6, ⟨sh1 w', sh1 w', i1.ex e6, j1, by simp⟩, ⟨sh2 w' o, sh2 w' o, i2'.ex e6, j2, by simp⟩, fun H7 e7 => ?_⟩
    refine ⟨_, rfl, ?_⟩
    refine iteT ?_
    have E7 := (e5.trans e6).trans (ext_same e7)
    have hl7 := hl4.ex E7
    have hh7 := hh4.ex E7
    obtain ⟨x1, dx1, qx, ex, hx1, _⟩ := id hl7
    cases ex
    obtain ⟨a1, da1, qa, ea, ha1, _⟩ := id hh7
    cases ea
    refine ⟨_, rfl, _, rfl, x, dx1, _, rfl, hx1, .inl ⟨ar, da1, _, rfl, ha1⟩, _, _, w', w', o, o, rfl, hl7, hh7, ?_⟩
    have e0 : (decide (w' = w') && decide (o = o)) = true := by simp
    rw [e0]
    exact k H7 (S4.trans E7)
end
end Fo

set_option Elab.async false
set_option linter.all false
set_option maxRecDepth 100000
set_option maxHeartbeats 2000000
namespace Fo
open PySem L2
/-! ### _law_moved_within -/
abbrev sMW : Stmt := top 43
theorem ones_dp {K : PySem.W.Frag} {H : Hp} : ∀ n : Nat, DpAll K H (List.replicate n (V.int 1)) (List.replicate n (PyData.int 1))
  | 0 => .nil
  | n + 1 => .cons (.int 1) (ones_dp n)
theorem ones_lay : ∀ n : Nat, PyData.canLayAll0 (List.replicate n (PyData.int 1)) = true
  | 0 => by simp [PyData.canLayAll0]
  | n + 1 => by simp [List.replicate_succ, PyData.canLayAll0, PyData.canLay0, ones_lay n]
theorem ones_depth : ∀ n : Nat, PyData.depthAll (List.replicate n (PyData.int 1)) ≤ 2
  | 0 => by simp [PyData.depthAll]
  | n + 1 => by
    have h1 := ones_depth n
    have h2 : (PyData.int 1).depth ≤ 2 := by simp [PyData.depth]
    simp only [List.replicate_succ, PyData.depthAll]
    omega
theorem ones_shaped (n : Nat) : SeqAt.shaped (.list (List.replicate n (PyData.int 1))) = true := by
  have h1 := ones_depth n
  have h2 : PyData.depth (.list (List.replicate n (PyData.int 1))) ≤ 64 := by
    simp only [PyData.depth]
    omega
  show (PyData.canLay0 (.list (List.replicate n (PyData.int 1))) && decide (PyData.depth (.list (List.replicate n (PyData.int 1))) ≤ 64)) = true
  rw [Bool.and_eq_true]
  exact ⟨by simp only [PyData.canLay0]; exact ones_lay n, decide_eq_true h2⟩
theorem ones_eqv (n : Nat) : PyData.eqv (.list (List.replicate n (PyData.int 1))) (.list []) = decide (n = 0) := by
  cases n with
  | zero => simp [PyData.eqv, PyData.eqvAll]
  | succ n => simp [List.replicate_succ, PyData.eqv, PyData.eqvAll]

def keepG (x y z : Int) : Nat → Bool
  | 0 => decide (x ≤ 0)
  | 1 => decide (y ≤ 0)
  | _ => decide (z ≤ 0)
theorem kept_inS (w : J2) (o : Bool) (a b c p : I2) (s : Int) : decide (kept (keepG (sdS w o a b p s) (sdS w o b c p s) (sdS w o c a p s)) 3 = 0) = inS w o a b c p s := by
  unfold inS
  generalize sdS w o a b p s = x
  generalize sdS w o b c p s = y
  generalize sdS w o c a p s = z
  by_cases h1 : x ≤ 0 <;> by_cases h2 : y ≤ 0 <;> by_cases h3 : z ≤ 0 <;> simp [kept, keepG, h1, h2, h3] <;> omega
def pk (a b c : I2) (i : Nat) : I2 := if i = 0 then a else if i = 1 then b else c
def spMW (K : PySem.W.Frag) : Sp := fun vs H Q _ => ∃ (l qa qb qc qp q1 q2 : Addr) (a b c p : I2) (w : J2) (o : Bool) (s : Int), vs = [.ref l, .ref qp, .ref q1, .ref q2, .int s] ∧ SqL K H l [.ref qa, .ref qb, .ref qc] ∧ T3 H qa qb qc a b c ∧ T3 H qp q1 q2 p (sh1 w) (sh2 w o) ∧ Sm 40 s ∧ Sm2 10 w ∧ Sm2 10 a ∧ Sm2 10 b ∧ Sm2 10 c ∧ Sm2 10 p ∧ ∀ H', Same H H' → Q (.bl (inS w o a b c p s)) H'
section
variable {P : Program} {w : World} {K : PySem.W.Frag} {mg : Str → Option Value} {base : Heap}
abbrev mwN : List Str := ["corners_here", "p", "first", "second", "scale", "many", "q", "great", "x", "y", "a", "b"]
theorem scMW : FnScope mwN ["corners_here", "p", "first", "second", "scale"] (defScope sMW) := ⟨rfl, rfl, rfl, by decide +kernel, rfl, by decide +kernel, by decide +kernel⟩
theorem ok_mw {f fWy fLs : Addr} {fd fdWy fdLs : FuncData} (F : Fun K "_law_moved_within" "_law_moved_within" sMW f fd) (T : TxtL mg)
    (FWy : Fun K "_law_ways" "_law_ways" sWays fWy fdWy) (bWy : Binds K fdWy ["corners_here"] []) (mWy : mg "_law_ways" = some (.ref fWy)) (FLs : Fun K "_law_side" "_law_side" sLSide fLs fdLs) (bLs : Binds K fdLs ["a", "b", "p"] []) (mLs : mg "_law_side" = some (.ref fLs)) :
    FnOk P w K mg base CX0 2 f fd ["corners_here", "p", "first", "second", "scale"] (spMW K) := by
  have GW : FnOk P w K mg base CX0 1 fWy fdWy ["corners_here"] (spWays K) := ok_ways FWy T
  have GL : FnOk P w K mg base CX0 1 fLs fdLs ["a", "b", "p"] spLSide := ok_lside FLs
  refine F.ok scMW (fun vs H Q E h => ?_) (fun cdv A outer s H vs Q E hr h => ?_)
  · obtain ⟨l, qa, qb, qc, qp, q1, q2, a, b, c, p, w', o, s', rfl, _⟩ := h
    rfl
  · obtain ⟨l, qa, qb, qc, qp, q1, q2, a, b, c, p, w', o, S, rfl, hl, t, tp, sS, sw, sa, sb, sc, sp, k⟩ := h
    refine ⟨_, pss_cons (ps_set (i := 5) scMW.nd rfl (Or.inr rfl) (pe_op op_mulW (pv 4) (pv 4)))
      (pss_cons (ps_set (i := 6) scMW.nd rfl (Or.inr rfl) (pe_tup (pa_cons (pe_op op_add (pe_op op_add (pe_op op_mulW (pe_ix ix_tup (pv 1) pe_int (fun _ _ => rfl)) (pv 5)) (pe_op op_mulW (pe_ix ix_tup (pv 2) pe_int (fun _ _ => rfl)) (pv 4))) (pe_ix ix_tup (pv 3) pe_int (fun _ _ => rfl)))
        (pa_cons (pe_op op_add (pe_op op_add (pe_op op_mulW (pe_ix ix_tup (pv 1) pe_int (fun _ _ => rfl)) (pv 5)) (pe_op op_mulW (pe_ix ix_tup (pv 2) pe_int (fun _ _ => rfl)) (pv 4))) (pe_ix ix_tup (pv 3) pe_int (fun _ _ => rfl))) pa_nil))))
      (pss_cons (ps_setLc (i := 7) (own := [("x", 8), ("y", 9)]) (g := gTup K 2 (gCons (gName 8) (gCons (gName 9) gNil))) (tt := tYes) rfl scMW.nd rfl rfl (sw_true rfl rfl rfl (by decide +kernel)) (pi_list (pv 0))
        (blkOk_by (own := [("x", 8), ("y", 9)]) (N := mwN) (sc := defScope sMW) (by decide +kernel))
        (fun _ _ _ _ _ => pg_tup rfl (pgs_cons (pg_name (i := 8) scMW.nd rfl (Or.inl rfl)) (pgs_cons (pg_name (i := 9) scMW.nd rfl (Or.inl rfl)) pgs_nil)))
        (fun _ _ _ _ _ => pts_nil)
        (fun _ _ _ _ _ => pe_tup (pa_cons (pe_op op_mulW (pv 8) (pv 5)) (pa_cons (pe_op op_mulW (pv 9) (pv 5)) pa_nil))))
      (pss_one (ps_ret (pe_cmpR (op_eqD hr.units) (pe_lc (own := [("a", 10), ("b", 11)]) (g := gTup K 2 (gCons (gName 10) (gCons (gName 11) gNil))) rfl scMW.nd (pi_list (pe_call GW hr rfl mWy FWy.kp bWy .nil pass0 (pa_cons (pv 7) pa_nil)))
        (blkOk_by (own := [("a", 10), ("b", 11)]) (N := mwN) (sc := defScope sMW) (by decide +kernel))
        (fun _ _ _ _ _ => pg_tup rfl (pgs_cons (pg_name (i := 10) scMW.nd rfl (Or.inl rfl)) (pgs_cons (pg_name (i := 11) scMW.nd rfl (Or.inl rfl)) pgs_nil)))
        (fun _ _ _ _ _ => pts_one (pt_cmpR op_le (pe_call GL hr rfl mLs FLs.kp bLs .nil pass0 (pa_cons (pv 10) (pa_cons (pv 11) (pa_cons (pv 6) pa_nil)))) pe_int (nomark _)))
        (fun _ _ _ _ _ => pe_int)) (pe_lst pa_nil) (nomark _)))))), ?_⟩
    have cm : ∀ {n m : Nat} {x y : Int}, Sm n x → Sm m y → n ≤ 100 → m ≤ 100 → CMulW x y := fun {n m x y} hx hy h1 h2 => (hx.up h1).mul (hy.up h2) (by decide) (by decide)
    have sq : Sm 80 (S * S) := sS.mulS sS
    have s1 := sw.shA
    have s2 := Sm2.shB (o := o) sw
    refine ⟨_, rfl, _, rfl, _, _, rfl, rfl, cm sS sS (by decide) (by decide), ?_⟩
    refine ⟨_, rfl, qp, _, _, _, rfl, rfl, SqT.of tp.a, atI_nat (j := 0) rfl, _, rfl, _, _, rfl, rfl, cm sp.1 sq (by decide) (by decide), ?_⟩
    refine ⟨_, rfl, q1, _, _, _, rfl, rfl, SqT.of tp.b, atI_nat (j := 0) rfl, _, rfl, _, _, rfl, rfl, cm s1.1 sS (by decide) (by decide), _, _, rfl, rfl, ?_⟩
    refine ⟨_, rfl, q2, _, _, _, rfl, rfl, SqT.of tp.c, atI_nat (j := 0) rfl, _, _, rfl, rfl, ?_⟩
    refine ⟨_, rfl, qp, _, _, _, rfl, rfl, SqT.of tp.a, atI_nat (j := 1) rfl, _, rfl, _, _, rfl, rfl, cm sp.2 sq (by decide) (by decide), ?_⟩
    refine ⟨_, rfl, q1, _, _, _, rfl, rfl, SqT.of tp.b, atI_nat (j := 1) rfl, _, rfl, _, _, rfl, rfl, cm s1.2 sS (by decide) (by decide), _, _, rfl, rfl, ?_⟩
    refine ⟨_, rfl, q2, _, _, _, rfl, rfl, SqT.of tp.c, atI_nat (j := 1) rfl, _, _, rfl, rfl, ?_⟩
    refine ⟨(by show 2 ≤ sizeLine; decide), fun q nq => ?_⟩
    have gq := same_new (o := .tup [.int (mvS w' o p S).1, .int (mvS w' o p S).2]) nq
    have hq1 : Tp (upd H q (.tup [.int (mvS w' o p S).1, .int (mvS w' o p S).2])) q (mvS w' o p S) := upd_same
    have sm : Sm2 95 (mvS w' o p S) := by
      have h1 : Sm2 90 (mlP p (S * S)) := sp.mulS sq
      have h2 : Sm2 50 (mlP (sh1 w') S) := sw.shA.mulS sS
      have h3 : Sm2 91 (mv (mlP p (S * S)) (mlP (sh1 w') S)) := h1.mv (h2.up (by decide))
      have h4 : Sm2 92 (mvS w' o p S) := h3.mv ((Sm2.shB (o := o) sw).up (by decide))
      exact h4.up (by decide)
    show _
    refine ⟨_, rfl, l, rfl, ⟨_, gq.seq hl⟩, fun D0 nD => ?_⟩
    refine lc_all (K := K) (xs := [.ref qa, .ref qb, .ref qc]) (sl := [8, 9]) (fun i v H => ∃ z, v = .ref z ∧ Tp H z (mlP (pk a b c i) (S * S))) (fun _ _ _ _ e ⟨z, hz, h⟩ => ⟨z, hz, e _ _ h⟩) (fun _ _ _ _ _ _ hD bt ⟨z, hz, h⟩ => ⟨z, hz, bt _ _ (ne_of h hD (by intro z; cases z)) h⟩) (gq.seq hl) (by show 3 ≤ 1000; decide) ?_ ?_ nD
    · intro i x H2 hx g2 Q' k'
      have t2 := (t.ex gq).ex g2
      have pick : ∃ z, x = .ref z ∧ Tp H2 z (pk a b c i) ∧ Sm2 10 (pk a b c i) := by
        rcases two3 hx with ⟨rfl, rfl⟩ | ⟨rfl, rfl⟩ | ⟨rfl, rfl⟩
        · exact ⟨qa, rfl, t2.a, sa⟩
        · exact ⟨qb, rfl, t2.b, sb⟩
        · exact ⟨qc, rfl, t2.c, sc⟩
      obtain ⟨z, rfl, hz, sz⟩ := pick
      refine ⟨z, _, rfl, SqT.of hz, rfl, _, _, rfl, _, _, rfl, rfl, rfl, ?_⟩
      refine ⟨_, rfl, _, rfl, _, _, rfl, rfl, cm sz.1 sq (by decide) (by decide), _, rfl, _, rfl, _, _, rfl, rfl, cm sz.2 sq (by decide) (by decide), (by show 2 ≤ sizeLine; decide), fun z' nz => ?_⟩
      exact k' _ _ (same_new nz) ⟨z', rfl, upd_same⟩
    · intro H2 vs g2 hv hlen hR
      obtain ⟨x1, x2, x3, rfl⟩ := len3' hlen
      obtain ⟨za, rfl, ta⟩ := hR 0 x1 rfl
      obtain ⟨zb, rfl, tb⟩ := hR 1 x2 rfl
      obtain ⟨zc, rfl, tc⟩ := hR 2 x3 rfl
      have hq2 := g2 _ _ hq1
      refine ⟨_, rfl, D0, _, _, _, rfl, SqL.of hv, fun m e1 e2 e3 H3 nm g3 hm h1 h2 h3 => ?_⟩
      refine ⟨m, rfl, ⟨_, SqL.of hm⟩, fun D1 nD1 => ?_⟩
      refine lc_filt (K := K) (xs := [.ref e1, .ref e2, .ref e3]) (sl := [10, 11]) (keepG (sdS w' o a b p S) (sdS w' o b c p S) (sdS w' o c a p S)) (.int 1) (SqL.of hm) (by show 3 ≤ 1000; decide) ?_ ?_ nD1
      · intro i x H4 hx g4 Nx Q' kF kT
        have G4 := g3.trans g4
        have ta' : Tp H4 za (mlP a (S * S)) := G4 _ _ ta
        have tb' : Tp H4 zb (mlP b (S * S)) := G4 _ _ tb
        have tc' : Tp H4 zc (mlP c (S * S)) := G4 _ _ tc
        have p4 : Tp H4 q (mvS w' o p S) := G4 _ _ hq2
        have sA : Sm2 95 (mlP a (S * S)) := (sa.mulS sq).up (by decide)
        have sB : Sm2 95 (mlP b (S * S)) := (sb.mulS sq).up (by decide)
        have sC : Sm2 95 (mlP c (S * S)) := (sc.mulS sq).up (by decide)
        have go : ∀ (z : Int), keepG (sdS w' o a b p S) (sdS w' o b c p S) (sdS w' o c a p S) i = decide (z ≤ 0) → (if decide (z ≤ 0) = true then Q' (.int 1) H4 else Nx H4) := fun z hz => by
          by_cases hq : z ≤ 0
          · rw [decide_eq_true hq] at hz ⊢
            exact kT hz _ (Same.refl _)
          · rw [decide_eq_false hq] at hz ⊢
            exact kF hz _ (Same.refl _)
        rcases two3 hx with ⟨rfl, rfl⟩ | ⟨rfl, rfl⟩ | ⟨rfl, rfl⟩
        · refine ⟨e1, _, rfl, SqT.of (g4 _ _ h1), rfl, _, _, rfl, _, _, rfl, rfl, rfl, ?_⟩
          refine ⟨_, rfl, _, rfl, _, rfl, 95, za, zb, q, _, _, _, rfl, ⟨ta', tb', p4⟩, by decide, sA, sB, sm, _, _, rfl, rfl, _, rfl, ?_⟩
          exact go _ rfl
        · refine ⟨e2, _, rfl, SqT.of (g4 _ _ h2), rfl, _, _, rfl, _, _, rfl, rfl, rfl, ?_⟩
          refine ⟨_, rfl, _, rfl, _, rfl, 95, zb, zc, q, _, _, _, rfl, ⟨tb', tc', p4⟩, by decide, sB, sC, sm, _, _, rfl, rfl, _, rfl, ?_⟩
          exact go _ rfl
        · refine ⟨e3, _, rfl, SqT.of (g4 _ _ h3), rfl, _, _, rfl, _, _, rfl, rfl, rfl, ?_⟩
          refine ⟨_, rfl, _, rfl, _, rfl, 95, zc, za, q, _, _, _, rfl, ⟨tc', ta', p4⟩, by decide, sC, sA, sm, _, _, rfl, rfl, _, rfl, ?_⟩
          exact go _ rfl
      · intro H4 g4 hD
        refine ⟨(by show 0 ≤ sizeLine; decide), fun z nz => ?_⟩
        have g5 := same_new (o := .lst []) nz
        refine ⟨_, _, .lst (SqL.of (g5 _ _ hD)) (ones_dp _), .lst (SqL.of upd_same) .nil, ones_shaped _, (by decide +kernel), ?_⟩
        rw [ones_eqv, show ([V.ref e1, V.ref e2, V.ref e3] : List V).length = 3 from rfl, kept_inS]
        exact k _ ((gq.trans g2).trans ((g3.trans g4).trans g5))
end
end Fo

set_option Elab.async false
set_option linter.all false
set_option maxRecDepth 100000
set_option maxHeartbeats 2000000
namespace Fo
open PySem L2
/-! ### _law_points -/
abbrev sPts : Stmt := top 44
/-- a list of small points -/
def Pts (H : Hp) (D : Addr) (n : Nat) : Prop := ∃ (xs : List V) (ps : List (Int × Int)), H D = some (.lst xs) ∧ TL H xs ps ∧ (∀ p ∈ ps, Sm2 10 p) ∧ xs.length ≤ n
def spPts : Sp := fun vs H Q _ => ∃ (pl l qa qb qc : Addr) (a b c : I2), vs = [.ref pl, .ref l] ∧ PoolAt pl H ∧ H l = some (.lst [.ref qa, .ref qb, .ref qc]) ∧ T3 H qa qb qc a b c ∧ Sm2 5 a ∧ Sm2 5 b ∧ Sm2 5 c ∧
  ∀ m H', But pl H H' → PoolAt pl H' → H m = none → Pts H' m 27 → Q (.ref m) H'
theorem T3.butP {H H' : Hp} {pl qa qb qc : Addr} {a b c : I2} (hp : PoolAt pl H) (e : But pl H H') (h : T3 H qa qb qc a b c) : T3 H' qa qb qc a b c := ⟨e _ _ (tup_ne hp h.a) h.a, e _ _ (tup_ne hp h.b) h.b, e _ _ (tup_ne hp h.c) h.c⟩
theorem TL.butP {H H' : Hp} {pl : Addr} {xs : List V} {ps : List (Int × Int)} (hp : PoolAt pl H) (e : But pl H H') (h : TL H xs ps) : TL H' xs ps := by
  obtain ⟨i, j, h1, _⟩ := hp
  exact h.but h1 e
theorem sm10 {x : Int} (h0 : -1000 ≤ x) (h1 : x ≤ 1000) : Sm 10 x := by
  unfold Sm
  have e : (2 : Nat) ^ 10 = 1024 := by decide
  rw [e]
  omega
theorem part_sm {x y j : Int} (hx : Sm 5 x) (hy : Sm 5 y) (h0 : 1 ≤ j) (h1 : j ≤ 6) : Sm 10 (x + (y - x) / j) := by
  have e : (2 : Nat) ^ 5 = 32 := by decide
  unfold Sm at hx hy
  rw [e] at hx hy
  have hj : j = 1 ∨ j = 2 ∨ j = 3 ∨ j = 4 ∨ j = 5 ∨ j = 6 := by omega
  refine sm10 ?_ ?_ <;> rcases hj with rfl | rfl | rfl | rfl | rfl | rfl <;> omega
section
variable {P : Program} {w : World} {K : PySem.W.Frag} {mg : Str → Option Value} {base : Heap}
abbrev ptN : List Str := ["pool", "corners_here", "found", "a", "b", "part", "turn"]
theorem scPts : FnScope ptN ["pool", "corners_here"] (defScope sPts) := ⟨rfl, rfl, rfl, by decide +kernel, rfl, by decide +kernel, by decide +kernel⟩
theorem ok_pts {f fD fPr fWy : Addr} {fd fdD fdPr fdWy : FuncData} (F : Fun K "_law_points" "_law_points" sPts f fd) (T : TxtL mg) (zL : mg "list" = none) (FD : Fun K "_law_draw" "_law_draw" sDraw fD fdD) (bD : Binds K fdD ["pool", "many"] []) (mD : mg "_law_draw" = some (.ref fD))
    (FPr : Fun K "_law_pair" "_law_pair" sPair fPr fdPr) (bPr : Binds K fdPr ["pool", "size_here"] []) (mPr : mg "_law_pair" = some (.ref fPr))
    (FWy : Fun K "_law_ways" "_law_ways" sWays fWy fdWy) (bWy : Binds K fdWy ["corners_here"] []) (mWy : mg "_law_ways" = some (.ref fWy)) :
    FnOk P w K mg base CX0 3 f fd ["pool", "corners_here"] spPts := by
  have GP : FnOk P w K mg base CX0 2 fPr fdPr ["pool", "size_here"] spPair := ok_pair FPr T FD bD mD
  have GW : FnOk P w K mg base CX0 1 fWy fdWy ["corners_here"] (spWays K) := ok_ways FWy T
  refine F.ok scPts (fun vs H Q E h => ?_) (fun cdv A outer s H vs Q E hr h => ?_)
  · obtain ⟨pl, l, qa, qb, qc, a, b, c, rfl, _⟩ := h
    rfl
  · obtain ⟨pl, l, qa, qb, qc, a, b, c, rfl, p0, hl, t, sa, sb, sc, k⟩ := h
    refine ⟨_, pss_cons (ps_set (i := 2) scPts.nd rfl (Or.inl rfl) (pe_op op_cat (pe_callTy call_list_of (by rfl) zL (by decide +kernel) (pa_cons (pv 1) pa_nil))
        (pe_lc (own := [("turn", 6)]) (g := gName 6) (tt := tYes) rfl scPts.nd (pi_range1 rfl T.range (pa_cons pe_int pa_nil)) (blkOk_by (own := [("turn", 6)]) (N := ptN) (sc := defScope sPts) (by decide +kernel)) (fun _ _ _ _ _ => pg_name (i := 6) scPts.nd rfl (Or.inl rfl)) (fun _ _ _ _ _ => pts_nil) (fun _ _ _ _ _ => (pe_call GP hr rfl mPr FPr.kp bPr .nil pass0 (pa_cons (pv 0) (pa_cons pe_int pa_nil)))))))
      (pss_cons (ps_for PassesOwn.never rfl (pi_list (pe_call GW (hr.mono (by decide)) rfl mWy FWy.kp bWy .nil pass0 (pa_cons (pv 1) pa_nil))) (pg_tup rfl (pgs_cons (pg_name (i := 3) scPts.nd rfl (Or.inl rfl)) (pgs_cons (pg_name (i := 4) scPts.nd rfl (Or.inl rfl)) pgs_nil)))
        (pss_one (ps_for PassesOwn.never rfl (pi_range2 rfl T.range (pa_cons pe_int (pa_cons pe_int pa_nil))) (pg_name (i := 5) scPts.nd rfl (Or.inl rfl))
          (pss_one (ps_if (PW.pt (pw_and (pt_cmpR op_eq (pe_op op_mod (pe_op op_sub (pe_ix (r := rIxT K) ix_tup (pv 4) pe_int (fun _ _ => rfl)) (pe_ix (r := rIxT K) ix_tup (pv 3) pe_int (fun _ _ => rfl))) (pv 5)) pe_int (nomark _)) (pw_and1 (pt_cmpR op_eq (pe_op op_mod (pe_op op_sub (pe_ix (r := rIxT K) ix_tup (pv 4) pe_int (fun _ _ => rfl)) (pe_ix (r := rIxT K) ix_tup (pv 3) pe_int (fun _ _ => rfl))) (pv 5)) pe_int (nomark _)))))
            (pss_one (ps_expr (pe_bm PySem.F.plainAttrs_list PySem.F.slot_list_append PySem.F.type_list_append mt_append (pv 2) (pa_cons (pe_tup (pa_cons (pe_op op_add (pe_ix (r := rIxT K) ix_tup (pv 3) pe_int (fun _ _ => rfl)) (pe_op op_fdiv (pe_op op_sub (pe_ix (r := rIxT K) ix_tup (pv 4) pe_int (fun _ _ => rfl)) (pe_ix (r := rIxT K) ix_tup (pv 3) pe_int (fun _ _ => rfl))) (pv 5))) (pa_cons (pe_op op_add (pe_ix (r := rIxT K) ix_tup (pv 3) pe_int (fun _ _ => rfl)) (pe_op op_fdiv (pe_op op_sub (pe_ix (r := rIxT K) ix_tup (pv 4) pe_int (fun _ _ => rfl)) (pe_ix (r := rIxT K) ix_tup (pv 3) pe_int (fun _ _ => rfl))) (pv 5))) pa_nil))) pa_nil)))) pss_nil)))))
      (pss_one (ps_ret (pv 2)))), ?_⟩
    -- found
    refine ⟨_, rfl, l, _, rfl, .inl (SqL.of hl), fun m nm => ?_⟩
    have e1 := same_new (o := HO.lst [.ref qa, .ref qb, .ref qc]) nm
    have hm1 : (upd H m (.lst [.ref qa, .ref qb, .ref qc])) m = some (.lst [.ref qa, .ref qb, .ref qc]) := upd_same
    generalize upd H m (.lst [.ref qa, .ref qb, .ref qc]) = H1 at *
    have p1 := p0.ex e1
    refine ⟨6, rfl, by decide, by decide, fun D1 hD1 => ?_⟩
    have nD0 : H D1 = none := Same.free e1 hD1
    have plD : pl ≠ D1 := by
      obtain ⟨i1, j1, h1, _⟩ := id p1
      exact ne_of_none h1 hD1
    have mD : m ≠ D1 := ne_of_none hm1 hD1
    have plm : pl ≠ m := by
      obtain ⟨i1, j1, h1, _⟩ := id p0
      exact ne_of_none h1 nm
    refine lc_range (lo := 0) (n := 6) (fun i H' => But pl H H' ∧ PoolAt pl H' ∧ H' m = some (.lst [.ref qa, .ref qb, .ref qc]) ∧ ∃ (vs : List V) (ps : List (Int × Int)), H' D1 = some (.lst vs) ∧ vs.length = i ∧ TL H' vs ps ∧ ∀ p ∈ ps, Sm2 10 p)
      ⟨But.of (e1.trans (same_new hD1)), p1.ex (same_new hD1), same_new hD1 _ _ hm1, [], [], upd_same, rfl, .nil, fun v h => by simp at h⟩ ?_ ?_
    · rintro j H2 hj ⟨b2, p2, hm2, vs, ps, hvs, hvl, ht, hs⟩
      refine ⟨rfl, ?_⟩
      unfold tYes
      dsimp only
      rw [if_pos rfl]
      refine ⟨_, rfl, pl, 6, rfl, p2, by decide, by decide, fun q x y H3 b3 p3 hq x0 x1 y0 y1 => ?_⟩
      have hD3 := b3 _ _ plD.symm hvs
      refine ⟨vs, hD3, Nat.lt_of_lt_of_le (by omega : vs.length < 7) (by decide), ?_, ?_, ?_, vs ++ [.ref q], ps ++ [(x, y)], upd_same, by rw [List.length_append, hvl]; rfl, ?_, ?_⟩
      · intro z o nz hz
        rw [upd_ne (ne_of_none hz nD0)]
        exact b3 _ _ nz (b2 _ _ nz hz)
      · obtain ⟨i3, j3, h3, r3⟩ := p3
        exact ⟨i3, j3, by rw [upd_ne plD]; exact h3, r3⟩
      · rw [upd_ne mD]
        exact b3 _ _ plm.symm hm2
      · exact ((ht.butP p2 b3).append (.cons hq .nil)).but hD3 But.upd
      · intro p hp
        rcases List.mem_append.mp hp with hp | hp
        · exact hs p hp
        · rw [List.mem_singleton] at hp
          subst hp
          exact ⟨sm10 (by show -1000 ≤ x; omega) (by show x ≤ 1000; omega), sm10 (by show -1000 ≤ y; omega) (by show y ≤ 1000; omega)⟩
    · rintro H2 ⟨b2, p2, hm2, vs, ps, hvs, hvl, ht, hs⟩
      refine ⟨m, D1, _, _, rfl, rfl, hm2, hvs, (by rw [hvl]; show 9 ≤ sizeLine; decide), fun fd nf => ?_⟩
      have nf0 : H fd = none := by
        cases hz : H fd with
        | none => rfl
        | some o =>
          by_cases e : fd = pl
          · subst e
            obtain ⟨i3, j3, h3, r3⟩ := id p2
            rw [h3] at nf
            cases nf
          · rw [b2 _ _ e hz] at nf
            cases nf
      have plf : pl ≠ fd := by
        obtain ⟨i3, j3, h3, r3⟩ := id p2
        exact ne_of_none h3 nf
      have e3 := same_new (o := HO.lst ([.ref qa, .ref qb, .ref qc] ++ vs)) nf
      have P3 : Pts (upd H2 fd (.lst ([.ref qa, .ref qb, .ref qc] ++ vs))) fd 9 := by
        have t2 := t.butP p0 b2
        refine ⟨_, [a, b, c] ++ ps, upd_same, ?_, ?_, by rw [List.length_append, hvl]; exact Nat.le_refl 9⟩
        · exact TL.ex e3 (TL.append (.cons t2.a (.cons t2.b (.cons t2.c .nil))) ht)
        · intro p hp
          rcases List.mem_append.mp hp with hp | hp
          · simp only [List.mem_cons, List.not_mem_nil, or_false] at hp
            rcases hp with rfl | rfl | rfl
            · exact sa.up (by decide)
            · exact sb.up (by decide)
            · exact sc.up (by decide)
          · exact hs p hp
      have b3 : But pl H (upd H2 fd (.lst ([.ref qa, .ref qb, .ref qc] ++ vs))) := b2.trans (But.of e3)
      have p3 := p2.ex e3
      have hl3 : (upd H2 fd (.lst ([.ref qa, .ref qb, .ref qc] ++ vs))) l = some (.lst [.ref qa, .ref qb, .ref qc]) := b3 _ _ (fun z => by
        subst z
        obtain ⟨i3, j3, h3, r3⟩ := id p0
        rw [hl] at h3
        injection h3 with h3
        injection h3 with h3
        cases h3) hl
      generalize upd H2 fd (.lst ([.ref qa, .ref qb, .ref qc] ++ vs)) = H3 at *
      refine ⟨_, rfl, l, _, _, _, rfl, SqL.of hl3, fun w1 y1 y2 y3 H4 nw e4 hw h1 h2 h3 => ?_⟩
      refine ⟨w1, rfl, ⟨_, SqL.of hw⟩, ?_⟩
      have wf : w1 ≠ fd := fun z => by
        subst z
        obtain ⟨_, _, q, _⟩ := P3
        rw [q] at nw
        cases nw
      have P4 : Pts H4 fd 9 := by
        obtain ⟨xs, qs, q1, q2, q3, q4⟩ := P3
        exact ⟨xs, qs, e4 _ _ q1, q2.ex e4, q3, q4⟩
      have b4 := b3.trans (But.of (p := pl) e4)
      have p4 := p3.ex e4
      -- what holds in the loops
      have wpl : w1 ≠ pl := fun z => by
        subst z
        obtain ⟨i3, j3, h3, r3⟩ := id p3
        rw [h3] at nw
        cases nw
      refine for_list (K := K) (a := w1) (xs := [.ref y1, .ref y2, .ref y3]) (fun j σ' H' => ∃ v3 v4 v5 v6 : Option V, σ' = [some (.ref pl), some (.ref l), some (.ref fd), v3, v4, v5, v6] ∧ But fd H4 H' ∧ Pts H' fd (9 + 6 * j)) ⟨_, _, _, _, rfl, But.refl _ _, P4⟩ (fun j σ' H' _ h => by
        obtain ⟨_, _, _, _, _, bt, _⟩ := h
        exact SqL.of (bt _ _ wf hw)) ?_ ?_
      · rintro j x σ H5 hx ⟨v3, v4, v5, v6, rfl, b5, P5⟩
        have pick : ∃ (y qx qy : Addr) (px py : I2), x = .ref y ∧ H4 y = some (.tup [.ref qx, .ref qy]) ∧ Tp H4 qx px ∧ Tp H4 qy py ∧ Sm2 5 px ∧ Sm2 5 py := by
          have t4 := t.butP p0 b4
          rcases two3 hx with ⟨rfl, rfl⟩ | ⟨rfl, rfl⟩ | ⟨rfl, rfl⟩
          · exact ⟨y1, qa, qb, a, b, rfl, h1, t4.a, t4.b, sa, sb⟩
          · exact ⟨y2, qb, qc, b, c, rfl, h2, t4.b, t4.c, sb, sc⟩
          · exact ⟨y3, qc, qa, c, a, rfl, h3, t4.c, t4.a, sc, sa⟩
        have hj : j < 3 := by
          rcases two3 hx with ⟨rfl, _⟩ | ⟨rfl, _⟩ | ⟨rfl, _⟩ <;> decide
        obtain ⟨y, qx, qy, px, py, rfl, hy, tx, ty, sx, sy⟩ := pick
        obtain ⟨xs4, _, hf4, _⟩ := id P4
        have tupne : ∀ {z : Addr} {us : List V}, H4 z = some (.tup us) → z ≠ fd := fun h => ne_of h hf4 (by intro z; cases z)
        refine ⟨y, _, rfl, SqT.of (b5 _ _ (tupne hy) hy), rfl, _, _, rfl, _, _, rfl, rfl, ?_⟩
        refine ⟨1, 7, rfl, ⟨by decide, by decide, by decide, by decide⟩, ?_⟩
        refine for_range (lo := 1) (n := 6) (fun i σ' H' => ∃ v5 : Option V, σ' = [some (.ref pl), some (.ref l), some (.ref fd), some (.ref qx), some (.ref qy), v5, v6] ∧ But fd H4 H' ∧ Pts H' fd (9 + 6 * j + i)) ⟨_, rfl, b5, P5⟩ ?_ (fun σ' H' ⟨v5, q, bt, pp⟩ => ⟨_, _, _, _, q, bt, pp⟩)
        rintro i σ H6 hi ⟨v5', rfl, b6, P6⟩
        have tx6 : Tp H6 qx px := b6 _ _ (tupne tx) tx
        have ty6 : Tp H6 qy py := b6 _ _ (tupne ty) ty
        have ip : (0 : Int) < 1 + (i : Int) := by omega
        refine ⟨_, rfl, qy, _, _, _, rfl, rfl, SqT.of ty6, atI_nat (j := 0) rfl, _, rfl, qx, _, _, _, rfl, rfl, SqT.of tx6, atI_nat (j := 0) rfl, _, _, rfl, rfl, _, rfl, _, _, rfl, rfl, ip, rfl, _, rfl, ?_⟩
        have stay : ∃ v5 : Option V, [some (.ref pl), some (.ref l), some (.ref fd), some (.ref qx), some (.ref qy), some (.int (1 + (i : Int))), v6] = [some (.ref pl), some (.ref l), some (.ref fd), some (.ref qx), some (.ref qy), v5, v6] ∧ But fd H4 H6 ∧ Pts H6 fd (9 + 6 * j + (i + 1)) := by
          obtain ⟨xs, qs, q1, q2, q3, q4⟩ := P6
          exact ⟨_, rfl, b6, xs, qs, q1, q2, q3, by omega⟩
        by_cases c1 : (py.1 - px.1) % (1 + (i : Int)) = 0
        · rw [int_eqT c1]
          refine iteT ?_
          refine ⟨_, rfl, qy, _, _, _, rfl, rfl, SqT.of ty6, atI_nat (j := 1) rfl, _, rfl, qx, _, _, _, rfl, rfl, SqT.of tx6, atI_nat (j := 1) rfl, _, _, rfl, rfl, _, rfl, _, _, rfl, rfl, ip, rfl, _, rfl, ?_⟩
          by_cases c2 : (py.2 - px.2) % (1 + (i : Int)) = 0
          · rw [int_eqT c2]
            refine iteT ?_
            obtain ⟨xs, qs, q1, q2, q3, q4⟩ := P6
            have cd : CDiv (py.1 - px.1) (1 + (i : Int)) := ⟨ip, by omega⟩
            have cd2 : CDiv (py.2 - px.2) (1 + (i : Int)) := ⟨ip, by omega⟩
            refine ⟨_, rfl, .inl ⟨rfl, _, SqL.of q1⟩, ?_⟩
            refine ⟨_, rfl, qx, _, _, _, rfl, rfl, SqT.of tx6, atI_nat (j := 0) rfl, _, rfl, qy, _, _, _, rfl, rfl, SqT.of ty6, atI_nat (j := 0) rfl, _, rfl, qx, _, _, _, rfl, rfl, SqT.of tx6, atI_nat (j := 0) rfl, _, _, rfl, rfl, _, rfl, _, _, rfl, rfl, cd, _, _, rfl, rfl, ?_⟩
            refine ⟨_, rfl, qx, _, _, _, rfl, rfl, SqT.of tx6, atI_nat (j := 1) rfl, _, rfl, qy, _, _, _, rfl, rfl, SqT.of ty6, atI_nat (j := 1) rfl, _, rfl, qx, _, _, _, rfl, rfl, SqT.of tx6, atI_nat (j := 1) rfl, _, _, rfl, rfl, _, rfl, _, _, rfl, rfl, cd2, _, _, rfl, rfl, ?_⟩
            refine ⟨(by show 2 ≤ sizeLine; decide), fun z nz => ?_⟩
            have e7 := same_new (o := HO.tup [.int (px.1 + (py.1 - px.1) / (1 + (i : Int))), .int (px.2 + (py.2 - px.2) / (1 + (i : Int)))]) nz
            refine ⟨fd, xs, _, rfl, rfl, e7 _ _ q1, Nat.lt_of_lt_of_le (by omega : xs.length < 1000) (by decide), ?_⟩
            refine ⟨_, rfl, (b6.trans (But.of e7)).trans But.upd, xs ++ [.ref z], qs ++ [(px.1 + (py.1 - px.1) / (1 + (i : Int)), px.2 + (py.2 - px.2) / (1 + (i : Int)))], upd_same, ?_, ?_, by rw [List.length_append]; simp; omega⟩
            · exact ((q2.ex e7).append (.cons upd_same .nil)).but (e7 _ _ q1) But.upd
            · intro p hp
              rcases List.mem_append.mp hp with hp | hp
              · exact q3 p hp
              · rw [List.mem_singleton] at hp
                subst hp
                exact ⟨part_sm sx.1 sy.1 (by omega) (by omega), part_sm sx.2 sy.2 (by omega) (by omega)⟩
          · rw [int_eqF c2]
            refine iteF ?_
            exact stay
        · rw [int_eqF c1]
          refine iteF ?_
          exact stay
      · rintro σ H5 ⟨v3, v4, v5, v6, rfl, b5, P5⟩
        obtain ⟨xs4, _, hf4, _⟩ := id P4
        refine ⟨_, rfl, k fd H5 ?_ ?_ nf0 P5⟩
        · intro z o nz hz
          exact b5 _ _ (ne_of_none hz nf0) (b4 _ _ nz hz)
        · obtain ⟨i3, j3, h3, r3⟩ := p4
          exact ⟨i3, j3, b5 _ _ plf h3, r3⟩
end
end Fo

set_option Elab.async false
set_option linter.all false
set_option maxRecDepth 100000
set_option maxHeartbeats 2000000
namespace Fo
open PySem L2
/-! ### small helpers of the law -/
theorem sd_aab (a b : I2) : sd a a b = 0 := by
  unfold sd sideI
  grind
theorem sd_aba (a b : I2) : sd a b a = 0 := by
  unfold sd sideI
  grind
theorem sd_abb (a b : I2) : sd a b b = 0 := by
  unfold sd sideI
  grind
theorem ne_ab {a b c : I2} (h : 0 < sd a b c) : a ≠ b := fun e => by
  subst e
  rw [sd_aab] at h
  omega
theorem ne_ac {a b c : I2} (h : 0 < sd a b c) : c ≠ a := fun e => by
  subst e
  rw [sd_aba] at h
  omega
theorem ne_bc {a b c : I2} (h : 0 < sd a b c) : b ≠ c := fun e => by
  subst e
  rw [sd_abb] at h
  omega
theorem on1 {a b c : I2} (h : 0 < sd a b c) : onB a b c = b ∧ onC a b c = c := by
  unfold onB onC
  rw [if_pos h, if_pos h]
  exact ⟨rfl, rfl⟩
theorem pD_eqv (p q : I2) : PyData.eqv (pD p) (pD q) = decide (p = q) := by
  rw [← i2_dec]
  by_cases h1 : p.1 = q.1 <;> by_cases h2 : p.2 = q.2 <;> simp [pD, PyData.eqv, PyData.eqvAll, h1, h2]
theorem pD_sh (p : I2) : SeqAt.shaped (pD p) = true := rfl
theorem tp_dp' {K : PySem.W.Frag} {H : Hp} {q : Addr} {p : I2} (h : Tp H q p) : Dp K H (.ref q) (pD p) := .tup (SqT.of h) (.cons (.int _) (.cons (.int _) .nil))
theorem sh_self {d : PyData} (h : SeqAt.shaped d = true) : PyData.eqv d d = true := SeqAt.eqv_refl d (SeqAt.canLay_of_shaped h)
theorem IsP.butP {C pl : Addr} {v : V} {x y : Int} {H H' : Hp} (p : PoolAt pl H) (b : But pl H H') (h : IsP C v x y H) : IsP C v x y H' := by
  obtain ⟨i, j, hp, _⟩ := p
  exact h.but hp b
theorem IsT.butP {C CT pl : Addr} {v : V} {a b c : I2} {H H' : Hp} (p : PoolAt pl H) (bt : But pl H H') (h : IsT C CT v a b c H) : IsT C CT v a b c H' := by
  obtain ⟨t, dx, l, v1, v2, v3, rfl, h1, h2, h3⟩ := h
  obtain ⟨i, j, hp, r⟩ := id p
  have n1 : t ≠ pl := ne_of h1 hp (by intro z; cases z)
  have n2 : l ≠ pl := fun e => by
    rw [e, hp] at h2
    injection h2 with h2
    injection h2 with h2
    injection h2 with _ h2
    injection h2 with _ h2
    cases h2
  exact ⟨t, dx, l, v1, v2, v3, rfl, bt _ _ n1 h1, bt _ _ n2 h2, h3.1.butP p bt, h3.2.1.butP p bt, h3.2.2.butP p bt⟩
/-- [te for g in t], t a tuple -/
theorem lc_allT {K : PySem.W.Frag} {l D : Addr} {g : TG} {te : TE} {sl : List Nat} {σ : L2.St} {H1 : Hp} {xs : List V} {Qd : Hp → Prop} (R : Nat → V → Hp → Prop) (rex : ∀ i v H H', Same H H' → R i v H → R i v H') (rbut : ∀ i v H H' D ys, H D = some (HO.lst ys) → But D H H' → R i v H → R i v H')
    (hl : SqT K H1 l xs) (hn : xs.length ≤ 1000)
    (step : ∀ i x H', xs[i]? = some x → Same H1 H' → ∀ Q' : VK, (∀ v H'', Same H' H'' → R i v H'' → Q' v H'') → g x (wipe σ sl) H' fun σ2 H2 => wipe σ2 sl = wipe σ sl ∧ te σ2 H2 Q')
    (hd : ∀ H' vs, Same H1 H' → H' D = some (.lst vs) → vs.length = xs.length → (∀ i v, vs[i]? = some v → R i v H') → Qd H') (hD : H1 D = none) :
    ∃ W : Nat → Nat → Hp → Prop, (∃ m, W 0 m (upd H1 D (.lst []))) ∧ ∀ i m H, W i m H → ((Itt K l).stop i H ∧ Qd H) ∨
      ((Itt K l).go i H ∧ ∃ Nx : Hp → Prop, (∀ H', Nx H' → ∃ m', m' < m ∧ W (i + 1) m' H') ∧ ∀ x H', (Itt K l).yld i H x H' → g x (wipe σ sl) H' fun σ2 H2 => wipe σ2 sl = wipe σ sl ∧ tYes σ2 H2 fun b H3 =>
      if b = true then te σ2 H3 fun y H4 => ∃ acc, H4 D = some (.lst acc) ∧ acc.length < sizeLine ∧ Nx (upd H4 D (.lst (acc ++ [y]))) else Nx H3) := by
  refine lc_tup (K := K) (a := l) (xs := xs) (fun i H' => Same H1 H' ∧ ∃ vs : List V, H' D = some (.lst vs) ∧ vs.length = i ∧ ∀ j v, vs[j]? = some v → R j v H') ?_ ?_ ?_ ?_
  · exact ⟨same_new hD, [], upd_same, rfl, fun j v h => by simp at h⟩
  · rintro i H' _ ⟨e, _⟩
    exact SqT.ex e hl
  · rintro i x H' hx ⟨e, vs, hv, hlen, hp⟩
    have hi : i < xs.length := (List.getElem?_eq_some_iff.mp hx).1
    refine step i x H' hx e (fun y H4 => ∃ acc, H4 D = some (.lst acc) ∧ acc.length < sizeLine ∧ Same H1 (upd H4 D (.lst (acc ++ [y]))) ∧ ∃ vs : List V, (upd H4 D (.lst (acc ++ [y]))) D = some (.lst vs) ∧ vs.length = i + 1 ∧ ∀ j v, vs[j]? = some v → R j v (upd H4 D (.lst (acc ++ [y])))) fun v H'' e2 h2 => ?_
    have hv2 := e2 _ _ hv
    refine ⟨vs, hv2, Nat.lt_of_lt_of_le (by omega : vs.length < 1001) (by decide), (But.upd.same hD (e.trans e2)), vs ++ [v], upd_same, by rw [List.length_append, hlen]; rfl, fun j u hu => ?_⟩
    by_cases hj : j < vs.length
    · rw [List.getElem?_append_left hj] at hu
      exact rbut _ _ _ _ _ _ hv2 But.upd (rex _ _ _ _ e2 (hp j u hu))
    · have hj2 : j = vs.length := by
        have := (List.getElem?_eq_some_iff.mp hu).1
        rw [List.length_append] at this
        simp at this
        omega
      subst hj2
      rw [List.getElem?_append_right (Nat.le_refl _)] at hu
      simp at hu
      subst hu
      rw [hlen]
      exact rbut _ _ _ _ _ _ hv2 But.upd h2
  · rintro H' ⟨e, vs, hv, hlen, hp⟩
    exact hd H' vs e hv hlen hp
theorem low_sm {n : Nat} {d : I2} (hd : Dir d) (h : Sm2 n d) : Sm2 n (low d) := by
  have hp := gcI_pos hd
  have e := low_mul_gc (a := d)
  have le : ∀ {x y g : Int}, 0 < g → x * g = y → x.natAbs ≤ y.natAbs := fun {x y g} hg hxy => by
    rw [← hxy, Int.natAbs_mul]
    exact Nat.le_mul_of_pos_right _ (by omega)
  exact ⟨Nat.lt_of_le_of_lt (le hp e.1) h.1, Nat.lt_of_le_of_lt (le hp e.2) h.2⟩
/-- the corners, their list, the pool -/
structure CorL (H0 : Hp) (pl l qa qb qc : Addr) (a b c : I2) (H : Hp) : Prop where
  base : Same H0 H
  pool : PoolAt pl H
  lst : H l = some (.lst [.ref qa, .ref qb, .ref qc])
  t : T3 H qa qb qc a b c
section
variable {H0 H H' : Hp} {pl l qa qb qc : Addr} {a b c : I2}
theorem CorL.ex (h : CorL H0 pl l qa qb qc a b c H) (e : Same H H') : CorL H0 pl l qa qb qc a b c H' := ⟨h.base.trans e, h.pool.ex e, e _ _ h.lst, h.t.ex e⟩
theorem CorL.ne (h : CorL H0 pl l qa qb qc a b c H) : l ≠ pl := fun e => by
  obtain ⟨i, j, hp, _⟩ := h.pool
  have h2 := h.lst
  rw [e, hp] at h2
  injection h2 with h2
  injection h2 with h2
  injection h2 with h2
  cases h2
theorem CorL.but (h : CorL H0 pl l qa qb qc a b c H) (h0 : H0 pl = none) (b' : But pl H H') (p : PoolAt pl H') : CorL H0 pl l qa qb qc a b c H' :=
  ⟨b'.same h0 h.base, p, b' _ _ h.ne h.lst, h.t.butP h.pool b'⟩
end
/-- and the triangle and the half -/
structure All (C CH CT : Addr) (H0 : Hp) (pl l qa qb qc : Addr) (a b c : I2) (tr hf : V) (w : J2) (o : Bool) (H : Hp) : Prop where
  cor : CorL H0 pl l qa qb qc a b c H
  tri : IsT C CT tr a b c H
  hf : IsH C CH hf w o H
section
variable {C CH CT : Addr} {H0 H H' : Hp} {pl l qa qb qc : Addr} {a b c : I2} {tr hf : V} {w : J2} {o : Bool}
theorem All.ex (h : All C CH CT H0 pl l qa qb qc a b c tr hf w o H) (e : Same H H') : All C CH CT H0 pl l qa qb qc a b c tr hf w o H' := ⟨h.cor.ex e, h.tri.ex e, h.hf.ex e⟩
theorem All.but (h : All C CH CT H0 pl l qa qb qc a b c tr hf w o H) (h0 : H0 pl = none) (b' : But pl H H') (p : PoolAt pl H') : All C CH CT H0 pl l qa qb qc a b c tr hf w o H' := ⟨h.cor.but h0 b' p, h.tri.butP h.cor.pool b', h.hf.butP h.cor.pool b'⟩
theorem make_half {u : V} {d : I2} {n : Nat} {Q : VK} {E : XK} (ne : C ≠ CH) (hu : IsPt C u d.1 d.2 H) (hd : Dir d) (n0 : 0 < n) (n1 : n ≤ 1000) (sd : Sm2 n d) (k : ∀ t H', Same H H' → IsH C CH t (low d) o H' → Q t H') :
    ∀ x dx, H x = none → H dx = none → dx ≠ x → spHInit C CH (.ref x :: ([u, .bl o] ++ [])) (upd (upd H dx (.own x)) x (.ins CH dx [])) (fun v H2 => v = .non ∧ Q (.ref x) H2) E := fun x dx nx nd ndx => by
  have g1 : Same H (upd (upd H dx (.own x)) x (.ins CH dx [])) := (same_new nd).trans (same_new (by rw [upd_ne ndx.symm]; exact nx))
  exact ⟨n, x, dx, u, d, o, rfl, upd_same, hu.ex g1, hd, n0, n1, sd.1, sd.2, fun q H' bt hx hq => ⟨rfl, k _ _ (But.same nx g1 bt) ⟨x, dx, q, rfl, hx, hq⟩⟩⟩
end
end Fo

set_option Elab.async false
set_option linter.all false
set_option maxRecDepth 100000
set_option maxHeartbeats 2000000
namespace Fo
open PySem L2
/-! ### the law -/
abbrev sLaw : Stmt := top 46
abbrev lawN : List Str := ["script", "k", "pool", "corners_here", "triangle", "way", "half", "short", "first", "second", "turned", "by", "p", "is_it", "scale", "small", "more", "turn", "d", "odd", "point"]
theorem scLaw : FnScope lawN ["script"] (defScope sLaw) := ⟨rfl, rfl, rfl, by decide +kernel, rfl, by decide +kernel, by decide +kernel⟩
def oddS : Nat → Str
  | 0 => "0"
  | 1 => "-1"
  | 2 => "None"
  | _ => "True"
theorem shows_by {d : PyData} (h : (d.showable && !d.hasDict && decide (d.depth ≤ 60) && decide (d.shown.length ≤ 1000)) = true) : ShowsOk d := by
  simp only [Bool.and_eq_true, Bool.not_eq_true', decide_eq_true_eq] at h
  exact ⟨h.1.1.1, h.1.1.2, h.1.2, Nat.le_trans h.2 (by decide)⟩
def spLaw (K : PySem.W.Frag) : Sp := fun vs H Q _ => ∃ (a : Addr) (ns : List Int), vs = [.ref a] ∧ SqL K H a (ns.map V.int) ∧ ns.length ≤ 63 ∧ ∀ H', Q (.bl true) H'
/-- the law's own helpers and the other defs, as they stand -/
structure LDefs (P : Program) (K : PySem.W.Frag) (mg : Str → Option Value) (C CH CT CM fMI CF fRm pW pA pAr fId fHI fWG fWS fAG fAS fHs fCl fEq fS fTI fCo fEd fAr fAd fG fDr fL fX fSb fQ fM fSh fOs fSc fOw fIl fSp fHE fMv fPm fH fD fPr fLs fCn fWy fR fMW fPt fSr : Addr) (fdId fdHI fdWG fdWS fdAG fdAS fdHs fdCl fdEq fdS fdTI fdCo fdEd fdAr fdAd fdG fdDr fdL fdX fdSb fdQ fdM fdSh fdOs fdSc fdOw fdIl fdSp fdHE fdMv fdPm fdH fdD fdPr fdLs fdCn fdWy fdR fdMW fdPt fdSr : FuncData) : Prop where
  TL : TxtL mg
  d : TDefs K mg C CT fS fTI fCo fEd fAr fEq fAd pAr fdS fdTI fdCo fdEd fdAr fdEq fdAd
  h : HDefs K mg C CH fId fHI fWG fWS fAG fAS fHs fCl fEq pW pA fdId fdHI fdWG fdWS fdAG fdAS fdHs fdCl fdEq
  L : DirL K mg C fG fDr fL fX fdG fdDr fdL fdX
  R : RTxtN P K mg C CM fMI CF
  zA : mg "abs" = none
  zS : mg "str" = none
  FSb : Fun K "__sub__" "Point.__sub__" sSub fSb fdSb
  bSb : Binds K fdSb ["self", "other"] []
  oSb : OwnOp K C .Sub fSb
  FQ : Fun K "quarter" "quarter" sQuarter fQ fdQ
  bQ : Binds K fdQ ["point"] []
  mQ : mg "quarter" = some (.ref fQ)
  FM : Fun K "__mul__" "Point.__mul__" sMul fM fdM
  bM : Binds K fdM ["self", "other"] []
  oM : OwnMul K C fM fRm
  FSh : Fun K "shift_of" "shift_of" sShift fSh fdSh
  bSh : Binds K fdSh ["half"] []
  mSh : mg "shift_of" = some (.ref fSh)
  FOs : Fun K "owns_shifted" "owns_shifted" sOwnsS fOs fdOs
  bOs : Binds K fdOs ["half", "triangle", "point", "scale"] []
  mOs : mg "owns_shifted" = some (.ref fOs)
  FSc : Fun K "scale_for" "scale_for" sScale fSc fdSc
  bSc : Binds K fdSc ["half", "triangle", "point"] []
  mSc : mg "scale_for" = some (.ref fSc)
  FOw : Fun K "owns" "owns" sOwns fOw fdOw
  bOw : Binds K fdOw ["rule", "triangle", "point"] []
  mOw : mg "owns" = some (.ref fOw)
  FIl : Fun K "is_left" "is_left" sIsLeft fIl fdIl
  bIl : Binds K fdIl ["rule", "a", "b", "place"] []
  mIl : mg "is_left" = some (.ref fIl)
  FSp : Fun K "set_part" "set_part" sSetPart fSp fdSp
  bSp : Binds K fdSp ["half", "part", "thing"] []
  mSp : mg "set_part" = some (.ref fSp)
  FHE : Fun K "__eq__" "Half.__eq__" sHEq fHE fdHE
  bHE : Binds K fdHE ["self", "other"] []
  oHE : OwnEqC K CH fHE
  FMv : Fun K "moved" "Triangle.moved" sMoved fMv fdMv
  bMv : Binds K fdMv ["self", "by"] []
  mMv : Meth K CT "moved" fMv
  FPm : Fun K "pair" "Point.pair" sPairM fPm fdPm
  bPm : Binds K fdPm ["self"] []
  mPm : Meth K C "pair" fPm
  FH : Fun K "_law_hand" "_law_hand" sHand fH fdH
  bH : Binds K fdH ["script", "k"] []
  mH : mg "_law_hand" = some (.ref fH)
  FD : Fun K "_law_draw" "_law_draw" sDraw fD fdD
  bD : Binds K fdD ["pool", "many"] []
  mD : mg "_law_draw" = some (.ref fD)
  FPr : Fun K "_law_pair" "_law_pair" sPair fPr fdPr
  bPr : Binds K fdPr ["pool", "size_here"] []
  mPr : mg "_law_pair" = some (.ref fPr)
  FLs : Fun K "_law_side" "_law_side" sLSide fLs fdLs
  bLs : Binds K fdLs ["a", "b", "p"] []
  mLs : mg "_law_side" = some (.ref fLs)
  FCn : Fun K "_law_corners" "_law_corners" sCorn fCn fdCn
  bCn : Binds K fdCn ["pool", "size_here"] []
  mCn : mg "_law_corners" = some (.ref fCn)
  FWy : Fun K "_law_ways" "_law_ways" sWays fWy fdWy
  bWy : Binds K fdWy ["corners_here"] []
  mWy : mg "_law_ways" = some (.ref fWy)
  FR : Fun K "_law_refused" "_law_refused" sRefused fR fdR
  bR : Binds K fdR ["half", "triangle", "scale"] []
  mR : mg "_law_refused" = some (.ref fR)
  FMW : Fun K "_law_moved_within" "_law_moved_within" sMW fMW fdMW
  bMW : Binds K fdMW ["corners_here", "p", "first", "second", "scale"] []
  mMW : mg "_law_moved_within" = some (.ref fMW)
  FPt : Fun K "_law_points" "_law_points" sPts fPt fdPt
  bPt : Binds K fdPt ["pool", "corners_here"] []
  mPt : mg "_law_points" = some (.ref fPt)
  FSr : Fun K "_law_set_right" "_law_set_right" sSetRight fSr fdSr
  bSr : Binds K fdSr ["half"] []
  mSr : mg "_law_set_right" = some (.ref fSr)
section
variable {P : Program} {w : World} {K : PySem.W.Frag} {mg : Str → Option Value} {base : Heap} {fW fI fP fA fO C CH CT CM fMI CF fRm pW pA pAr fId fHI fWG fWS fAG fAS fHs fCl fEq fS fTI fCo fEd fAr fAd fG fDr fL fX fSb fQ fM fSh fOs fSc fOw fIl fSp fHE fMv fPm fH fD fPr fLs fCn fWy fR fMW fPt fSr : Addr} {fdW fdI fdP fdA fdO fdId fdHI fdWG fdWS fdAG fdAS fdHs fdCl fdEq fdS fdTI fdCo fdEd fdAr fdAd fdG fdDr fdL fdX fdSb fdQ fdM fdSh fdOs fdSc fdOw fdIl fdSp fdHE fdMv fdPm fdH fdD fdPr fdLs fdCn fdWy fdR fdMW fdPt fdSr : FuncData}
theorem ok_law {f : Addr} {fd : FuncData} (F : Fun K "law" "law" sLaw f fd) (D : Defs K mg C fW fI fP fA fO fdW fdI fdP fdA fdO) (L : LDefs P K mg C CH CT CM fMI CF fRm pW pA pAr fId fHI fWG fWS fAG fAS fHs fCl fEq fS fTI fCo fEd fAr fAd fG fDr fL fX fSb fQ fM fSh fOs fSc fOw fIl fSp fHE fMv fPm fH fD fPr fLs fCn fWy fR fMW fPt fSr fdId fdHI fdWG fdWS fdAG fdAS fdHs fdCl fdEq fdS fdTI fdCo fdEd fdAr fdAd fdG fdDr fdL fdX fdSb fdQ fdM fdSh fdOs fdSc fdOw fdIl fdSp fdHE fdMv fdPm fdH fdD fdPr fdLs fdCn fdWy fdR fdMW fdPt fdSr) :
    FnG P w K mg base CX0 13 f fd ["script"] (spLaw K) := by
  have d := L.d
  have h := L.h
  have GR : FnG P w K mg base CX0 9 fR fdR ["half", "triangle", "scale"] (spRefN K C CH CT) := ok_refN L.FR D L.FOs L.bOs L.mOs L.R
  have GI : FnOk P w K mg base CX0 2 fI fdI ["self", "x", "y"] (spInit C) := D.GI
  have GTI : FnOk P w K mg base CX0 8 fTI fdTI ["self", "a", "b", "c"] (spTInit C CT) := d.GTI D
  have GHI : FnOk P w K mg base CX0 10 fHI fdHI ["self", "way", "ahead"] (spHInit C CH) := h.GHI D L.L L.FPm L.bPm L.mPm
  have GSr : FnOk P w K mg base CX0 12 fSr fdSr ["half"] (spSetR C CH) := ok_setR L.FSr h D L.L L.FPm L.bPm L.mPm L.zS L.FSp L.bSp L.mSp L.FHE L.bHE L.oHE L.FQ L.bQ L.mQ L.FM L.bM L.oM L.FSh L.bSh L.mSh
  have GMv : FnOk P w K mg base CX0 10 fMv fdMv ["self", "by"] (spMoved C CT) := ok_moved L.FMv d D
  have GAd : FnOk P w K mg base CX0 6 fAd fdAd ["self", "other"] (spBin C (· + ·)) := ok_add d.FAd D
  have GPm : FnOk P w K mg base CX0 1 fPm fdPm ["self"] (spPairM C) := ok_pairM L.FPm D.T
  have GWG : FnOk P w K mg base CX0 1 fWG fdWG ["self"] (spWayG C CH) := h.GWG
  have GAG : FnOk P w K mg base CX0 1 fAG fdAG ["self"] (spAhG C CH) := h.GAG
  have GCl : FnOk P w K mg base CX0 7 fCl fdCl ["self", "direction"] (spHCall C CH) := h.GCl D L.L
  have GSh : FnOk P w K mg base CX0 6 fSh fdSh ["half"] (spShift C CH) := ok_shift L.FSh h D L.FQ L.bQ L.mQ L.FM L.bM L.oM
  have GOs : FnOk P w K mg base CX0 8 fOs fdOs ["half", "triangle", "point", "scale"] (spOwnsS C CH CT) := ok_ownsS L.FOs d h D L.FQ L.bQ L.mQ L.FM L.bM L.oM L.FSh L.bSh L.mSh
  have GSc : FnOk P w K mg base CX0 8 fSc fdSc ["half", "triangle", "point"] (spScale C CH CT) := ok_scale L.FSc d h D L.L L.FSb L.bSb L.oSb L.FQ L.bQ L.mQ L.FM L.bM L.oM L.FSh L.bSh L.mSh L.zA L.TL.max L.TL.int
  have GOw : FnOk P w K mg base CX0 10 fOw fdOw ["rule", "triangle", "point"] (spOwns C CH CT) := ok_owns L.FOw d h D L.L L.FSb L.bSb L.oSb L.FIl L.bIl L.mIl
  have GH : FnOk P w K mg base CX0 1 fH fdH ["script", "k"] (spHand K) := ok_hand L.FH L.TL
  have GD : FnOk P w K mg base CX0 1 fD fdD ["pool", "many"] spDraw := ok_draw L.FD L.TL
  have GPr : FnOk P w K mg base CX0 2 fPr fdPr ["pool", "size_here"] spPair := ok_pair L.FPr L.TL L.FD L.bD L.mD
  have GCn : FnOk P w K mg base CX0 3 fCn fdCn ["pool", "size_here"] spCorn := ok_corn L.FCn L.TL L.FD L.bD L.mD L.FPr L.bPr L.mPr L.FLs L.bLs L.mLs
  have GMW : FnOk P w K mg base CX0 2 fMW fdMW ["corners_here", "p", "first", "second", "scale"] (spMW K) := ok_mw L.FMW L.TL L.FWy L.bWy L.mWy L.FLs L.bLs L.mLs
  have GPt : FnOk P w K mg base CX0 3 fPt fdPt ["pool", "corners_here"] spPts := ok_pts L.FPt L.TL d.TT.list L.FD L.bD L.mD L.FPr L.bPr L.mPr L.FWy L.bWy L.mWy
  refine F.okG scLaw (fun vs H Q E h => ?_) (fun cdv A outer s H vs Q E hgd0 hr hq => ?_)
  · obtain ⟨a, ns, rfl, _⟩ := h
    rfl
  · obtain ⟨sa, ns, rfl, hS, hlen, k⟩ := hq
    have hgd : (A.deeper (PyProof.Rows.envOfC (Str.ofString "law") (defScope sLaw) s.heap.objs.size f cdv)).guards = some [] := hgd0
    have hr11 : Room 11 _ := hr.mono (by decide)
    have hr10 : Room 10 _ := hr.mono (by decide)
    have hr9 : Room 9 _ := hr.mono (by decide)
    have hr8 : Room 8 _ := hr.mono (by decide)
    have hr6 : Room 6 _ := hr.mono (by decide)
    have hr3 : Room 3 _ := hr.mono (by decide)
    have hr2 : Room 2 _ := hr.mono (by decide)
    have hr1 : Room 1 _ := hr.mono (by decide)
    refine ⟨_, pss_cons (ps_for PassesOwn.never rfl (pi_range1 rfl L.TL.range (pa_cons (pe_callB (call_max2 rfl) (by rfl) L.TL.max (by decide +kernel) (pa_cons pe_int (pa_cons (pe_callB (call_min2 rfl) (by rfl) L.TL.min (by decide +kernel) (pa_cons (pe_callB call_len_seq (by rfl) L.TL.len PySem.boot_len (pa_cons (pv 0) pa_nil)) (pa_cons pe_int pa_nil))) pa_nil))) pa_nil)) (pg_name (i := 1) scLaw.nd rfl (Or.inl rfl))
        (pss_cons (ps_set (i := 2) scLaw.nd rfl (Or.inl rfl) (pe_call GH hr1 rfl L.mH L.FH.kp L.bH .nil pass0 (pa_cons (pv 0) (pa_cons (pv 1) pa_nil))))
        (pss_cons (ps_set (i := 3) scLaw.nd rfl (Or.inl rfl) (pe_call GCn hr3 rfl L.mCn L.FCn.kp L.bCn .nil pass0 (pa_cons (pv 2) (pa_cons pe_int pa_nil))))
        (pss_cons (ps_set (i := 4) scLaw.nd rfl (Or.inr rfl) (pe_make d.MT GTI hr9 rfl d.TT.mgT d.bTI .nil pass0 (pa_cons (pe_ix ix_list (pv 3) pe_int (fun _ _ => rfl)) (pa_cons (pe_ix ix_list (pv 3) pe_int (fun _ _ => rfl)) (pa_cons (pe_ix ix_list (pv 3) pe_int (fun _ _ => rfl)) pa_nil)))))
        (pss_cons (ps_set (i := 5) scLaw.nd rfl (Or.inl rfl) (pe_call GPr hr2 rfl L.mPr L.FPr.kp L.bPr .nil pass0 (pa_cons (pv 2) (pa_cons pe_int pa_nil))))
        (pss_cons (ps_set (i := 6) scLaw.nd rfl (Or.inr rfl) (pe_make h.MH GHI hr11 rfl h.TH.mgH h.bHI .nil pass0 (pa_cons (pe_ifExp (pt_cmpR (op_eqD hr.units) (pv 5) (pe_tup (pa_cons pe_int (pa_cons pe_int pa_nil))) (nomark _)) (pe_tup (pa_cons pe_int (pa_cons (pe_un un_neg pe_int) pa_nil))) (pv 5)) (pa_cons (pe_cmpR op_eq (pe_call GD hr1 rfl L.mD L.FD.kp L.bD .nil pass0 (pa_cons (pv 2) (pa_cons pe_int pa_nil))) pe_int (nomark _)) pa_nil))))
        (pss_cons (ps_if (pt_not (pt_val (pe_call GSr hr rfl L.mSr L.FSr.kp L.bSr .nil pass0 (pa_cons (pv 6) pa_nil)))) (pss_one (ps_ret pe_bl)) pss_nil)
        (pss_cons (ps_set (i := 7) scLaw.nd rfl (Or.inl rfl) (pe_meth0 (pe_prop (pv 6) h.TH.cl h.pWG GWG hr2 h.bWG .nil pass0 rfl) D.T.cl L.mPm GPm hr1 L.bPm .nil pass0))
        (pss_cons (ps_asg (pe_lc (own := [("point", 20)]) (g := gName 20) (tt := tYes) rfl scLaw.nd (pi_tup (pe_call GSh hr6 rfl L.mSh L.FSh.kp L.bSh .nil pass0 (pa_cons (pv 6) pa_nil))) (blkOk_by (own := [("point", 20)]) (N := lawN) (sc := defScope sLaw) (by decide +kernel)) (fun _ _ _ _ _ => (pg_name (i := 20) scLaw.nd rfl (Or.inl rfl))) (fun _ _ _ _ _ => pts_nil) (fun _ _ _ _ _ => (pe_meth0 (pv 20) D.T.cl L.mPm GPm hr1 L.bPm .nil pass0))) (pg_unl rfl (pgs_cons (pg_name (i := 8) scLaw.nd rfl (Or.inl rfl)) (pgs_cons (pg_name (i := 9) scLaw.nd rfl (Or.inl rfl)) pgs_nil))))
        (pss_cons (ps_set (i := 10) scLaw.nd rfl (Or.inl rfl) (pe_ifExp (pt_val (pe_prop (pv 6) h.TH.cl h.pAG GAG hr2 h.bAG .nil pass0 rfl)) (pe_tup (pa_cons (pe_un un_neg (pe_ix (r := rIxT K) ix_tup (pv 7) pe_int (fun _ _ => rfl))) (pa_cons (pe_ix (r := rIxT K) ix_tup (pv 7) pe_int (fun _ _ => rfl)) pa_nil))) (pe_tup (pa_cons (pe_ix (r := rIxT K) ix_tup (pv 7) pe_int (fun _ _ => rfl)) (pa_cons (pe_un un_neg (pe_ix (r := rIxT K) ix_tup (pv 7) pe_int (fun _ _ => rfl))) pa_nil)))))
        (pss_cons (ps_if (PW.pt (pw_or (pt_cmpR (op_neD hr.units) (pv 8) (pe_tup (pa_cons (pe_un un_neg (pe_ix (r := rIxT K) ix_tup (pv 7) pe_int (fun _ _ => rfl))) (pa_cons (pe_un un_neg (pe_ix (r := rIxT K) ix_tup (pv 7) pe_int (fun _ _ => rfl))) pa_nil))) (nomark _)) (pw_or1 (pt_cmpR (op_neD hr.units) (pv 9) (pv 10) (nomark _))))) (pss_one (ps_ret pe_bl)) pss_nil)
        (pss_cons (ps_set (i := 11) scLaw.nd rfl (Or.inl rfl) (pe_call GPr hr2 rfl L.mPr L.FPr.kp L.bPr .nil pass0 (pa_cons (pv 2) (pa_cons pe_int pa_nil))))
        (pss_cons (ps_for PassesOwn.never rfl (pi_list (pe_call GPt hr3 rfl L.mPt L.FPt.kp L.bPt .nil pass0 (pa_cons (pv 2) (pa_cons (pv 3) pa_nil)))) (pg_name (i := 12) scLaw.nd rfl (Or.inl rfl))
        (pss_cons (ps_set (i := 13) scLaw.nd rfl (Or.inl rfl) (pe_call GOw hr10 rfl L.mOw L.FOw.kp L.bOw .nil pass0 (pa_cons (pv 6) (pa_cons (pv 4) (pa_cons (pv 12) pa_nil)))))
        (pss_cons (ps_set (i := 14) scLaw.nd rfl (Or.inl rfl) (pe_call GSc hr8 rfl L.mSc L.FSc.kp L.bSc .nil pass0 (pa_cons (pv 6) (pa_cons (pv 4) (pa_cons (pv 12) pa_nil)))))
        (pss_cons (ps_for PassesOwn.never rfl (pi_list (pe_lst (pa_cons pe_int (pa_cons pe_int (pa_cons pe_int (pa_cons (pe_op op_add pe_int (pe_call GD hr1 rfl L.mD L.FD.kp L.bD .nil pass0 (pa_cons (pv 2) (pa_cons pe_int pa_nil)))) pa_nil)))))) (pg_name (i := 15) scLaw.nd rfl (Or.inl rfl))
        (pss_one (ps_if (pt_cmpR op_ne (pe_call GOs hr8 rfl L.mOs L.FOs.kp L.bOs .nil pass0 (pa_cons (pv 6) (pa_cons (pv 4) (pa_cons (pv 12) (pa_cons (pv 15) pa_nil))))) (pe_call GMW hr2 rfl L.mMW L.FMW.kp L.bMW .nil pass0 (pa_cons (pv 3) (pa_cons (pv 12) (pa_cons (pv 8) (pa_cons (pv 9) (pa_cons (pv 15) pa_nil)))))) (nomark _)) (pss_one (ps_ret pe_bl)) pss_nil)))
        (pss_cons (ps_for PassesOwn.never rfl (pi_list (pe_lst (pa_cons pe_int (pa_cons pe_int (pa_cons (pe_op op_pow pe_int pe_int) pa_nil))))) (pg_name (i := 16) scLaw.nd rfl (Or.inl rfl))
        (pss_cons (ps_if (pt_cmpR op_ne (pe_call GOs hr8 rfl L.mOs L.FOs.kp L.bOs .nil pass0 (pa_cons (pv 6) (pa_cons (pv 4) (pa_cons (pe_make D.M GI hr3 rfl D.T.mgC D.bI .nil pass0 (pa_cons (pe_ix (r := rIxT K) ix_tup (pv 12) pe_int (fun _ _ => rfl)) (pa_cons (pe_ix (r := rIxT K) ix_tup (pv 12) pe_int (fun _ _ => rfl)) pa_nil))) (pa_cons (pe_op op_add (pv 14) (pv 16)) pa_nil))))) (pv 13) (nomark _)) (pss_one (ps_ret pe_bl)) pss_nil)
        (pss_one (ps_if (pt_cmpR op_ne (pe_call GMW hr2 rfl L.mMW L.FMW.kp L.bMW .nil pass0 (pa_cons (pv 3) (pa_cons (pv 12) (pa_cons (pv 8) (pa_cons (pv 9) (pa_cons (pe_op op_add (pv 14) (pv 16)) pa_nil)))))) (pv 13) (nomark _)) (pss_one (ps_ret pe_bl)) pss_nil))))
        (pss_one (ps_if (pt_cmpR op_ne (pe_call GOw hr10 rfl L.mOw L.FOw.kp L.bOw .nil pass0 (pa_cons (pv 6) (pa_cons (pe_meth (pv 4) d.TT.cl L.mMv GMv hr10 L.bMv .nil pass0 (pa_cons (pv 11) pa_nil)) (pa_cons (pe_op (op_own d.oAd FoOps.tup_add GAd hr6 d.bAd pass0) (pe_make D.M GI hr3 rfl D.T.mgC D.bI .nil pass0 (pa_cons (pe_ix (r := rIxT K) ix_tup (pv 12) pe_int (fun _ _ => rfl)) (pa_cons (pe_ix (r := rIxT K) ix_tup (pv 12) pe_int (fun _ _ => rfl)) pa_nil))) (pv 11)) pa_nil)))) (pv 13) (nomark _)) (pss_one (ps_ret pe_bl)) pss_nil)))))))
        (pss_cons (ps_for PassesOwn.never rfl (pi_range1 rfl L.TL.range (pa_cons pe_int pa_nil)) (pg_name (i := 17) scLaw.nd rfl (Or.inl rfl))
        (pss_cons (ps_set (i := 18) scLaw.nd rfl (Or.inl rfl) (pe_call GPr hr2 rfl L.mPr L.FPr.kp L.bPr .nil pass0 (pa_cons (pv 2) (pa_cons pe_int pa_nil))))
        (pss_one (ps_if (PW.pt (pw_and (pt_cmpR (op_neD hr.units) (pv 18) (pe_tup (pa_cons pe_int (pa_cons pe_int pa_nil))) (nomark _)) (pw_and1 (pt_cmpR op_eq (pe_callI (i := 6) h.oCl GCl hr8 h.bCl pass0 rfl (by first | exact Or.inl rfl | exact Or.inr (Or.inl rfl)) (pa_cons (pv 18) pa_nil)) (pe_callI (i := 6) h.oCl GCl hr8 h.bCl pass0 rfl (by first | exact Or.inl rfl | exact Or.inr (Or.inl rfl)) (pa_cons (pe_tup (pa_cons (pe_un un_neg (pe_ix (r := rIxT K) ix_tup (pv 18) pe_int (fun _ _ => rfl))) (pa_cons (pe_un un_neg (pe_ix (r := rIxT K) ix_tup (pv 18) pe_int (fun _ _ => rfl))) pa_nil))) pa_nil)) (nomark _))))) (pss_one (ps_ret pe_bl)) pss_nil))))
        (pss_one (ps_if (pt_cmpR (op_neD hr.units) (pe_lc (own := [("odd", 19)]) (g := gName 19) (tt := tYes) rfl scLaw.nd (pi_list (pe_lst (pa_cons pe_int (pa_cons (pe_un un_neg pe_int) (pa_cons pe_non (pa_cons pe_bl pa_nil)))))) (blkOk_by (own := [("odd", 19)]) (N := lawN) (sc := defScope sLaw) (by decide +kernel)) (fun _ _ _ _ _ => (pg_name (i := 19) scLaw.nd rfl (Or.inl rfl))) (fun _ _ _ _ _ => pts_nil) (fun _ _ _ _ _ => (pe_callG GR hgd hr9 rfl L.mR L.FR.kp L.bR pass0 (pa_cons (pv 6) (pa_cons (pv 4) (pa_cons (pv 19) pa_nil)))))) (pe_lst (pa_cons pe_str (pa_cons pe_str (pa_cons pe_str (pa_cons pe_str pa_nil))))) (nomark _)) (pss_one (ps_ret pe_bl)) pss_nil))))))))))))))))
      (pss_one (ps_ret pe_bl)), ?_⟩
    refine ⟨_, rfl, sa, _, rfl, .inl hS, _, _, rfl, _, _, rfl, ?_⟩
    have hn8 : ∀ z : Int, z = (if (if (8 : Int) < ((ns.map V.int).length : Int) then (8 : Int) else ((ns.map V.int).length : Int)) > 1 then (if (8 : Int) < ((ns.map V.int).length : Int) then (8 : Int) else ((ns.map V.int).length : Int)) else 1) → 0 ≤ z ∧ z ≤ 8 := by
      intro z hz
      split at hz <;> split at hz <;> omega
    obtain ⟨n0, n8⟩ := hn8 _ rfl
    refine ⟨_, rfl, by omega, by omega, ?_⟩
    refine for_range (lo := 0) (fun i σ H' => ∃ v1 v2 v3 v4 v5 v6 v7 v8 v9 v10 v11 v12 v13 v14 v15 v16 v17 v18 v19 v20 : Option V, σ = [some (.ref sa), v1, v2, v3, v4, v5, v6, v7, v8, v9, v10, v11, v12, v13, v14, v15, v16, v17, v18, v19, v20] ∧ Same H H')
      ⟨_, _, _, _, _, _, _, _, _, _, _, _, _, _, _, _, _, _, _, _, rfl, Same.refl _⟩ ?_ ?_
    case refine_2 =>
      rintro σ H' ⟨v1, v2, v3, v4, v5, v6, v7, v8, v9, v10, v11, v12, v13, v14, v15, v16, v17, v18, v19, v20, rfl, eH⟩
      exact k _
    rintro i σ H0 hi ⟨v1, v2, v3, v4, v5, v6, v7, v8, v9, v10, v11, v12, v13, v14, v15, v16, v17, v18, v19, v20, rfl, eH⟩
    have hik : (i : Int) ≤ 100 := by omega
    clear hn8 n0 n8 hi
    -- pool
    refine seq_gen (fun σ' H' => ∃ pl, σ' = [some (.ref sa), some (.int (0 + i)), some (.ref pl), v3, v4, v5, v6, v7, v8, v9, v10, v11, v12, v13, v14, v15, v16, v17, v18, v19, v20] ∧ H0 pl = none ∧ Same H0 H' ∧ PoolAt pl H') (fun N hN => ?_) ?_
    · refine ⟨_, rfl, _, rfl, sa, ns, _, rfl, eH.seq hS, hlen, by omega, by omega, fun pl H1 hpl e1 p1 => ?_⟩
      exact hN _ _ ⟨pl, rfl, hpl, e1, p1⟩
    rintro σ H1 ⟨pl, rfl, hpl, e1, p1⟩
    -- corners_here
    refine seq_gen (fun σ' H' => ∃ l qa qb qc a b c, σ' = [some (.ref sa), some (.int (0 + i)), some (.ref pl), some (.ref l), v4, v5, v6, v7, v8, v9, v10, v11, v12, v13, v14, v15, v16, v17, v18, v19, v20] ∧ CorL H0 pl l qa qb qc a b c H' ∧ 0 < sd a b c ∧ Sm2 5 a ∧ Sm2 5 b ∧ Sm2 5 c) (fun N hN => ?_) ?_
    · refine ⟨_, rfl, pl, rfl, p1, fun l qa qb qc a b c H2 b2 p2 hl t2 pos sA sB sC => ?_⟩
      exact hN _ _ ⟨l, qa, qb, qc, a, b, c, rfl, ⟨b2.same hpl e1, p2, hl, t2⟩, pos, sA, sB, sC⟩
    rintro σ H2 ⟨l, qa, qb, qc, a, b, c, rfl, W2, pos, sA, sB, sC⟩
    clear e1 p1
    -- triangle
    refine seq_gen (fun σ' H' => ∃ tr, σ' = [some (.ref sa), some (.int (0 + i)), some (.ref pl), some (.ref l), some tr, v5, v6, v7, v8, v9, v10, v11, v12, v13, v14, v15, v16, v17, v18, v19, v20] ∧ CorL H0 pl l qa qb qc a b c H' ∧ IsT C CT tr a b c H') (fun N hN => ?_) ?_
    · refine ⟨_, rfl, l, _, _, _, rfl, rfl, SqL.of W2.lst, atI_nat (j := 0) rfl, _, rfl, l, _, _, _, rfl, rfl, SqL.of W2.lst, atI_nat (j := 1) rfl, _, rfl, l, _, _, _, rfl, rfl, SqL.of W2.lst, atI_nat (j := 2) rfl, ?_⟩
      refine fun x dx nx nd ne => make_tri (C := C) (CT := CT) (n := 5) (Q := fun v H' => N [some (.ref sa), some (.int (0 + i)), some (.ref pl), some (.ref l), some v, v5, v6, v7, v8, v9, v10, v11, v12, v13, v14, v15, v16, v17, v18, v19, v20] H') ⟨qa, rfl, .inr W2.t.a⟩ ⟨qb, rfl, .inr W2.t.b⟩ ⟨qc, rfl, .inr W2.t.c⟩ (by decide) sA sB sC (by omega) (fun t H3 e3 h3 => ?_) x dx nx nd ne
      rw [(on1 pos).1, (on1 pos).2] at h3
      exact hN _ _ ⟨t, rfl, W2.ex e3, h3⟩
    rintro σ H3 ⟨tr, rfl, W3, T3'⟩
    clear W2
    -- way
    refine seq_gen (fun σ' H' => ∃ qw dw, σ' = [some (.ref sa), some (.int (0 + i)), some (.ref pl), some (.ref l), some tr, some (.ref qw), v6, v7, v8, v9, v10, v11, v12, v13, v14, v15, v16, v17, v18, v19, v20] ∧ CorL H0 pl l qa qb qc a b c H' ∧ IsT C CT tr a b c H' ∧ Tp H' qw dw ∧ Sm2 5 dw) (fun N hN => ?_) ?_
    · refine ⟨_, rfl, pl, 4, rfl, W3.pool, by decide, by decide, fun q x y H4 b4 p4 hq x0 x1 y0 y1 => ?_⟩
      exact hN _ _ ⟨q, (x, y), rfl, W3.but hpl b4 p4, T3'.butP W3.pool b4, hq, sm5 (by show -31 ≤ x; omega) (by show x ≤ 31; omega), sm5 (by show -31 ≤ y; omega) (by show y ≤ 31; omega)⟩
    rintro σ H4 ⟨qw, dw, rfl, W4, T4, hw4, sdw⟩
    clear W3 T3'
    -- half
    refine seq_gen (fun σ' H' => ∃ (hf : V) (w' : J2) (o : Bool), σ' = [some (.ref sa), some (.int (0 + i)), some (.ref pl), some (.ref l), some tr, some (.ref qw), some hf, v7, v8, v9, v10, v11, v12, v13, v14, v15, v16, v17, v18, v19, v20] ∧ All C CH CT H0 pl l qa qb qc a b c tr hf w' o H' ∧ Dir w' ∧ low w' = w' ∧ Sm2 5 w') (fun N hN => ?_) ?_
    · have fin : ∀ (u : V) (dd : I2) (H5 : Hp) (z : Addr), Same H4 H5 → u = .ref z → Tp H5 z dd → Dir dd → Sm2 5 dd → ∀ r H6, But pl H5 H6 → PoolAt pl H6 → ∀ x dx, H6 x = none → H6 dx = none → dx ≠ x → spHInit C CH (.ref x :: ([u, .bl (decide (V.int r = V.int 0))] ++ [])) (upd (upd H6 dx (.own x)) x (.ins CH dx [])) (fun v H2 => v = .non ∧ N [some (.ref sa), some (.int (0 + i)), some (.ref pl), some (.ref l), some tr, some (.ref qw), some (.ref x), v7, v8, v9, v10, v11, v12, v13, v14, v15, v16, v17, v18, v19, v20] H2) E :=
        fun u dd H5 z e5 hz ht hd sdd r H6 b6 p6 x dx nx nd ne => by
          have W5 := W4.ex e5
          have ht6 : Tp H6 z dd := b6 _ _ (tup_ne W5.pool ht) ht
          exact make_half (C := C) (CH := CH) (n := 5) (Q := fun v H' => N [some (.ref sa), some (.int (0 + i)), some (.ref pl), some (.ref l), some tr, some (.ref qw), some v, v7, v8, v9, v10, v11, v12, v13, v14, v15, v16, v17, v18, v19, v20] H') h.ne ⟨z, hz, .inr ht6⟩ hd (by decide) (by decide) sdd (fun t H7 e7 h7 => hN _ _ ⟨t, low dd, _, rfl, ⟨(W5.but hpl b6 p6).ex e7, ((T4.ex e5).butP W5.pool b6).ex e7, h7⟩, low_dir hd, low_low hd, low_sm hd sdd⟩) x dx nx nd ne
      refine ⟨_, rfl, (by show 2 ≤ sizeLine; decide), fun t0 nt0 => ?_⟩
      have g0 := same_new (o := .tup [.int 0, .int 0]) nt0
      refine ⟨pD dw, pD (0, 0), tp_dp' (g0 _ _ hw4), tp_dp' (p := (0, 0)) upd_same, rfl, rfl, _, rfl, ?_⟩
      rw [pD_eqv]
      by_cases z0 : dw = (0, 0)
      · rw [decide_eq_true z0]
        refine iteT ?_
        refine ⟨_, rfl, (by show 2 ≤ sizeLine; decide), fun t1 nt1 => ?_⟩
        have g1 := same_new (o := .tup [.int 3, .int (-1)]) nt1
        refine ⟨_, rfl, pl, 2, rfl, ((W4.ex g0).ex g1).pool, by decide, by decide, fun r H6 r0 r1 b6 p6 => ⟨rfl, ?_⟩⟩
        exact fin (.ref t1) (3, -1) _ t1 (g0.trans g1) rfl upd_same (.inl (by decide)) ⟨sm5 (by decide) (by decide), sm5 (by decide) (by decide)⟩ r H6 b6 p6
      · rw [decide_eq_false z0]
        refine iteF ?_
        have hd : Dir dw := by
          by_cases h1 : dw.1 = 0
          · exact .inr fun h2 => z0 (Prod.ext h1 h2)
          · exact .inl h1
        refine ⟨_, rfl, _, rfl, pl, 2, rfl, (W4.ex g0).pool, by decide, by decide, fun r H6 r0 r1 b6 p6 => ⟨rfl, ?_⟩⟩
        exact fin (.ref qw) dw _ qw g0 rfl (g0 _ _ hw4) hd sdw r H6 b6 p6
    rintro σ H5 ⟨hf, w', o, rfl, W5, dw', lw, sw⟩
    clear W4 T4 hw4 sdw
    -- set right
    refine seq_gen (fun σ' H' => σ' = [some (.ref sa), some (.int (0 + i)), some (.ref pl), some (.ref l), some tr, some (.ref qw), some hf, v7, v8, v9, v10, v11, v12, v13, v14, v15, v16, v17, v18, v19, v20] ∧ All C CH CT H0 pl l qa qb qc a b c tr hf w' o H') (fun N hN => ?_) ?_
    · refine ⟨_, rfl, hf, w', o, rfl, W5.hf, dw', lw, sw.up (by decide), fun H6 e6 => ⟨true, rfl, ?_⟩⟩
      refine iteF ?_
      exact hN _ _ ⟨rfl, W5.ex e6⟩
    rintro σ H6 ⟨rfl, W6⟩
    clear W5
    -- short
    refine seq_gen (fun σ' H' => ∃ q7, σ' = [some (.ref sa), some (.int (0 + i)), some (.ref pl), some (.ref l), some tr, some (.ref qw), some hf, some (.ref q7), v8, v9, v10, v11, v12, v13, v14, v15, v16, v17, v18, v19, v20] ∧ All C CH CT H0 pl l qa qb qc a b c tr hf w' o H' ∧ Tp H' q7 w') (fun N hN => ?_) ?_
    · obtain ⟨ah, dh, qh, eh, h1, h2⟩ := id W6.hf
      refine ⟨_, rfl, ah, dh, _, eh, h1, _, w', o, rfl, (by rw [← eh]; exact W6.hf), fun u hu => ?_⟩
      obtain ⟨pu, du, rfl, hu2⟩ := id hu
      refine ⟨pu, du, _, rfl, hu2, pair_no' _ _, _, _, _, rfl, hu, fun q H7 nq e7 hq => ?_⟩
      exact hN _ _ ⟨q, rfl, W6.ex e7, hq⟩
    rintro σ H7 ⟨q7, rfl, W7, s7⟩
    clear W6
    -- first, second
    refine seq_gen (fun σ' H' => ∃ q8 q9, σ' = [some (.ref sa), some (.int (0 + i)), some (.ref pl), some (.ref l), some tr, some (.ref qw), some hf, some (.ref q7), some (.ref q8), some (.ref q9), v10, v11, v12, v13, v14, v15, v16, v17, v18, v19, v20] ∧ All C CH CT H0 pl l qa qb qc a b c tr hf w' o H' ∧ Tp H' q7 w' ∧ Tp H' q8 (sh1 w') ∧ Tp H' q9 (sh2 w' o)) (fun N hN => ?_) ?_
    · refine ⟨_, rfl, hf, w', o, rfl, W7.hf, sw.up (by decide), fun t u1 u2 H8 e8 ht i1 i2 => ?_⟩
      refine ⟨t, rfl, ⟨_, SqT.of ht⟩, fun D0 nD => ?_⟩
      refine lc_allT (K := K) (xs := [u1, u2]) (sl := [20]) (fun i v H => ∃ q, v = .ref q ∧ Tp H q (if i = 0 then sh1 w' else sh2 w' o)) (fun _ _ _ _ e ⟨z, hz, h⟩ => ⟨z, hz, e _ _ h⟩) (fun _ _ _ _ _ _ hD bt ⟨z, hz, h⟩ => ⟨z, hz, bt _ _ (ne_of h hD (by intro z; cases z)) h⟩) (SqT.of ht) (by show 2 ≤ 1000; decide) ?_ ?_ nD
      · intro j x H9 hx e9 Q' k'
        have pick : ∃ pp : I2, IsP C x pp.1 pp.2 H9 ∧ pp = (if j = 0 then sh1 w' else sh2 w' o) := by
          match j, hx with
          | 0, hx => cases hx; exact ⟨_, i1.ex e9, rfl⟩
          | 1, hx => cases hx; exact ⟨_, i2.ex e9, rfl⟩
        obtain ⟨pp, hp, ep⟩ := pick
        obtain ⟨px, dx, ex, hpx⟩ := id hp
        refine ⟨rfl, _, rfl, px, dx, _, ex, hpx, pair_no' _ _, x, _, _, rfl, hp, fun q H10 nq e10 hq => ?_⟩
        exact k' _ _ e10 ⟨q, rfl, by rw [← ep]; exact hq⟩
      · intro H9 vs e9 hv hlen hR
        obtain ⟨x1, x2, rfl⟩ : ∃ x1 x2, vs = [x1, x2] := by
          match vs, hlen with
          | [x1, x2], _ => exact ⟨x1, x2, rfl⟩
        obtain ⟨q8, rfl, t8⟩ := hR 0 x1 rfl
        obtain ⟨q9, rfl, t9⟩ := hR 1 x2 rfl
        refine ⟨D0, _, rfl, SqL.of hv, rfl, _, _, rfl, _, _, rfl, rfl, ?_⟩
        exact hN _ _ ⟨q8, q9, rfl, W7.ex (e8.trans e9), (e8.trans e9) _ _ s7, t8, t9⟩
    rintro σ H8 ⟨q8, q9, rfl, W8, s7', s8, s9⟩
    clear W7 s7
    -- turned
    refine seq_gen (fun σ' H' => ∃ q10, σ' = [some (.ref sa), some (.int (0 + i)), some (.ref pl), some (.ref l), some tr, some (.ref qw), some hf, some (.ref q7), some (.ref q8), some (.ref q9), some (.ref q10), v11, v12, v13, v14, v15, v16, v17, v18, v19, v20] ∧ All C CH CT H0 pl l qa qb qc a b c tr hf w' o H' ∧ Tp H' q7 w' ∧ Tp H' q8 (sh1 w') ∧ Tp H' q9 (sh2 w' o) ∧ Tp H' q10 (sh2 w' o)) (fun N hN => ?_) ?_
    · obtain ⟨ah, dh, qh, eh, h1, h2⟩ := id W8.hf
      refine ⟨_, rfl, ah, dh, _, eh, h1, _, w', o, rfl, (by rw [← eh]; exact W8.hf), o, rfl, ?_⟩
      cases ho : o with
      | true =>
        refine iteT ?_
        refine ⟨_, rfl, q7, _, _, _, rfl, rfl, SqT.of s7', atI_nat (j := 1) rfl, _, rfl, _, rfl, q7, _, _, _, rfl, rfl, SqT.of s7', atI_nat (j := 0) rfl, (by show 2 ≤ sizeLine; decide), fun t nt => ?_⟩
        have g := same_new (o := .tup [.int (-w'.2), .int w'.1]) nt
        have e : sh2 w' o = (-w'.2, w'.1) := by rw [ho]; rfl
        exact hN _ _ ⟨t, rfl, W8.ex g, g _ _ s7', g _ _ s8, g _ _ s9, by rw [e]; exact upd_same⟩
      | false =>
        refine iteF ?_
        refine ⟨_, rfl, q7, _, _, _, rfl, rfl, SqT.of s7', atI_nat (j := 1) rfl, _, rfl, q7, _, _, _, rfl, rfl, SqT.of s7', atI_nat (j := 0) rfl, _, rfl, (by show 2 ≤ sizeLine; decide), fun t nt => ?_⟩
        have g := same_new (o := .tup [.int w'.2, .int (-w'.1)]) nt
        have e : sh2 w' o = (w'.2, -w'.1) := by
          rw [ho]
          unfold sh2
          simp only [Bool.false_eq_true, if_false]
          exact Prod.ext (by simp only []; omega) (by simp only []; omega)
        exact hN _ _ ⟨t, rfl, W8.ex g, g _ _ s7', g _ _ s8, g _ _ s9, by rw [e]; exact upd_same⟩
    rintro σ H9 ⟨q10, rfl, W9, u7, u8, u9, u10⟩
    clear W8 s7' s8 s9
    -- they are the two
    refine seq_gen (fun σ' H' => σ' = [some (.ref sa), some (.int (0 + i)), some (.ref pl), some (.ref l), some tr, some (.ref qw), some hf, some (.ref q7), some (.ref q8), some (.ref q9), some (.ref q10), v11, v12, v13, v14, v15, v16, v17, v18, v19, v20] ∧ All C CH CT H0 pl l qa qb qc a b c tr hf w' o H' ∧ Tp H' q8 (sh1 w') ∧ Tp H' q9 (sh2 w' o)) (fun N hN => ?_) ?_
    · refine ⟨_, rfl, _, rfl, q7, _, _, _, rfl, rfl, SqT.of u7, atI_nat (j := 0) rfl, _, rfl, _, rfl, q7, _, _, _, rfl, rfl, SqT.of u7, atI_nat (j := 1) rfl, _, rfl, (by show 2 ≤ sizeLine; decide), fun t nt => ?_⟩
      have g := same_new (o := .tup [.int (-w'.1), .int (-w'.2)]) nt
      have e : sh1 w' = (-w'.1, -w'.2) := by
        unfold sh1
        exact Prod.ext (by simp only []; omega) (by simp only []; omega)
      refine ⟨pD (sh1 w'), pD (-w'.1, -w'.2), tp_dp' (g _ _ u8), tp_dp' (p := (-w'.1, -w'.2)) upd_same, rfl, rfl, _, rfl, ?_⟩
      rw [pD_eqv, decide_eq_true e]
      refine iteF ?_
      refine ⟨_, rfl, _, rfl, pD (sh2 w' o), pD (sh2 w' o), tp_dp' (g _ _ u9), tp_dp' (g _ _ u10), rfl, rfl, _, rfl, ?_⟩
      rw [pD_eqv, decide_eq_true rfl]
      refine iteF ?_
      exact hN _ _ ⟨rfl, W9.ex g, g _ _ u8, g _ _ u9⟩
    rintro σ H10 ⟨rfl, W10, s8, s9⟩
    clear W9 u7 u8 u9 u10
    -- by
    refine seq_gen (fun σ' H' => ∃ q11 mb, σ' = [some (.ref sa), some (.int (0 + i)), some (.ref pl), some (.ref l), some tr, some (.ref qw), some hf, some (.ref q7), some (.ref q8), some (.ref q9), some (.ref q10), some (.ref q11), v12, v13, v14, v15, v16, v17, v18, v19, v20] ∧ All C CH CT H0 pl l qa qb qc a b c tr hf w' o H' ∧ T3 H' q8 q9 q11 (sh1 w') (sh2 w' o) mb ∧ Sm2 5 mb) (fun N hN => ?_) ?_
    · refine ⟨_, rfl, pl, 9, rfl, W10.cor.pool, by decide, by decide, fun q x y H11 b11 p11 hq x0 x1 y0 y1 => ?_⟩
      exact hN _ _ ⟨q, (x, y), rfl, W10.but hpl b11 p11, ⟨b11 _ _ (tup_ne W10.cor.pool s8) s8, b11 _ _ (tup_ne W10.cor.pool s9) s9, hq⟩, sm5 (by show -31 ≤ x; omega) (by show x ≤ 31; omega), sm5 (by show -31 ≤ y; omega) (by show y ≤ 31; omega)⟩
    rintro σ H11 ⟨q11, mb, rfl, W11, t11, smb⟩
    clear W10 s8 s9
    have sw10 := sw.up (m := 10) (by decide)
    have sA10 := sA.up (m := 10) (by decide)
    have sB10 := sB.up (m := 10) (by decide)
    have sC10 := sC.up (m := 10) (by decide)
    have smb10 := smb.up (m := 10) (by decide)
    -- for p
    refine seq_gen (fun σ' H' => ∃ v12 v13 v14 v15 v16 : Option V,  σ' = [some (.ref sa), some (.int (0 + i)), some (.ref pl), some (.ref l), some tr, some (.ref qw), some hf, some (.ref q7), some (.ref q8), some (.ref q9), some (.ref q10), some (.ref q11), v12, v13, v14, v15, v16, v17, v18, v19, v20] ∧ All C CH CT H0 pl l qa qb qc a b c tr hf w' o H' ∧ T3 H' q8 q9 q11 (sh1 w') (sh2 w' o) mb) (fun N hN => ?_) ?_
    · refine ⟨_, rfl, _, rfl, pl, l, qa, qb, qc, a, b, c, rfl, W11.cor.pool, W11.cor.lst, W11.cor.t, sA, sB, sC, fun m H12 b12 p12 nm P12 => ?_⟩
      obtain ⟨xs, ps, hm, tl, sps, lx⟩ := P12
      have W12 := W11.but hpl b12 p12
      have t12 := t11.butP W11.cor.pool b12
      have mpl : m ≠ pl := fun z => by
        obtain ⟨_, _, h0, _⟩ := W11.cor.pool
        rw [z, h0] at nm
        cases nm
      refine ⟨m, rfl, ⟨_, SqL.of hm⟩, ?_⟩
      refine for_list (K := K) (a := m) (xs := xs) (fun j σ' H' => ∃ v12 v13 v14 v15 v16 : Option V,  σ' = [some (.ref sa), some (.int (0 + i)), some (.ref pl), some (.ref l), some tr, some (.ref qw), some hf, some (.ref q7), some (.ref q8), some (.ref q9), some (.ref q10), some (.ref q11), v12, v13, v14, v15, v16, v17, v18, v19, v20] ∧ All C CH CT H0 pl l qa qb qc a b c tr hf w' o H' ∧ T3 H' q8 q9 q11 (sh1 w') (sh2 w' o) mb ∧ But pl H12 H') ⟨_, _, _, _, _, rfl, W12, t12, But.refl _ _⟩ (fun j σ' H' _ h => by
        obtain ⟨_, _, _, _, _, _, _, _, bt⟩ := h
        exact SqL.of (bt _ _ mpl hm)) ?_ (fun σ' H' ⟨v12, v13, v14, v15, v16, q, W, t, _⟩ => hN _ _ ⟨_, _, _, _, _, q, W, t⟩)
      rintro j x σ H13 hx ⟨v12, v13, v14, v15, v16, rfl, W13, t13, b13⟩
      obtain ⟨qp, p, rfl, hp, hq⟩ := tl.get hx
      have hq13 : Tp H13 qp p := b13 _ _ (tup_ne p12 hq) hq
      have sp : Sm2 10 p := sps p (List.mem_of_getElem? hp)
      clear hN W11 t11 W12 t12
      -- is_it
      refine seq_gen (fun σ' H' => σ' = [some (.ref sa), some (.int (0 + i)), some (.ref pl), some (.ref l), some tr, some (.ref qw), some hf, some (.ref q7), some (.ref q8), some (.ref q9), some (.ref q10), some (.ref q11), some (.ref qp), some (.bl (own3 w' o a b c p)), v14, v15, v16, v17, v18, v19, v20] ∧ All C CH CT H0 pl l qa qb qc a b c tr hf w' o H' ∧ T3 H' q8 q9 q11 (sh1 w') (sh2 w' o) mb ∧ Tp H' qp p ∧ But pl H12 H') (fun N hN => ?_) ?_
      · refine ⟨_, rfl, _, rfl, _, rfl, 10, hf, tr, .ref qp, w', o, a, b, c, p, rfl, W13.hf, W13.tri, ⟨qp, rfl, .inr hq13⟩, ne_ab pos, ne_bc pos, ne_ac pos, by decide, sw10, sA10, sB10, sC10, sp, fun H14 e14 => ?_⟩
        exact hN _ _ ⟨rfl, W13.ex e14, t13.ex e14, e14 _ _ hq13, b13.trans (But.of e14)⟩
      rintro σ H14 ⟨rfl, W14, t14, hq14, b14⟩
      clear W13 t13 hq13 b13
      -- scale
      refine seq_gen (fun σ' H' => ∃ S : Int, σ' = [some (.ref sa), some (.int (0 + i)), some (.ref pl), some (.ref l), some tr, some (.ref qw), some hf, some (.ref q7), some (.ref q8), some (.ref q9), some (.ref q10), some (.ref q11), some (.ref qp), some (.bl (own3 w' o a b c p)), some (.int S), v15, v16, v17, v18, v19, v20] ∧ (All C CH CT H0 pl l qa qb qc a b c tr hf w' o H' ∧ T3 H' q8 q9 q11 (sh1 w') (sh2 w' o) mb ∧ Tp H' qp p ∧ But pl H12 H') ∧ eAb w' o a b < S ∧ eAb w' o b c < S ∧ eAb w' o c a < S ∧ S < 2 ^ 31) (fun N hN => ?_) ?_
      · refine ⟨_, rfl, _, rfl, _, rfl, hf, tr, .ref qp, w', o, a, b, c, p, rfl, W14.hf, W14.tri, ⟨qp, rfl, .inr hq14⟩, sw10, sA10, sB10, sC10, fun S H15 e15 l1 l2 l3 hS' => ?_⟩
        obtain ⟨a', b', sa', sb', eS⟩ := hS'
        have l4 := eAb_sm (o := o) sw10 sa' sb'
        exact hN _ _ ⟨S, rfl, ⟨W14.ex e15, t14.ex e15, e15 _ _ hq14, b14.trans (But.of e15)⟩, l1, l2, l3, by omega⟩
      rintro σ H15 ⟨S, rfl, ⟨W15, t15, hq15, b15⟩, l1, l2, l3, l4⟩
      clear W14 t14 hq14 b14
      have S0 : 1 ≤ S := by
        unfold eAb at l1
        omega
      -- for small
      refine seq_gen (fun σ' H' => ∃ v15 : Option V, σ' = [some (.ref sa), some (.int (0 + i)), some (.ref pl), some (.ref l), some tr, some (.ref qw), some hf, some (.ref q7), some (.ref q8), some (.ref q9), some (.ref q10), some (.ref q11), some (.ref qp), some (.bl (own3 w' o a b c p)), some (.int S), v15, v16, v17, v18, v19, v20] ∧ All C CH CT H0 pl l qa qb qc a b c tr hf w' o H' ∧ T3 H' q8 q9 q11 (sh1 w') (sh2 w' o) mb ∧ Tp H' qp p ∧ But pl H12 H') (fun N hN => ?_) ?_
      · refine ⟨_, rfl, pl, 9, rfl, W15.cor.pool, by decide, by decide, fun r H16 r0 r1 b16 p16 => ⟨_, _, rfl, rfl, (by show 4 ≤ sizeLine; decide), fun ml nml => ?_⟩⟩
        have g := same_new (o := .lst [.int 1, .int 2, .int 3, .int (1 + r)]) nml
        have hml : (upd H16 ml (.lst [.int 1, .int 2, .int 3, .int (1 + r)])) ml = some (.lst [.int 1, .int 2, .int 3, .int (1 + r)]) := upd_same
        have W17 := (W15.but hpl b16 p16).ex g
        have t17 := (t15.butP W15.cor.pool b16).ex g
        have hq17 : Tp _ qp p := g _ _ (b16 _ _ (tup_ne W15.cor.pool hq15) hq15)
        have b17 := (b15.trans b16).trans (But.of (p := pl) g)
        generalize upd H16 ml (.lst [.int 1, .int 2, .int 3, .int (1 + r)]) = H17 at *
        refine ⟨ml, rfl, ⟨_, SqL.of hml⟩, ?_⟩
        refine for_list (K := K) (a := ml) (xs := [.int 1, .int 2, .int 3, .int (1 + r)]) (fun j σ' H' => ∃ v15 : Option V, σ' = [some (.ref sa), some (.int (0 + i)), some (.ref pl), some (.ref l), some tr, some (.ref qw), some hf, some (.ref q7), some (.ref q8), some (.ref q9), some (.ref q10), some (.ref q11), some (.ref qp), some (.bl (own3 w' o a b c p)), some (.int S), v15, v16, v17, v18, v19, v20] ∧ (All C CH CT H0 pl l qa qb qc a b c tr hf w' o H' ∧ T3 H' q8 q9 q11 (sh1 w') (sh2 w' o) mb ∧ Tp H' qp p ∧ But pl H12 H') ∧ Same H17 H') ⟨_, rfl, ⟨W17, t17, hq17, b17⟩, Same.refl _⟩ (fun j σ' H' _ h => by
          obtain ⟨_, _, _, e⟩ := h
          exact SqL.of (e _ _ hml)) ?_ (fun σ' H' ⟨v15, q, W, _⟩ => hN _ _ ⟨_, q, W⟩)
        rintro j x σ H18 hx ⟨v15, rfl, ⟨W18, t18, hq18, b18⟩, e18⟩
        obtain ⟨sv, rfl, v0, v1⟩ : ∃ sv : Int, x = .int sv ∧ 1 ≤ sv ∧ sv ≤ 10 := by
          match j, hx with
          | 0, hx => cases hx; exact ⟨1, rfl, by decide, by decide⟩
          | 1, hx => cases hx; exact ⟨2, rfl, by decide, by decide⟩
          | 2, hx => cases hx; exact ⟨3, rfl, by decide, by decide⟩
          | 3, hx => cases hx; exact ⟨1 + r, rfl, by omega, by omega⟩
        have ssv : Sm 40 sv := by
          unfold Sm
          omega
        refine ⟨_, rfl, _, rfl, _, rfl, _, rfl, hf, tr, .ref qp, sv, w', o, a, b, c, p, rfl, W18.hf, W18.tri, ⟨qp, rfl, .inr hq18⟩, v0, ssv, sw10, sA10, sB10, sC10, sp, fun H19 e19 => ?_⟩
        have W19 := W18.ex e19
        refine ⟨_, rfl, _, rfl, _, rfl, _, rfl, _, rfl, l, qa, qb, qc, qp, q8, q9, a, b, c, p, w', o, sv, rfl, SqL.of W19.cor.lst, W19.cor.t, ⟨e19 _ _ hq18, (t18.ex e19).a, (t18.ex e19).b⟩, ssv, sw10, sA10, sB10, sC10, sp, fun H20 e20 => ?_⟩
        refine ⟨rfl, _, rfl, ?_⟩
        rw [decide_eq_true rfl]
        refine iteF ?_
        have E := e19.trans e20
        exact ⟨_, rfl, ⟨W18.ex E, t18.ex E, E _ _ hq18, b18.trans (But.of E)⟩, e18.trans E⟩
      rintro σ H16 ⟨v15, rfl, W16, t16, hq16, b16⟩
      clear W15 t15 hq15 b15
      -- for more
      refine seq_gen (fun σ' H' => ∃ v16 : Option V, σ' = [some (.ref sa), some (.int (0 + i)), some (.ref pl), some (.ref l), some tr, some (.ref qw), some hf, some (.ref q7), some (.ref q8), some (.ref q9), some (.ref q10), some (.ref q11), some (.ref qp), some (.bl (own3 w' o a b c p)), some (.int S), v15, v16, v17, v18, v19, v20] ∧ All C CH CT H0 pl l qa qb qc a b c tr hf w' o H' ∧ T3 H' q8 q9 q11 (sh1 w') (sh2 w' o) mb ∧ Tp H' qp p ∧ But pl H12 H') (fun N hN => ?_) ?_
      · refine ⟨_, _, rfl, rfl, ⟨by decide, by decide, by decide⟩, (by show 3 ≤ sizeLine; decide), fun ml nml => ?_⟩
        have g := same_new (o := .lst [.int 0, .int 1, .int (10 ^ (9 : Int).toNat)]) nml
        have hml : (upd H16 ml (.lst [.int 0, .int 1, .int (10 ^ (9 : Int).toNat)])) ml = some (.lst [.int 0, .int 1, .int (10 ^ (9 : Int).toNat)]) := upd_same
        have W17 := W16.ex g
        have t17 := t16.ex g
        have hq17 : Tp _ qp p := g _ _ hq16
        have b17 := b16.trans (But.of (p := pl) g)
        generalize upd H16 ml (.lst [.int 0, .int 1, .int (10 ^ (9 : Int).toNat)]) = H17 at *
        refine ⟨ml, rfl, ⟨_, SqL.of hml⟩, ?_⟩
        refine for_list (K := K) (a := ml) (xs := [.int 0, .int 1, .int (10 ^ (9 : Int).toNat)]) (fun j σ' H' => ∃ v16 : Option V, σ' = [some (.ref sa), some (.int (0 + i)), some (.ref pl), some (.ref l), some tr, some (.ref qw), some hf, some (.ref q7), some (.ref q8), some (.ref q9), some (.ref q10), some (.ref q11), some (.ref qp), some (.bl (own3 w' o a b c p)), some (.int S), v15, v16, v17, v18, v19, v20] ∧ (All C CH CT H0 pl l qa qb qc a b c tr hf w' o H' ∧ T3 H' q8 q9 q11 (sh1 w') (sh2 w' o) mb ∧ Tp H' qp p ∧ But pl H12 H') ∧ Same H17 H') ⟨_, rfl, ⟨W17, t17, hq17, b17⟩, Same.refl _⟩ (fun j σ' H' _ h => by
          obtain ⟨_, _, _, e⟩ := h
          exact SqL.of (e _ _ hml)) ?_ (fun σ' H' ⟨v16, q, W, _⟩ => hN _ _ ⟨_, q, W⟩)
        rintro j x σ H18 hx ⟨v16, rfl, ⟨W18, t18, hq18, b18⟩, e18⟩
        obtain ⟨sv, rfl, v0, v1⟩ : ∃ sv : Int, x = .int sv ∧ 0 ≤ sv ∧ sv ≤ 1000000000 := by
          rcases two3 hx with ⟨rfl, rfl⟩ | ⟨rfl, rfl⟩ | ⟨rfl, rfl⟩
          · exact ⟨0, rfl, by decide, by decide⟩
          · exact ⟨1, rfl, by decide, by decide⟩
          · exact ⟨10 ^ (9 : Int).toNat, rfl, by decide, by decide⟩
        have ssv : Sm 40 (S + sv) := by
          unfold Sm
          omega
        have eqS : inS w' o a b c p (S + sv) = own3 w' o a b c p := inS_own dw' (ne_ab pos) (ne_bc pos) (ne_ac pos) (by omega) (by omega) (by omega)
        clear hN hml g nml hx
        -- owns_shifted
        refine seq_gen (fun σ' H' => σ' = [some (.ref sa), some (.int (0 + i)), some (.ref pl), some (.ref l), some tr, some (.ref qw), some hf, some (.ref q7), some (.ref q8), some (.ref q9), some (.ref q10), some (.ref q11), some (.ref qp), some (.bl (own3 w' o a b c p)), some (.int S), v15, some (.int sv), v17, v18, v19, v20] ∧ (All C CH CT H0 pl l qa qb qc a b c tr hf w' o H' ∧ T3 H' q8 q9 q11 (sh1 w') (sh2 w' o) mb ∧ Tp H' qp p ∧ But pl H12 H') ∧ Same H18 H') (fun N hN => ?_) ?_
        · refine ⟨_, rfl, _, rfl, _, rfl, qp, _, _, _, rfl, rfl, SqT.of hq18, atI_nat (j := 0) rfl, _, rfl, qp, _, _, _, rfl, rfl, SqT.of hq18, atI_nat (j := 1) rfl, fun c5 dc nc nd ne => ⟨c5, dc, p.1, p.2, rfl, upd_same, rfl, ?_⟩⟩
          have e5 := made_same (C := C) (X := p.1) (Y := p.2) nc nd
          have h5 := made_is (C := C) (x := c5) (dx := dc) (H := H18) (X := p.1) (Y := p.2)
          generalize upd (upd (upd (upd H18 dc (.own c5)) c5 (.ins C dc [])) c5 (.ins C dc (putF "x" (.int p.1) []))) c5 (.ins C dc (ptF p.1 p.2)) = H19 at *
          have W19 := W18.ex e5
          refine ⟨_, rfl, _, rfl, _, _, rfl, rfl, hf, tr, .ref c5, S + sv, w', o, a, b, c, p, rfl, W19.hf, W19.tri, h5.pt, by omega, ssv, sw10, sA10, sB10, sC10, sp, fun H20 e20 => ?_⟩
          refine ⟨_, rfl, rfl, _, rfl, ?_⟩
          rw [eqS, decide_eq_true rfl]
          refine iteF ?_
          have E := e5.trans e20
          exact hN _ _ ⟨rfl, ⟨W18.ex E, t18.ex E, E _ _ hq18, b18.trans (But.of E)⟩, E⟩
        rintro σ H19 ⟨rfl, ⟨W19, t19, hq19, b19⟩, e19⟩
        refine ⟨_, rfl, _, rfl, _, rfl, _, rfl, _, rfl, _, rfl, _, _, rfl, rfl, l, qa, qb, qc, qp, q8, q9, a, b, c, p, w', o, S + sv, rfl, SqL.of W19.cor.lst, W19.cor.t, ⟨hq19, t19.a, t19.b⟩, ssv, sw10, sA10, sB10, sC10, sp, fun H20 e20 => ?_⟩
        refine ⟨_, rfl, rfl, _, rfl, ?_⟩
        rw [eqS, decide_eq_true rfl]
        refine iteF ?_
        exact ⟨_, rfl, ⟨W19.ex e20, t19.ex e20, e20 _ _ hq19, b19.trans (But.of e20)⟩, e18.trans (e19.trans e20)⟩
      rintro σ H17 ⟨v16, rfl, W17, t17, hq17, b17⟩
      clear W16 t16 hq16 b16
      -- moved
      obtain ⟨tq, dx, l', x1, x2, x3, et, g1, _⟩ := id W17.tri
      refine ⟨_, rfl, _, rfl, tq, dx, _, et, g1, tipF_no _ (by decide +kernel), _, rfl, 10, tr, .ref q11, a, b, c, mb, rfl, W17.tri, ⟨q11, rfl, .inr t17.c⟩, by decide, sA10, sB10, sC10, smb10, pos, fun mt H18 e18 hT => ?_⟩
      have hq18 : Tp H18 qp p := e18 _ _ hq17
      refine ⟨_, rfl, qp, _, _, _, rfl, rfl, SqT.of hq18, atI_nat (j := 0) rfl, _, rfl, qp, _, _, _, rfl, rfl, SqT.of hq18, atI_nat (j := 1) rfl, fun c5 dc nc nd ne => ⟨c5, dc, p.1, p.2, rfl, upd_same, rfl, ?_⟩⟩
      have e5 := made_same (C := C) (X := p.1) (Y := p.2) nc nd
      have h5 := made_is (C := C) (x := c5) (dx := dc) (H := H18) (X := p.1) (Y := p.2)
      generalize upd (upd (upd (upd H18 dc (.own c5)) c5 (.ins C dc [])) c5 (.ins C dc (putF "x" (.int p.1) []))) c5 (.ins C dc (ptF p.1 p.2)) = H19 at *
      have pb : IsPt C (.ref q11) mb.1 mb.2 H19 := ⟨q11, rfl, .inr ((e18.trans e5) _ _ t17.c)⟩
      obtain ⟨a5, d5, q5, z5⟩ := id h5
      refine ⟨_, rfl, a5, d5, _, q5, z5, pb.opnd, .ref c5, .ref q11, _, _, _, _, rfl, h5, pb, fun m4 H20 e20 j4 => ?_⟩
      have E := (e18.trans e5).trans e20
      have pos' : 0 < sd (mv a mb) (mv b mb) (mv c mb) := by rw [sd_mv]; exact pos
      refine ⟨11, hf, mt, m4, w', o, mv a mb, mv b mb, mv c mb, mv p mb, rfl, W17.hf.ex E, hT.ex (e5.trans e20), j4.pt, ne_ab pos', ne_bc pos', ne_ac pos', by decide, sw10.up (by decide), sA10.mv smb10, sB10.mv smb10, sC10.mv smb10, sp.mv smb10, fun H21 e21 => ?_⟩
      refine ⟨_, rfl, rfl, _, rfl, ?_⟩
      rw [own3_mv, decide_eq_true rfl]
      refine iteF ?_
      have E' := E.trans e21
      exact ⟨_, _, _, _, _, rfl, W17.ex E', t17.ex E', b17.trans (But.of E')⟩
    rintro σ H12 ⟨v12, v13, v14, v15, v16, rfl, W12, _⟩
    clear W11 t11
    -- for turn
    refine seq_gen (fun σ' H' => ∃ v17 v18 : Option V, σ' = [some (.ref sa), some (.int (0 + i)), some (.ref pl), some (.ref l), some tr, some (.ref qw), some hf, some (.ref q7), some (.ref q8), some (.ref q9), some (.ref q10), some (.ref q11), v12, v13, v14, v15, v16, v17, v18, v19, v20] ∧ All C CH CT H0 pl l qa qb qc a b c tr hf w' o H') (fun N hN => ?_) ?_
    · refine ⟨6, rfl, by decide, by decide, ?_⟩
      refine for_range (lo := 0) (n := 6) (fun j σ' H' => ∃ v17 v18 : Option V, σ' = [some (.ref sa), some (.int (0 + i)), some (.ref pl), some (.ref l), some tr, some (.ref qw), some hf, some (.ref q7), some (.ref q8), some (.ref q9), some (.ref q10), some (.ref q11), v12, v13, v14, v15, v16, v17, v18, v19, v20] ∧ All C CH CT H0 pl l qa qb qc a b c tr hf w' o H') ⟨_, _, rfl, W12⟩ ?_ (fun σ' H' ⟨v17, v18, q, W⟩ => hN _ _ ⟨_, _, q, W⟩)
      rintro j σ H13 hj ⟨v17, v18, rfl, W13⟩
      clear hN
      refine seq_gen (fun σ' H' => ∃ qd dd, σ' = [some (.ref sa), some (.int (0 + i)), some (.ref pl), some (.ref l), some tr, some (.ref qw), some hf, some (.ref q7), some (.ref q8), some (.ref q9), some (.ref q10), some (.ref q11), v12, v13, v14, v15, v16, some (.int (0 + j)), some (.ref qd), v19, v20] ∧ All C CH CT H0 pl l qa qb qc a b c tr hf w' o H' ∧ Tp H' qd dd ∧ Sm2 5 dd) (fun N hN => ?_) ?_
      · refine ⟨_, rfl, pl, 6, rfl, W13.cor.pool, by decide, by decide, fun q x y H14 b14 p14 hq x0 x1 y0 y1 => ?_⟩
        exact hN _ _ ⟨q, (x, y), rfl, W13.but hpl b14 p14, hq, sm5 (by show -31 ≤ x; omega) (by show x ≤ 31; omega), sm5 (by show -31 ≤ y; omega) (by show y ≤ 31; omega)⟩
      rintro σ H14 ⟨qd, dd, rfl, W14, hd14, sdd⟩
      refine ⟨_, rfl, (by show 2 ≤ sizeLine; decide), fun t0 nt0 => ?_⟩
      have g0 := same_new (o := .tup [.int 0, .int 0]) nt0
      refine ⟨pD dd, pD (0, 0), tp_dp' (g0 _ _ hd14), tp_dp' (p := (0, 0)) upd_same, rfl, rfl, _, rfl, ?_⟩
      rw [pD_eqv]
      by_cases z0 : dd = (0, 0)
      · rw [decide_eq_true z0]
        refine iteF ?_
        exact ⟨_, _, rfl, W14.ex g0⟩
      · rw [decide_eq_false z0]
        refine iteT ?_
        have hdir : Dir dd := by
          by_cases h1 : dd.1 = 0
          · exact .inr fun h2 => z0 (Prod.ext h1 h2)
          · exact .inl h1
        generalize upd H14 t0 (.tup [.int 0, .int 0]) = H15 at *
        have W15 := W14.ex g0
        have hd15 : Tp H15 qd dd := g0 _ _ hd14
        obtain ⟨ah, dh, qh, eh, h1, h2⟩ := id W15.hf
        refine ⟨ah, (by show some (some hf) = _; rw [eh]), _, rfl, dh, _, h1, 5, _, .ref qd, w', dd, o, rfl, (by rw [← eh]; exact W15.hf), ⟨qd, rfl, .inr hd15⟩, hdir, by decide, by decide, sw.1, sw.2, sdd.1, sdd.2, fun H16 e16 => ?_⟩
        have hd16 : Tp H16 qd dd := e16 _ _ hd15
        refine ⟨ah, (by show some (some hf) = _; rw [eh]), _, rfl, qd, _, _, _, rfl, rfl, SqT.of hd16, atI_nat (j := 0) rfl, _, rfl, _, rfl, qd, _, _, _, rfl, rfl, SqT.of hd16, atI_nat (j := 1) rfl, _, rfl, (by show 2 ≤ sizeLine; decide), fun t1 nt1 => ?_⟩
        have g1 := same_new (o := .tup [.int (-dd.1), .int (-dd.2)]) nt1
        have hdir' : Dir (-dd.1, -dd.2) := by
          rcases hdir with z | z
          · exact .inl (by show -dd.1 ≠ 0; omega)
          · exact .inr (by show -dd.2 ≠ 0; omega)
        have sn : ∀ {x : Int}, Sm 5 x → Sm 5 (-x) := fun {x} hx => by
          unfold Sm at *
          omega
        refine ⟨dh, _, g1 _ _ (e16 _ _ h1), 5, _, .ref t1, w', (-dd.1, -dd.2), o, rfl, (by rw [← eh]; exact (W15.hf.ex e16).ex g1), ⟨t1, rfl, .inr upd_same⟩, hdir', by decide, by decide, sw.1, sw.2, sn sdd.1, sn sdd.2, fun H17 e17 => ?_⟩
        refine ⟨rfl, _, rfl, ?_⟩
        rw [decide_eq_false (fun z => hin_neg dw' hdir (by injection z))]
        refine iteF ?_
        exact ⟨_, _, rfl, W15.ex ((e16.trans g1).trans e17)⟩
    rintro σ H13 ⟨v17, v18, rfl, W13⟩
    clear W12
    -- what is refused
    refine ⟨_, rfl, (by show 4 ≤ sizeLine; decide), fun ml nml => ?_⟩
    have g := same_new (o := .lst [.int 0, .int (-1), .non, .bl true]) nml
    have hml : (upd H13 ml (.lst [.int 0, .int (-1), .non, .bl true])) ml = some (.lst [.int 0, .int (-1), .non, .bl true]) := upd_same
    have W14 := W13.ex g
    generalize upd H13 ml (.lst [.int 0, .int (-1), .non, .bl true]) = H14 at *
    refine ⟨ml, rfl, ⟨_, SqL.of hml⟩, fun D0 nD => ?_⟩
    refine lc_all (K := K) (xs := [.int 0, .int (-1), .non, .bl true]) (sl := [19]) (fun i v _ => v = .str (oddS i)) (fun _ _ _ _ _ h => h) (fun _ _ _ _ _ _ _ _ h => h) (SqL.of hml) (by show 4 ≤ 1000; decide) ?_ ?_ nD
    · intro j x H15 hx e15 Q' k'
      obtain ⟨dd, n1, n2, n3, n4⟩ : ∃ dd : PyData, noScale x ∧ ShowsOk dd ∧ Dp K H15 x dd ∧ dd.shown = oddS j := by
        match j, hx with
        | 0, hx => cases hx; exact ⟨.int 0, (by show (0 : Int) < 1; decide), shows_by (by decide +kernel), .int 0, by decide +kernel⟩
        | 1, hx => cases hx; exact ⟨.int (-1), (by show (-1 : Int) < 1; decide), shows_by (by decide +kernel), .int (-1), by decide +kernel⟩
        | 2, hx => cases hx; exact ⟨.none, trivial, shows_by (by decide +kernel), .non, by decide +kernel⟩
        | 3, hx => cases hx; exact ⟨.bool true, trivial, shows_by (by decide +kernel), .bl true, by decide +kernel⟩
      refine ⟨rfl, _, rfl, _, rfl, _, rfl, hf, tr, x, dd, rfl, n1, n2, n3, fun H16 e16 => ?_⟩
      exact k' _ _ e16 (by rw [n4])
    · intro H15 vs e15 hv hlen hR
      obtain ⟨y1, y2, y3, y4, rfl⟩ : ∃ y1 y2 y3 y4, vs = [y1, y2, y3, y4] := by
        match vs, hlen with
        | [y1, y2, y3, y4], _ => exact ⟨y1, y2, y3, y4, rfl⟩
      have r1 := hR 0 y1 rfl
      have r2 := hR 1 y2 rfl
      have r3 := hR 2 y3 rfl
      have r4 := hR 3 y4 rfl
      subst r1 r2 r3 r4
      refine ⟨(by show 4 ≤ sizeLine; decide), fun z nz => ?_⟩
      have g3 := same_new (o := .lst [.str (Str.ofString "0"), .str (Str.ofString "-1"), .str (Str.ofString "None"), .str (Str.ofString "True")]) nz
      refine ⟨_, _, .lst (SqL.of (g3 _ _ hv)) (.cons (.str _) (.cons (.str _) (.cons (.str _) (.cons (.str _) .nil)))), .lst (SqL.of upd_same) (.cons (.str _) (.cons (.str _) (.cons (.str _) (.cons (.str _) .nil)))), (by decide +kernel), (by decide +kernel), _, rfl, ?_⟩
      have eq4 : PyData.eqv (.list [.str (oddS 0), .str (oddS 1), .str (oddS 2), .str (oddS 3)]) (.list [.str (Str.ofString "0"), .str (Str.ofString "-1"), .str (Str.ofString "None"), .str (Str.ofString "True")]) = true := by decide +kernel
      rw [eq4]
      refine iteF ?_
      exact ⟨_, _, _, _, _, _, _, _, _, _, _, _, _, _, _, _, _, _, _, _, rfl, eH.trans (W14.cor.base.trans (e15.trans g3))⟩
end
end Fo
set_option Elab.async false
set_option linter.all false
set_option maxRecDepth 100000
set_option maxHeartbeats 0
namespace Fo
open PySem L2
theorem all_mk {l : PySem.W.OpenLaw} {w : World} {K : PySem.W.Frag} {h : Heap} {mg : Str → Option Value} {fa C CT CH CF pAr pW pA fRm fW fI fP fA fO fS fQ fG fDr fL fX fId fHI fWG fWS fAG fAS fHs fCl fHE fTI fCo fEd fAr fMv fEq fAd fSb fM fPm fSh fOs fSc fOw fIl fSp fH fD fPr fLs fCn fWy fR fMW fPt fSr fZ CNu gNu NNu cdaNu ccNu : Addr} (X : K.In h) (G : h.Ns mainGlobals mg) (hfa : mg "law" = some (.ref fa))
    {rsA rspW rspA : List Value}
    {nmNu qnNu quNu msNu fiNu : Str} {bsNu bmNu subNu : List Value} {snNu : List Str} {abNu : Bool} {colNu : Option Bool} {ddNu odgNu angNu cddNu cldNu : Option Addr} {e0Nu e1Nu e2Nu e3Nu e5Nu : Option Value} {ocgNu kVgNu dcgNu pmgNu ctgNu cclNu clNu : Value} {slgNu ccsNu cslNu : Array (Option Value)} {vsNu : Array Value} {p1Nu p2Nu r1Nu r2Nu r3Nu r4Nu r5Nu r6Nu q1Nu q2Nu q3Nu q4Nu : Pos} {jNu : Nat} {tfNu : Tok}
    {odW anW odI anI odP anP odA anA odO anO odS anS odQ anQ odG anG odDr anDr odL anL odX anX odId anId odHI anHI odWG anWG odWS anWS odAG anAG odAS anAS odHs anHs odCl anCl odHE anHE odTI anTI odCo anCo odEd anEd odAr anAr odMv anMv odEq anEq odAd anAd odSb anSb odM anM odPm anPm odSh anSh odOs anOs odSc anSc odOw anOw odIl anIl odSp anSp odH anH odD anD odPr anPr odLs anLs odCn anCn odWy anWy odR anR odMW anMW odPt anPt odSr anSr odZ anZ : Option Addr} {slW slI slP slA slO slS slQ slG slDr slL slX slId slHI slWG slWS slAG slAS slHs slCl slHE slTI slCo slEd slAr slMv slEq slAd slSb slM slPm slSh slOs slSc slOw slIl slSp slH slD slPr slLs slCn slWy slR slMW slPt slSr slZ : Array (Option Value)} {ocW kVW dcW pmW cdW ctW ocI kVI dcI pmI cdI ctI ocP kVP dcP pmP cdP ctP ocA kVA dcA pmA cdA ctA ocO kVO dcO pmO cdO ctO ocS kVS dcS pmS cdS ctS ocQ kVQ dcQ pmQ cdQ ctQ ocG kVG dcG pmG cdG ctG ocDr kVDr dcDr pmDr cdDr ctDr ocL kVL dcL pmL cdL ctL ocX kVX dcX pmX cdX ctX ocId kVId dcId pmId cdId ctId ocHI kVHI dcHI pmHI cdHI ctHI ocWG kVWG dcWG pmWG cdWG ctWG ocWS kVWS dcWS pmWS cdWS ctWS ocAG kVAG dcAG pmAG cdAG ctAG ocAS kVAS dcAS pmAS cdAS ctAS ocHs kVHs dcHs pmHs cdHs ctHs ocCl kVCl dcCl pmCl cdCl ctCl ocHE kVHE dcHE pmHE cdHE ctHE ocTI kVTI dcTI pmTI cdTI ctTI ocCo kVCo dcCo pmCo cdCo ctCo ocEd kVEd dcEd pmEd cdEd ctEd ocAr kVAr dcAr pmAr cdAr ctAr ocMv kVMv dcMv pmMv cdMv ctMv ocEq kVEq dcEq pmEq cdEq ctEq ocAd kVAd dcAd pmAd cdAd ctAd ocSb kVSb dcSb pmSb cdSb ctSb ocM kVM dcM pmM cdM ctM ocPm kVPm dcPm pmPm cdPm ctPm ocSh kVSh dcSh pmSh cdSh ctSh ocOs kVOs dcOs pmOs cdOs ctOs ocSc kVSc dcSc pmSc cdSc ctSc ocOw kVOw dcOw pmOw cdOw ctOw ocIl kVIl dcIl pmIl cdIl ctIl ocSp kVSp dcSp pmSp cdSp ctSp ocH kVH dcH pmH cdH ctH ocD kVD dcD pmD cdD ctD ocPr kVPr dcPr pmPr cdPr ctPr ocLs kVLs dcLs pmLs cdLs ctLs ocCn kVCn dcCn pmCn cdCn ctCn ocWy kVWy dcWy pmWy cdWy ctWy ocR kVR dcR pmR cdR ctR ocMW kVMW dcMW pmMW cdMW ctMW ocPt kVPt dcPt pmPt cdPt ctPt ocSr kVSr dcSr pmSr cdSr ctSr ocZ kVZ dcZ pmZ cdZ ctZ : Value}
    (aC : PySem.W.nsIn K mainGlobals "Point" = some (some (.ref C)))
    (aCT : PySem.W.nsIn K mainGlobals "Triangle" = some (some (.ref CT)))
    (aCH : PySem.W.nsIn K mainGlobals "Half" = some (some (.ref CH)))
    (neCH : C ≠ CH)
    (aW : PySem.W.nsIn K mainGlobals "is_whole" = some (some (.ref fW)))
    (lW : K.lookup fW = some ⟨ocW, odW, .func (PySem.W.fnOf "is_whole" "is_whole" (defArgs sWhole) (defBody sWhole) (defScope sWhole) .none kVW dcW pmW anW cdW ctW), slW⟩)
    (cW : PySem.W.codeIn K cdW "is_whole" = true)
    (kW : PySem.W.keepIn K (.ref fW) = true)
    (aI : PySem.W.findIn K (.ref C) "__init__" = some (some (.ref fI)))
    (iI : PySem.W.isFn K (.ref fI) = true)
    (lI : K.lookup fI = some ⟨ocI, odI, .func (PySem.W.fnOf "__init__" "Point.__init__" (defArgs sInit) (defBody sInit) (defScope sInit) .none kVI dcI pmI anI cdI ctI), slI⟩)
    (cI : PySem.W.codeIn K cdI "Point.__init__" = true)
    (kI : PySem.W.keepIn K (.ref fI) = true)
    (aP : PySem.W.nsIn K mainGlobals "is_point" = some (some (.ref fP)))
    (lP : K.lookup fP = some ⟨ocP, odP, .func (PySem.W.fnOf "is_point" "is_point" (defArgs sIsPoint) (defBody sIsPoint) (defScope sIsPoint) .none kVP dcP pmP anP cdP ctP), slP⟩)
    (cP : PySem.W.codeIn K cdP "is_point" = true)
    (kP : PySem.W.keepIn K (.ref fP) = true)
    (aA : PySem.W.nsIn K mainGlobals "as_point" = some (some (.ref fA)))
    (lA : K.lookup fA = some ⟨ocA, odA, .func (PySem.W.fnOf "as_point" "as_point" (defArgs sAsPoint) (defBody sAsPoint) (defScope sAsPoint) .none kVA dcA pmA anA cdA ctA), slA⟩)
    (cA : PySem.W.codeIn K cdA "as_point" = true)
    (kA : PySem.W.keepIn K (.ref fA) = true)
    (aO : PySem.W.nsIn K mainGlobals "operand" = some (some (.ref fO)))
    (lO : K.lookup fO = some ⟨ocO, odO, .func (PySem.W.fnOf "operand" "operand" (defArgs sOperand) (defBody sOperand) (defScope sOperand) .none kVO dcO pmO anO cdO ctO), slO⟩)
    (cO : PySem.W.codeIn K cdO "operand" = true)
    (kO : PySem.W.keepIn K (.ref fO) = true)
    (aS : PySem.W.nsIn K mainGlobals "side" = some (some (.ref fS)))
    (lS : K.lookup fS = some ⟨ocS, odS, .func (PySem.W.fnOf "side" "side" (defArgs sSide) (defBody sSide) (defScope sSide) .none kVS dcS pmS anS cdS ctS), slS⟩)
    (cS : PySem.W.codeIn K cdS "side" = true)
    (kS : PySem.W.keepIn K (.ref fS) = true)
    (aQ : PySem.W.nsIn K mainGlobals "quarter" = some (some (.ref fQ)))
    (lQ : K.lookup fQ = some ⟨ocQ, odQ, .func (PySem.W.fnOf "quarter" "quarter" (defArgs sQuarter) (defBody sQuarter) (defScope sQuarter) .none kVQ dcQ pmQ anQ cdQ ctQ), slQ⟩)
    (cQ : PySem.W.codeIn K cdQ "quarter" = true)
    (kQ : PySem.W.keepIn K (.ref fQ) = true)
    (aG : PySem.W.nsIn K mainGlobals "common_divisor" = some (some (.ref fG)))
    (lG : K.lookup fG = some ⟨ocG, odG, .func (PySem.W.fnOf "common_divisor" "common_divisor" (defArgs sGcd) (defBody sGcd) (defScope sGcd) .none kVG dcG pmG anG cdG ctG), slG⟩)
    (cG : PySem.W.codeIn K cdG "common_divisor" = true)
    (kG : PySem.W.keepIn K (.ref fG) = true)
    (aDr : PySem.W.nsIn K mainGlobals "as_direction" = some (some (.ref fDr)))
    (lDr : K.lookup fDr = some ⟨ocDr, odDr, .func (PySem.W.fnOf "as_direction" "as_direction" (defArgs sAsDir) (defBody sAsDir) (defScope sAsDir) .none kVDr dcDr pmDr anDr cdDr ctDr), slDr⟩)
    (cDr : PySem.W.codeIn K cdDr "as_direction" = true)
    (kDr : PySem.W.keepIn K (.ref fDr) = true)
    (aL : PySem.W.nsIn K mainGlobals "lowest" = some (some (.ref fL)))
    (lL : K.lookup fL = some ⟨ocL, odL, .func (PySem.W.fnOf "lowest" "lowest" (defArgs sLow) (defBody sLow) (defScope sLow) .none kVL dcL pmL anL cdL ctL), slL⟩)
    (cL : PySem.W.codeIn K cdL "lowest" = true)
    (kL : PySem.W.keepIn K (.ref fL) = true)
    (aX : PySem.W.findIn K (.ref C) "cross" = some (some (.ref fX)))
    (iX : PySem.W.isFn K (.ref fX) = true)
    (lX : K.lookup fX = some ⟨ocX, odX, .func (PySem.W.fnOf "cross" "Point.cross" (defArgs sCross) (defBody sCross) (defScope sCross) .none kVX dcX pmX anX cdX ctX), slX⟩)
    (cX : PySem.W.codeIn K cdX "Point.cross" = true)
    (kX : PySem.W.keepIn K (.ref fX) = true)
    (aId : PySem.W.nsIn K mainGlobals "is_direction" = some (some (.ref fId)))
    (lId : K.lookup fId = some ⟨ocId, odId, .func (PySem.W.fnOf "is_direction" "is_direction" (defArgs sIsDir) (defBody sIsDir) (defScope sIsDir) .none kVId dcId pmId anId cdId ctId), slId⟩)
    (cId : PySem.W.codeIn K cdId "is_direction" = true)
    (kId : PySem.W.keepIn K (.ref fId) = true)
    (aHI : PySem.W.findIn K (.ref CH) "__init__" = some (some (.ref fHI)))
    (iHI : PySem.W.isFn K (.ref fHI) = true)
    (lHI : K.lookup fHI = some ⟨ocHI, odHI, .func (PySem.W.fnOf "__init__" "Half.__init__" (defArgs sHInit) (defBody sHInit) (defScope sHInit) .none kVHI dcHI pmHI anHI cdHI ctHI), slHI⟩)
    (cHI : PySem.W.codeIn K cdHI "Half.__init__" = true)
    (kHI : PySem.W.keepIn K (.ref fHI) = true)
    (apW : PySem.W.findIn K (.ref CH) "way" = some (some (.ref pW)))
    (gpW : PySem.W.specialIn K (.ref pW) "__get__" = some (some (.builtin "property.__get__")))
    (tpW : PySem.W.takesIn K (.ref pW) = some true)
    (rpW : PySem.W.recIn K pW "property" = some (.ref fWG :: .ref fWS :: rspW))
    (kpW : PySem.W.takerIn K CH "way" = some (some (.ref pW)))
    (ypW : PySem.W.typeIn K (.ref pW) = some (.type "property"))
    (lWG : K.lookup fWG = some ⟨ocWG, odWG, .func (PySem.W.fnOf "way" "Half.way" (defArgs sWayG) (defBody sWayG) (defScope sWayG) .none kVWG dcWG pmWG anWG cdWG ctWG), slWG⟩)
    (cWG : PySem.W.codeIn K cdWG "Half.way" = true)
    (kWG : PySem.W.keepIn K (.ref fWG) = true)
    (lWS : K.lookup fWS = some ⟨ocWS, odWS, .func (PySem.W.fnOf "way" "Half.way" (defArgs sWayS) (defBody sWayS) (defScope sWayS) .none kVWS dcWS pmWS anWS cdWS ctWS), slWS⟩)
    (cWS : PySem.W.codeIn K cdWS "Half.way" = true)
    (kWS : PySem.W.keepIn K (.ref fWS) = true)
    (apA : PySem.W.findIn K (.ref CH) "ahead" = some (some (.ref pA)))
    (gpA : PySem.W.specialIn K (.ref pA) "__get__" = some (some (.builtin "property.__get__")))
    (tpA : PySem.W.takesIn K (.ref pA) = some true)
    (rpA : PySem.W.recIn K pA "property" = some (.ref fAG :: .ref fAS :: rspA))
    (kpA : PySem.W.takerIn K CH "ahead" = some (some (.ref pA)))
    (ypA : PySem.W.typeIn K (.ref pA) = some (.type "property"))
    (lAG : K.lookup fAG = some ⟨ocAG, odAG, .func (PySem.W.fnOf "ahead" "Half.ahead" (defArgs sAhG) (defBody sAhG) (defScope sAhG) .none kVAG dcAG pmAG anAG cdAG ctAG), slAG⟩)
    (cAG : PySem.W.codeIn K cdAG "Half.ahead" = true)
    (kAG : PySem.W.keepIn K (.ref fAG) = true)
    (lAS : K.lookup fAS = some ⟨ocAS, odAS, .func (PySem.W.fnOf "ahead" "Half.ahead" (defArgs sAhS) (defBody sAhS) (defScope sAhS) .none kVAS dcAS pmAS anAS cdAS ctAS), slAS⟩)
    (cAS : PySem.W.codeIn K cdAS "Half.ahead" = true)
    (kAS : PySem.W.keepIn K (.ref fAS) = true)
    (aHs : PySem.W.findIn K (.ref CH) "has" = some (some (.ref fHs)))
    (iHs : PySem.W.isFn K (.ref fHs) = true)
    (lHs : K.lookup fHs = some ⟨ocHs, odHs, .func (PySem.W.fnOf "has" "Half.has" (defArgs sHas) (defBody sHas) (defScope sHas) .none kVHs dcHs pmHs anHs cdHs ctHs), slHs⟩)
    (cHs : PySem.W.codeIn K cdHs "Half.has" = true)
    (kHs : PySem.W.keepIn K (.ref fHs) = true)
    (aCl : PySem.W.findIn K (.ref CH) "__call__" = some (some (.ref fCl)))
    (iCl : PySem.W.isFn K (.ref fCl) = true)
    (lCl : K.lookup fCl = some ⟨ocCl, odCl, .func (PySem.W.fnOf "__call__" "Rule.__call__" (defArgs sCall) (defBody sCall) (defScope sCall) .none kVCl dcCl pmCl anCl cdCl ctCl), slCl⟩)
    (cCl : PySem.W.codeIn K cdCl "Rule.__call__" = true)
    (kCl : PySem.W.keepIn K (.ref fCl) = true)
    (aHE : PySem.W.findIn K (.ref CH) "__eq__" = some (some (.ref fHE)))
    (iHE : PySem.W.isFn K (.ref fHE) = true)
    (lHE : K.lookup fHE = some ⟨ocHE, odHE, .func (PySem.W.fnOf "__eq__" "Half.__eq__" (defArgs sHEq) (defBody sHEq) (defScope sHEq) .none kVHE dcHE pmHE anHE cdHE ctHE), slHE⟩)
    (cHE : PySem.W.codeIn K cdHE "Half.__eq__" = true)
    (kHE : PySem.W.keepIn K (.ref fHE) = true)
    (aTI : PySem.W.findIn K (.ref CT) "__init__" = some (some (.ref fTI)))
    (iTI : PySem.W.isFn K (.ref fTI) = true)
    (lTI : K.lookup fTI = some ⟨ocTI, odTI, .func (PySem.W.fnOf "__init__" "Triangle.__init__" (defArgs sTInit) (defBody sTInit) (defScope sTInit) .none kVTI dcTI pmTI anTI cdTI ctTI), slTI⟩)
    (cTI : PySem.W.codeIn K cdTI "Triangle.__init__" = true)
    (kTI : PySem.W.keepIn K (.ref fTI) = true)
    (aCo : PySem.W.findIn K (.ref CT) "corners" = some (some (.ref fCo)))
    (iCo : PySem.W.isFn K (.ref fCo) = true)
    (lCo : K.lookup fCo = some ⟨ocCo, odCo, .func (PySem.W.fnOf "corners" "Triangle.corners" (defArgs sCorners) (defBody sCorners) (defScope sCorners) .none kVCo dcCo pmCo anCo cdCo ctCo), slCo⟩)
    (cCo : PySem.W.codeIn K cdCo "Triangle.corners" = true)
    (kCo : PySem.W.keepIn K (.ref fCo) = true)
    (aEd : PySem.W.findIn K (.ref CT) "edges" = some (some (.ref fEd)))
    (iEd : PySem.W.isFn K (.ref fEd) = true)
    (lEd : K.lookup fEd = some ⟨ocEd, odEd, .func (PySem.W.fnOf "edges" "Triangle.edges" (defArgs sEdges) (defBody sEdges) (defScope sEdges) .none kVEd dcEd pmEd anEd cdEd ctEd), slEd⟩)
    (cEd : PySem.W.codeIn K cdEd "Triangle.edges" = true)
    (kEd : PySem.W.keepIn K (.ref fEd) = true)
    (aAr : PySem.W.findIn K (.ref CT) "area2" = some (some (.ref pAr)))
    (gAr : PySem.W.specialIn K (.ref pAr) "__get__" = some (some (.builtin "property.__get__")))
    (tAr : PySem.W.takesIn K (.ref pAr) = some true)
    (rAr : PySem.W.recIn K pAr "property" = some (.ref fAr :: rsA))
    (lAr : K.lookup fAr = some ⟨ocAr, odAr, .func (PySem.W.fnOf "area2" "Triangle.area2" (defArgs sArea) (defBody sArea) (defScope sArea) .none kVAr dcAr pmAr anAr cdAr ctAr), slAr⟩)
    (cAr : PySem.W.codeIn K cdAr "Triangle.area2" = true)
    (kAr : PySem.W.keepIn K (.ref fAr) = true)
    (aMv : PySem.W.findIn K (.ref CT) "moved" = some (some (.ref fMv)))
    (iMv : PySem.W.isFn K (.ref fMv) = true)
    (lMv : K.lookup fMv = some ⟨ocMv, odMv, .func (PySem.W.fnOf "moved" "Triangle.moved" (defArgs sMoved) (defBody sMoved) (defScope sMoved) .none kVMv dcMv pmMv anMv cdMv ctMv), slMv⟩)
    (cMv : PySem.W.codeIn K cdMv "Triangle.moved" = true)
    (kMv : PySem.W.keepIn K (.ref fMv) = true)
    (aEq : PySem.W.findIn K (.ref C) "__eq__" = some (some (.ref fEq)))
    (iEq : PySem.W.isFn K (.ref fEq) = true)
    (lEq : K.lookup fEq = some ⟨ocEq, odEq, .func (PySem.W.fnOf "__eq__" "Point.__eq__" (defArgs sEq) (defBody sEq) (defScope sEq) .none kVEq dcEq pmEq anEq cdEq ctEq), slEq⟩)
    (cEq : PySem.W.codeIn K cdEq "Point.__eq__" = true)
    (kEq : PySem.W.keepIn K (.ref fEq) = true)
    (aAd : PySem.W.findIn K (.ref C) "__add__" = some (some (.ref fAd)))
    (iAd : PySem.W.isFn K (.ref fAd) = true)
    (lAd : K.lookup fAd = some ⟨ocAd, odAd, .func (PySem.W.fnOf "__add__" "Point.__add__" (defArgs sAdd) (defBody sAdd) (defScope sAdd) .none kVAd dcAd pmAd anAd cdAd ctAd), slAd⟩)
    (cAd : PySem.W.codeIn K cdAd "Point.__add__" = true)
    (kAd : PySem.W.keepIn K (.ref fAd) = true)
    (aSb : PySem.W.findIn K (.ref C) "__sub__" = some (some (.ref fSb)))
    (iSb : PySem.W.isFn K (.ref fSb) = true)
    (lSb : K.lookup fSb = some ⟨ocSb, odSb, .func (PySem.W.fnOf "__sub__" "Point.__sub__" (defArgs sSub) (defBody sSub) (defScope sSub) .none kVSb dcSb pmSb anSb cdSb ctSb), slSb⟩)
    (cSb : PySem.W.codeIn K cdSb "Point.__sub__" = true)
    (kSb : PySem.W.keepIn K (.ref fSb) = true)
    (aM : PySem.W.findIn K (.ref C) "__mul__" = some (some (.ref fM)))
    (iM : PySem.W.isFn K (.ref fM) = true)
    (lM : K.lookup fM = some ⟨ocM, odM, .func (PySem.W.fnOf "__mul__" "Point.__mul__" (defArgs sMul) (defBody sMul) (defScope sMul) .none kVM dcM pmM anM cdM ctM), slM⟩)
    (cM : PySem.W.codeIn K cdM "Point.__mul__" = true)
    (kM : PySem.W.keepIn K (.ref fM) = true)
    (aPm : PySem.W.findIn K (.ref C) "pair" = some (some (.ref fPm)))
    (iPm : PySem.W.isFn K (.ref fPm) = true)
    (lPm : K.lookup fPm = some ⟨ocPm, odPm, .func (PySem.W.fnOf "pair" "Point.pair" (defArgs sPairM) (defBody sPairM) (defScope sPairM) .none kVPm dcPm pmPm anPm cdPm ctPm), slPm⟩)
    (cPm : PySem.W.codeIn K cdPm "Point.pair" = true)
    (kPm : PySem.W.keepIn K (.ref fPm) = true)
    (aSh : PySem.W.nsIn K mainGlobals "shift_of" = some (some (.ref fSh)))
    (lSh : K.lookup fSh = some ⟨ocSh, odSh, .func (PySem.W.fnOf "shift_of" "shift_of" (defArgs sShift) (defBody sShift) (defScope sShift) .none kVSh dcSh pmSh anSh cdSh ctSh), slSh⟩)
    (cSh : PySem.W.codeIn K cdSh "shift_of" = true)
    (kSh : PySem.W.keepIn K (.ref fSh) = true)
    (aOs : PySem.W.nsIn K mainGlobals "owns_shifted" = some (some (.ref fOs)))
    (lOs : K.lookup fOs = some ⟨ocOs, odOs, .func (PySem.W.fnOf "owns_shifted" "owns_shifted" (defArgs sOwnsS) (defBody sOwnsS) (defScope sOwnsS) .none kVOs dcOs pmOs anOs cdOs ctOs), slOs⟩)
    (cOs : PySem.W.codeIn K cdOs "owns_shifted" = true)
    (kOs : PySem.W.keepIn K (.ref fOs) = true)
    (aSc : PySem.W.nsIn K mainGlobals "scale_for" = some (some (.ref fSc)))
    (lSc : K.lookup fSc = some ⟨ocSc, odSc, .func (PySem.W.fnOf "scale_for" "scale_for" (defArgs sScale) (defBody sScale) (defScope sScale) .none kVSc dcSc pmSc anSc cdSc ctSc), slSc⟩)
    (cSc : PySem.W.codeIn K cdSc "scale_for" = true)
    (kSc : PySem.W.keepIn K (.ref fSc) = true)
    (aOw : PySem.W.nsIn K mainGlobals "owns" = some (some (.ref fOw)))
    (lOw : K.lookup fOw = some ⟨ocOw, odOw, .func (PySem.W.fnOf "owns" "owns" (defArgs sOwns) (defBody sOwns) (defScope sOwns) .none kVOw dcOw pmOw anOw cdOw ctOw), slOw⟩)
    (cOw : PySem.W.codeIn K cdOw "owns" = true)
    (kOw : PySem.W.keepIn K (.ref fOw) = true)
    (aIl : PySem.W.nsIn K mainGlobals "is_left" = some (some (.ref fIl)))
    (lIl : K.lookup fIl = some ⟨ocIl, odIl, .func (PySem.W.fnOf "is_left" "is_left" (defArgs sIsLeft) (defBody sIsLeft) (defScope sIsLeft) .none kVIl dcIl pmIl anIl cdIl ctIl), slIl⟩)
    (cIl : PySem.W.codeIn K cdIl "is_left" = true)
    (kIl : PySem.W.keepIn K (.ref fIl) = true)
    (aSp : PySem.W.nsIn K mainGlobals "set_part" = some (some (.ref fSp)))
    (lSp : K.lookup fSp = some ⟨ocSp, odSp, .func (PySem.W.fnOf "set_part" "set_part" (defArgs sSetPart) (defBody sSetPart) (defScope sSetPart) .none kVSp dcSp pmSp anSp cdSp ctSp), slSp⟩)
    (cSp : PySem.W.codeIn K cdSp "set_part" = true)
    (kSp : PySem.W.keepIn K (.ref fSp) = true)
    (aH : PySem.W.nsIn K mainGlobals "_law_hand" = some (some (.ref fH)))
    (lH : K.lookup fH = some ⟨ocH, odH, .func (PySem.W.fnOf "_law_hand" "_law_hand" (defArgs sHand) (defBody sHand) (defScope sHand) .none kVH dcH pmH anH cdH ctH), slH⟩)
    (cH : PySem.W.codeIn K cdH "_law_hand" = true)
    (kH : PySem.W.keepIn K (.ref fH) = true)
    (aD : PySem.W.nsIn K mainGlobals "_law_draw" = some (some (.ref fD)))
    (lD : K.lookup fD = some ⟨ocD, odD, .func (PySem.W.fnOf "_law_draw" "_law_draw" (defArgs sDraw) (defBody sDraw) (defScope sDraw) .none kVD dcD pmD anD cdD ctD), slD⟩)
    (cD : PySem.W.codeIn K cdD "_law_draw" = true)
    (kD : PySem.W.keepIn K (.ref fD) = true)
    (aPr : PySem.W.nsIn K mainGlobals "_law_pair" = some (some (.ref fPr)))
    (lPr : K.lookup fPr = some ⟨ocPr, odPr, .func (PySem.W.fnOf "_law_pair" "_law_pair" (defArgs sPair) (defBody sPair) (defScope sPair) .none kVPr dcPr pmPr anPr cdPr ctPr), slPr⟩)
    (cPr : PySem.W.codeIn K cdPr "_law_pair" = true)
    (kPr : PySem.W.keepIn K (.ref fPr) = true)
    (aLs : PySem.W.nsIn K mainGlobals "_law_side" = some (some (.ref fLs)))
    (lLs : K.lookup fLs = some ⟨ocLs, odLs, .func (PySem.W.fnOf "_law_side" "_law_side" (defArgs sLSide) (defBody sLSide) (defScope sLSide) .none kVLs dcLs pmLs anLs cdLs ctLs), slLs⟩)
    (cLs : PySem.W.codeIn K cdLs "_law_side" = true)
    (kLs : PySem.W.keepIn K (.ref fLs) = true)
    (aCn : PySem.W.nsIn K mainGlobals "_law_corners" = some (some (.ref fCn)))
    (lCn : K.lookup fCn = some ⟨ocCn, odCn, .func (PySem.W.fnOf "_law_corners" "_law_corners" (defArgs sCorn) (defBody sCorn) (defScope sCorn) .none kVCn dcCn pmCn anCn cdCn ctCn), slCn⟩)
    (cCn : PySem.W.codeIn K cdCn "_law_corners" = true)
    (kCn : PySem.W.keepIn K (.ref fCn) = true)
    (aWy : PySem.W.nsIn K mainGlobals "_law_ways" = some (some (.ref fWy)))
    (lWy : K.lookup fWy = some ⟨ocWy, odWy, .func (PySem.W.fnOf "_law_ways" "_law_ways" (defArgs sWays) (defBody sWays) (defScope sWays) .none kVWy dcWy pmWy anWy cdWy ctWy), slWy⟩)
    (cWy : PySem.W.codeIn K cdWy "_law_ways" = true)
    (kWy : PySem.W.keepIn K (.ref fWy) = true)
    (aR : PySem.W.nsIn K mainGlobals "_law_refused" = some (some (.ref fR)))
    (lR : K.lookup fR = some ⟨ocR, odR, .func (PySem.W.fnOf "_law_refused" "_law_refused" (defArgs sRefused) (defBody sRefused) (defScope sRefused) .none kVR dcR pmR anR cdR ctR), slR⟩)
    (cR : PySem.W.codeIn K cdR "_law_refused" = true)
    (kR : PySem.W.keepIn K (.ref fR) = true)
    (aMW : PySem.W.nsIn K mainGlobals "_law_moved_within" = some (some (.ref fMW)))
    (lMW : K.lookup fMW = some ⟨ocMW, odMW, .func (PySem.W.fnOf "_law_moved_within" "_law_moved_within" (defArgs sMW) (defBody sMW) (defScope sMW) .none kVMW dcMW pmMW anMW cdMW ctMW), slMW⟩)
    (cMW : PySem.W.codeIn K cdMW "_law_moved_within" = true)
    (kMW : PySem.W.keepIn K (.ref fMW) = true)
    (aPt : PySem.W.nsIn K mainGlobals "_law_points" = some (some (.ref fPt)))
    (lPt : K.lookup fPt = some ⟨ocPt, odPt, .func (PySem.W.fnOf "_law_points" "_law_points" (defArgs sPts) (defBody sPts) (defScope sPts) .none kVPt dcPt pmPt anPt cdPt ctPt), slPt⟩)
    (cPt : PySem.W.codeIn K cdPt "_law_points" = true)
    (kPt : PySem.W.keepIn K (.ref fPt) = true)
    (aSr : PySem.W.nsIn K mainGlobals "_law_set_right" = some (some (.ref fSr)))
    (lSr : K.lookup fSr = some ⟨ocSr, odSr, .func (PySem.W.fnOf "_law_set_right" "_law_set_right" (defArgs sSetRight) (defBody sSetRight) (defScope sSetRight) .none kVSr dcSr pmSr anSr cdSr ctSr), slSr⟩)
    (cSr : PySem.W.codeIn K cdSr "_law_set_right" = true)
    (kSr : PySem.W.keepIn K (.ref fSr) = true)
    (aZ : PySem.W.nsIn K mainGlobals "law" = some (some (.ref fZ)))
    (lZ : K.lookup fZ = some ⟨ocZ, odZ, .func (PySem.W.fnOf "law" "law" (defArgs sLaw) (defBody sLaw) (defScope sLaw) .none kVZ dcZ pmZ anZ cdZ ctZ), slZ⟩)
    (cZ : PySem.W.codeIn K cdZ "law" = true)
    (kZ : PySem.W.keepIn K (.ref fZ) = true)
    (pg : PySem.W.plainGet K C Str.empty = true)
    (hd : PySem.W.hasDictIn K C = true)
    (po : PySem.W.plainOver K C = true)
    (sa : PySem.W.findIn K (.ref C) "__setattr__" = some (some (.builtin "object.__setattr__")))
    (mk : PySem.W.makesIn K C = true)
    (kc : PySem.W.keepIn K (.ref C) = true)
    (nX : PySem.W.findIn K (.ref C) "x" = some none)
    (nY : PySem.W.findIn K (.ref C) "y" = some none)
    (ha : PySem.W.findIn K (.ref C) "__class__" = some (some (.builtin "object.__class__")))
    (hn : PySem.W.specialIn K (.builtin "object.__class__") "__get__" = some (some (.builtin "getset_descriptor.__get__")))
    (htk : PySem.W.takesIn K (.builtin "object.__class__") = some true)
    (hm : PySem.W.mroIn K C (.type "object") = some true)
    (kTC : PySem.W.kitOne K (.type "tuple") (.ref C) = some false)
    (kCC : PySem.W.kitOne K (.ref C) (.ref C) = some true)
    (sf : PySem.W.selfFirst K C = true)
    (kNC : PySem.W.kitOne K (.type "NoneType") (.ref C) = some false)
    (kBC : PySem.W.kitOne K (.type "bool") (.ref C) = some false)
    (kIC : PySem.W.kitOne K (.type "int") (.ref C) = some false)
    (kSC : PySem.W.kitOne K (.type "str") (.ref C) = some false)
    (kLC : PySem.W.kitOne K (.type "list") (.ref C) = some false)
    (pgT : PySem.W.plainGet K CT Str.empty = true)
    (hdT : PySem.W.hasDictIn K CT = true)
    (poT : PySem.W.plainOver K CT = true)
    (saT : PySem.W.findIn K (.ref CT) "__setattr__" = some (some (.builtin "object.__setattr__")))
    (mkT : PySem.W.makesIn K CT = true)
    (kcT : PySem.W.keepIn K (.ref CT) = true)
    (nTT : PySem.W.findIn K (.ref CT) "tips" = some none)
    (haT : PySem.W.findIn K (.ref CT) "__class__" = some (some (.builtin "object.__class__")))
    (hmT : PySem.W.mroIn K CT (.type "object") = some true)
    (kLT : PySem.W.kitOne K (.type "list") (.ref CT) = some false)
    (kTT : PySem.W.kitOne K (.ref CT) (.ref CT) = some true)
    (fiCl : PySem.W.fnIn K fCl = true)
    (pgH : PySem.W.plainGet K CH Str.empty = true)
    (hdH : PySem.W.hasDictIn K CH = true)
    (poH : PySem.W.plainOver K CH = true)
    (saH : PySem.W.findIn K (.ref CH) "__setattr__" = some (some (.builtin "object.__setattr__")))
    (mkH : PySem.W.makesIn K CH = true)
    (kcH : PySem.W.keepIn K (.ref CH) = true)
    (nHH : PySem.W.findIn K (.ref CH) "heading" = some none)
    (nHO : PySem.W.findIn K (.ref CH) "onward" = some none)
    (haH : PySem.W.findIn K (.ref CH) "__class__" = some (some (.builtin "object.__class__")))
    (hmH : PySem.W.mroIn K CH (.type "object") = some true)
    (kHH : PySem.W.kitOne K (.ref CH) (.ref CH) = some true)
    (neH : PySem.W.findIn K (.ref CH) "__ne__" = some (some (.builtin "object.__ne__")))
    (ntH : PySem.W.notFirst K CH (.type "tuple") = true)
    (neP : PySem.W.findIn K (.ref C) "__ne__" = some (some (.builtin "object.__ne__")))
    (ntP : PySem.W.notFirst K C (.type "tuple") = true)
    (aRm : PySem.W.findIn K (.ref C) "__rmul__" = some (some (.ref fRm)))
    (sbI : PySem.W.subIn K (.type "int") (.ref C) = some false)
    (z_isinstance : PySem.W.nsIn K mainGlobals "isinstance" = some none)
    (z_len : PySem.W.nsIn K mainGlobals "len" = some none)
    (z_int : PySem.W.nsIn K mainGlobals "int" = some none)
    (z_bool : PySem.W.nsIn K mainGlobals "bool" = some none)
    (z_tuple : PySem.W.nsIn K mainGlobals "tuple" = some none)
    (z_range : PySem.W.nsIn K mainGlobals "range" = some none)
    (z_max : PySem.W.nsIn K mainGlobals "max" = some none)
    (z_min : PySem.W.nsIn K mainGlobals "min" = some none)
    (z_list : PySem.W.nsIn K mainGlobals "list" = some none)
    (z_all : PySem.W.nsIn K mainGlobals "all" = some none)
    (z_repr : PySem.W.nsIn K mainGlobals "repr" = some none)
    (z_super : PySem.W.nsIn K mainGlobals "super" = some none)
    (z_abs : PySem.W.nsIn K mainGlobals "abs" = some none)
    (z_str : PySem.W.nsIn K mainGlobals "str" = some none)
    (aCF : PySem.W.nsIn K mainGlobals "FillError" = some (some (.ref CF)))
    (tpI : PySem.W.nsIn K cStatics "thirdparty.any" = some none)
    (tsI : (l.prog.main.scope.names.lookup ("super" : Str)).isSome = false)
    (aCNu : PySem.W.nsIn K mainGlobals "InvalidNumber" = some (some (.ref CNu)))
    (lCNu : K.lookup CNu = some (PySem.excClassObj nmNu qnNu CNu NNu bsNu bmNu true snNu subNu abNu colNu ddNu e0Nu e1Nu e2Nu e3Nu e5Nu "ValueError.__new__"))
    (rvNu : PySem.HandSPX.refsVE bmNu = true)
    (saNu : PySem.W.findIn K (.ref CNu) "__setattr__" = some (some (.builtin "object.__setattr__")))
    (gaNu : PySem.W.findIn K (.ref CNu) "__getattribute__" = some (some (.builtin "BaseException.__getattribute__")))
    (ggNu : PySem.W.findIn K (.ref CNu) "__getattr__" = some none)
    (noNu : PySem.W.findIn K (.ref CNu) (Str.ofString "number") = some none)
    (inNu : PySem.W.findIn K (.ref CNu) "__init__" = some (some (.ref gNu)))
    (tyNu : PySem.W.typeIn K (.ref gNu) = some (.type "function"))
    (kpNu : PySem.W.keepIn K (.ref CNu) = true)
    (exNu : PySem.W.subIn K (.ref CNu) (.type "BaseException") = some true)
    (tcNu : PySem.W.typeIn K (.ref CNu) = some (.type "type"))
    (hdNu : PySem.W.hasDictIn K CNu = true)
    (suNu : PySem.W.ks_superIn K CNu CNu "__init__" = some (some (.builtin "ValueError.__init__")))
    (veNu : PySem.W.subIn K (.ref CNu) (.type "ValueError") = some true)
    (mrNu : PySem.W.mroIn K CNu (.ref CNu) = some true)
    (lgNu : K.lookup gNu = some ⟨ocgNu, odgNu, .func (PySem.W.ksFn "__init__" quNu (FoX_number.xA p1Nu p2Nu) (FoX_number.xB msNu r1Nu r2Nu r3Nu r4Nu r5Nu r6Nu q1Nu q2Nu q3Nu q4Nu jNu) FoX_number.xS .none kVgNu dcgNu pmgNu angNu (.ref cdaNu) ctgNu ccNu), slgNu⟩)
    (cgNu : PySem.W.codeIn K (.ref cdaNu) quNu = true)
    (lcNu : K.lookup cdaNu = some ⟨cclNu, cddNu, .fields vsNu, ccsNu⟩)
    (vfNu : vsNu[2]? = some (.str fiNu tfNu))
    (flNu : ((l.prog.main.file : Str) == fiNu) = true)
    (lnNu : (r3Nu.endLine == r5Nu.line) = true)
    (leNu : K.lookup ccNu = some ⟨clNu, cldNu, .cell (some (.ref CNu)), cslNu⟩)
    (caNu : PySem.W.findIn K (.ref CNu) "__class__" = some (some (.builtin "object.__class__")))
    (moNu : PySem.W.mroIn K CNu (.type "object") = some true)
    (emNu : PySem.W.exmOne K (.ref CNu) (.ref CF) = some true)
    (ksNu : PySem.W.kitOne K (.ref CNu) (.ref CNu) = some true) :
    ∃ fd : FuncData, (∀ (s : Shared) (v : Value), BindsTo s fd ⟨[v], []⟩ [("script", v)]) ∧ ∀ base : Heap, K.In base → base.Ns mainGlobals mg → FnG l.prog w K mg base CX0 13 fa fd ["script"] (spLaw K) := by
  have e := hfa.symm.trans (PySem.W.mg_of X G aZ)
  cases e
  have FW := fun_mk (st := sWhole) lW cW kW
  have bW := FW.binds (ps := ["value"]) fun _ _ _ _ _ _ us hl => match us, hl with | [_], _ => rfl
  have FI := fun_mk (st := sInit) lI cI kI
  have bI := FI.binds (ps := ["self", "x", "y"]) fun _ _ _ _ _ _ us hl => match us, hl with | [_, _, _], _ => rfl
  have FP := fun_mk (st := sIsPoint) lP cP kP
  have bP := FP.binds (ps := ["thing"]) fun _ _ _ _ _ _ us hl => match us, hl with | [_], _ => rfl
  have FA := fun_mk (st := sAsPoint) lA cA kA
  have bA := FA.binds (ps := ["thing"]) fun _ _ _ _ _ _ us hl => match us, hl with | [_], _ => rfl
  have FO := fun_mk (st := sOperand) lO cO kO
  have bO := FO.binds (ps := ["thing"]) fun _ _ _ _ _ _ us hl => match us, hl with | [_], _ => rfl
  have FS := fun_mk (st := sSide) lS cS kS
  have bS := FS.binds (ps := ["a", "b", "point"]) fun _ _ _ _ _ _ us hl => match us, hl with | [_, _, _], _ => rfl
  have FQ := fun_mk (st := sQuarter) lQ cQ kQ
  have bQ := FQ.binds (ps := ["point"]) fun _ _ _ _ _ _ us hl => match us, hl with | [_], _ => rfl
  have FG := fun_mk (st := sGcd) lG cG kG
  have bG := FG.binds (ps := ["one", "other"]) fun _ _ _ _ _ _ us hl => match us, hl with | [_, _], _ => rfl
  have FDr := fun_mk (st := sAsDir) lDr cDr kDr
  have bDr := FDr.binds (ps := ["thing"]) fun _ _ _ _ _ _ us hl => match us, hl with | [_], _ => rfl
  have FL := fun_mk (st := sLow) lL cL kL
  have bL := FL.binds (ps := ["direction"]) fun _ _ _ _ _ _ us hl => match us, hl with | [_], _ => rfl
  have FX := fun_mk (st := sCross) lX cX kX
  have bX := FX.binds (ps := ["self", "other"]) fun _ _ _ _ _ _ us hl => match us, hl with | [_, _], _ => rfl
  have FId := fun_mk (st := sIsDir) lId cId kId
  have bId := FId.binds (ps := ["thing"]) fun _ _ _ _ _ _ us hl => match us, hl with | [_], _ => rfl
  have FHI := fun_mk (st := sHInit) lHI cHI kHI
  have bHI := FHI.binds (ps := ["self", "way", "ahead"]) fun _ _ _ _ _ _ us hl => match us, hl with | [_, _, _], _ => rfl
  have FWG := fun_mk (st := sWayG) lWG cWG kWG
  have bWG := FWG.binds (ps := ["self"]) fun _ _ _ _ _ _ us hl => match us, hl with | [_], _ => rfl
  have FWS := fun_mk (st := sWayS) lWS cWS kWS
  have bWS := FWS.binds (ps := ["self", "value"]) fun _ _ _ _ _ _ us hl => match us, hl with | [_, _], _ => rfl
  have FAG := fun_mk (st := sAhG) lAG cAG kAG
  have bAG := FAG.binds (ps := ["self"]) fun _ _ _ _ _ _ us hl => match us, hl with | [_], _ => rfl
  have FAS := fun_mk (st := sAhS) lAS cAS kAS
  have bAS := FAS.binds (ps := ["self", "value"]) fun _ _ _ _ _ _ us hl => match us, hl with | [_, _], _ => rfl
  have FHs := fun_mk (st := sHas) lHs cHs kHs
  have bHs := FHs.binds (ps := ["self", "way"]) fun _ _ _ _ _ _ us hl => match us, hl with | [_, _], _ => rfl
  have FCl := fun_mk (st := sCall) lCl cCl kCl
  have bCl := FCl.binds (ps := ["self", "direction"]) fun _ _ _ _ _ _ us hl => match us, hl with | [_, _], _ => rfl
  have FHE := fun_mk (st := sHEq) lHE cHE kHE
  have bHE := FHE.binds (ps := ["self", "other"]) fun _ _ _ _ _ _ us hl => match us, hl with | [_, _], _ => rfl
  have FTI := fun_mk (st := sTInit) lTI cTI kTI
  have bTI := FTI.binds (ps := ["self", "a", "b", "c"]) fun _ _ _ _ _ _ us hl => match us, hl with | [_, _, _, _], _ => rfl
  have FCo := fun_mk (st := sCorners) lCo cCo kCo
  have bCo := FCo.binds (ps := ["self"]) fun _ _ _ _ _ _ us hl => match us, hl with | [_], _ => rfl
  have FEd := fun_mk (st := sEdges) lEd cEd kEd
  have bEd := FEd.binds (ps := ["self"]) fun _ _ _ _ _ _ us hl => match us, hl with | [_], _ => rfl
  have FAr := fun_mk (st := sArea) lAr cAr kAr
  have bAr := FAr.binds (ps := ["self"]) fun _ _ _ _ _ _ us hl => match us, hl with | [_], _ => rfl
  have FMv := fun_mk (st := sMoved) lMv cMv kMv
  have bMv := FMv.binds (ps := ["self", "by"]) fun _ _ _ _ _ _ us hl => match us, hl with | [_, _], _ => rfl
  have FEq := fun_mk (st := sEq) lEq cEq kEq
  have bEq := FEq.binds (ps := ["self", "other"]) fun _ _ _ _ _ _ us hl => match us, hl with | [_, _], _ => rfl
  have FAd := fun_mk (st := sAdd) lAd cAd kAd
  have bAd := FAd.binds (ps := ["self", "other"]) fun _ _ _ _ _ _ us hl => match us, hl with | [_, _], _ => rfl
  have FSb := fun_mk (st := sSub) lSb cSb kSb
  have bSb := FSb.binds (ps := ["self", "other"]) fun _ _ _ _ _ _ us hl => match us, hl with | [_, _], _ => rfl
  have FM := fun_mk (st := sMul) lM cM kM
  have bM := FM.binds (ps := ["self", "other"]) fun _ _ _ _ _ _ us hl => match us, hl with | [_, _], _ => rfl
  have FPm := fun_mk (st := sPairM) lPm cPm kPm
  have bPm := FPm.binds (ps := ["self"]) fun _ _ _ _ _ _ us hl => match us, hl with | [_], _ => rfl
  have FSh := fun_mk (st := sShift) lSh cSh kSh
  have bSh := FSh.binds (ps := ["half"]) fun _ _ _ _ _ _ us hl => match us, hl with | [_], _ => rfl
  have FOs := fun_mk (st := sOwnsS) lOs cOs kOs
  have bOs := FOs.binds (ps := ["half", "triangle", "point", "scale"]) fun _ _ _ _ _ _ us hl => match us, hl with | [_, _, _, _], _ => rfl
  have FSc := fun_mk (st := sScale) lSc cSc kSc
  have bSc := FSc.binds (ps := ["half", "triangle", "point"]) fun _ _ _ _ _ _ us hl => match us, hl with | [_, _, _], _ => rfl
  have FOw := fun_mk (st := sOwns) lOw cOw kOw
  have bOw := FOw.binds (ps := ["rule", "triangle", "point"]) fun _ _ _ _ _ _ us hl => match us, hl with | [_, _, _], _ => rfl
  have FIl := fun_mk (st := sIsLeft) lIl cIl kIl
  have bIl := FIl.binds (ps := ["rule", "a", "b", "place"]) fun _ _ _ _ _ _ us hl => match us, hl with | [_, _, _, _], _ => rfl
  have FSp := fun_mk (st := sSetPart) lSp cSp kSp
  have bSp := FSp.binds (ps := ["half", "part", "thing"]) fun _ _ _ _ _ _ us hl => match us, hl with | [_, _, _], _ => rfl
  have FH := fun_mk (st := sHand) lH cH kH
  have bH := FH.binds (ps := ["script", "k"]) fun _ _ _ _ _ _ us hl => match us, hl with | [_, _], _ => rfl
  have FD := fun_mk (st := sDraw) lD cD kD
  have bD := FD.binds (ps := ["pool", "many"]) fun _ _ _ _ _ _ us hl => match us, hl with | [_, _], _ => rfl
  have FPr := fun_mk (st := sPair) lPr cPr kPr
  have bPr := FPr.binds (ps := ["pool", "size_here"]) fun _ _ _ _ _ _ us hl => match us, hl with | [_, _], _ => rfl
  have FLs := fun_mk (st := sLSide) lLs cLs kLs
  have bLs := FLs.binds (ps := ["a", "b", "p"]) fun _ _ _ _ _ _ us hl => match us, hl with | [_, _, _], _ => rfl
  have FCn := fun_mk (st := sCorn) lCn cCn kCn
  have bCn := FCn.binds (ps := ["pool", "size_here"]) fun _ _ _ _ _ _ us hl => match us, hl with | [_, _], _ => rfl
  have FWy := fun_mk (st := sWays) lWy cWy kWy
  have bWy := FWy.binds (ps := ["corners_here"]) fun _ _ _ _ _ _ us hl => match us, hl with | [_], _ => rfl
  have FR := fun_mk (st := sRefused) lR cR kR
  have bR := FR.binds (ps := ["half", "triangle", "scale"]) fun _ _ _ _ _ _ us hl => match us, hl with | [_, _, _], _ => rfl
  have FMW := fun_mk (st := sMW) lMW cMW kMW
  have bMW := FMW.binds (ps := ["corners_here", "p", "first", "second", "scale"]) fun _ _ _ _ _ _ us hl => match us, hl with | [_, _, _, _, _], _ => rfl
  have FPt := fun_mk (st := sPts) lPt cPt kPt
  have bPt := FPt.binds (ps := ["pool", "corners_here"]) fun _ _ _ _ _ _ us hl => match us, hl with | [_, _], _ => rfl
  have FSr := fun_mk (st := sSetRight) lSr cSr kSr
  have bSr := FSr.binds (ps := ["half"]) fun _ _ _ _ _ _ us hl => match us, hl with | [_], _ => rfl
  have FZ := fun_mk (st := sLaw) lZ cZ kZ
  have T : Txt K mg C := ⟨⟨pg, hd, po, sa⟩, nX, nY, PySem.W.mg_of X G aC, PySem.W.mg_none_of X G z_isinstance, PySem.W.mg_none_of X G z_len, PySem.W.mg_none_of X G z_int, PySem.W.mg_none_of X G z_bool, PySem.W.mg_none_of X G z_tuple, ha, hn, htk, hm, kTC, kCC⟩
  have TLm : TxtL mg := ⟨PySem.W.mg_none_of X G z_int, PySem.W.mg_none_of X G z_range, PySem.W.mg_none_of X G z_max, PySem.W.mg_none_of X G z_min, PySem.W.mg_none_of X G z_len⟩
  have Df : Defs K mg C fW fI fP fA fO _ _ _ _ _ := ⟨T, FW, bW, PySem.W.mg_of X G aW, ⟨mk, aI, iI, kc⟩, FI, bI, FP, bP, PySem.W.mg_of X G aP, FA, bA, PySem.W.mg_of X G aA, FO, bO, PySem.W.mg_of X G aO⟩
  have TT : TxtT K mg CT := ⟨⟨pgT, hdT, poT, saT⟩, nTT, PySem.W.mg_of X G aCT, PySem.W.mg_none_of X G z_list, PySem.W.mg_none_of X G z_all, haT, hmT, kLT, kTT⟩
  have Td : TDefs K mg C CT fS fTI fCo fEd fAr fEq fAd pAr _ _ _ _ _ _ _ := ⟨TT, FS, bS, PySem.W.mg_of X G aS, ⟨mkT, aTI, iTI, kcT⟩, FTI, bTI, FCo, bCo, ⟨aCo, iCo, kCo⟩, FEd, bEd, ⟨aEd, iEd, kEd⟩, FAr, bAr, ⟨aAr, gAr, tAr, ⟨_, rAr⟩⟩, FEq, bEq, aEq, iEq, FAd, bAd, ⟨sf, aAd, iAd⟩⟩
  have xtNu : FoX_number.XTxt l.prog K mg CNu gNu := ⟨⟨_, _, _, _, _, _, _, _, _, _, _, _, _, _, _, lCNu, rvNu⟩, saNu, gaNu, ggNu, noNu, inNu, tyNu, kpNu, exNu, tcNu, hdNu, suNu, tpI, PySem.W.mg_none_of X G z_super, veNu, mrNu, tsI, ⟨quNu, msNu, _, _, _, _, _, _, ccNu, cdaNu, _, _, p1Nu, p2Nu, r1Nu, r2Nu, r3Nu, r4Nu, r5Nu, r6Nu, q1Nu, q2Nu, q3Nu, q4Nu, jNu, _, _, _, _, vsNu, _, _, fiNu, tfNu, lgNu, cgNu, lcNu, vfNu, flNu, lnNu, leNu⟩⟩
  have Rt : RTxtN l.prog K mg C CNu gNu CF := ⟨xtNu, PySem.W.mg_of X G aCNu, PySem.W.mg_of X G aCF, emNu, ⟨gaNu, ggNu, exNu, hdNu, caNu, hn, htk, moNu⟩, ksNu, PySem.W.mg_none_of X G z_repr⟩
  have TH : TxtH K mg CH := ⟨⟨pgH, hdH, poH, saH⟩, nHH, nHO, PySem.W.mg_of X G aCH, haH, hmH, kHH, PySem.W.mg_none_of X G z_bool, PySem.W.mg_none_of X G z_isinstance⟩
  have Hd : HDefs K mg C CH fId fHI fWG fWS fAG fAS fHs fCl fEq pW pA _ _ _ _ _ _ _ _ _ := ⟨TH, FId, bId, PySem.W.mg_of X G aId, ⟨mkH, aHI, iHI, kcH⟩, FHI, bHI, FWG, bWG, ⟨apW, gpW, tpW, ⟨_, rpW⟩⟩, FWS, bWS, ⟨kpW, ypW, ⟨_, _, rpW⟩⟩, FAG, bAG, ⟨apA, gpA, tpA, ⟨_, rpA⟩⟩, FAS, bAS, ⟨kpA, ypA, ⟨_, _, rpA⟩⟩, FHs, bHs, ⟨aHs, iHs, kHs⟩, FCl, bCl, ⟨aCl, iCl, fiCl⟩, FEq, bEq, ⟨aEq, iEq, neP, hm, ntP⟩, neCH⟩
  have Ld : DirL K mg C fG fDr fL fX _ _ _ _ := ⟨PySem.W.mg_none_of X G z_abs, FG, bG, PySem.W.mg_of X G aG, FDr, bDr, PySem.W.mg_of X G aDr, FL, bL, PySem.W.mg_of X G aL, FX, bX, ⟨aX, iX, kX⟩⟩
  have Lf : LDefs l.prog K mg C CH CT CNu gNu CF fRm pW pA pAr fId fHI fWG fWS fAG fAS fHs fCl fEq fS fTI fCo fEd fAr fAd fG fDr fL fX fSb fQ fM fSh fOs fSc fOw fIl fSp fHE fMv fPm fH fD fPr fLs fCn fWy fR fMW fPt fSr _ _ _ _ _ _ _ _ _ _ _ _ _ _ _ _ _ _ _ _ _ _ _ _ _ _ _ _ _ _ _ _ _ _ _ _ _ _ _ _ _ := ⟨TLm, Td, Hd, Ld, Rt, PySem.W.mg_none_of X G z_abs, PySem.W.mg_none_of X G z_str, FSb, bSb, ⟨sf, aSb, iSb⟩, FQ, bQ, PySem.W.mg_of X G aQ, FM, bM, ⟨sf, aM, iM, aRm, sbI⟩, FSh, bSh, PySem.W.mg_of X G aSh, FOs, bOs, PySem.W.mg_of X G aOs, FSc, bSc, PySem.W.mg_of X G aSc, FOw, bOw, PySem.W.mg_of X G aOw, FIl, bIl, PySem.W.mg_of X G aIl, FSp, bSp, PySem.W.mg_of X G aSp, FHE, bHE, ⟨aHE, iHE, neH, hmH, ntH⟩, FMv, bMv, ⟨aMv, iMv, kMv⟩, FPm, bPm, ⟨aPm, iPm, kPm⟩, FH, bH, PySem.W.mg_of X G aH, FD, bD, PySem.W.mg_of X G aD, FPr, bPr, PySem.W.mg_of X G aPr, FLs, bLs, PySem.W.mg_of X G aLs, FCn, bCn, PySem.W.mg_of X G aCn, FWy, bWy, PySem.W.mg_of X G aWy, FR, bR, PySem.W.mg_of X G aR, FMW, bMW, PySem.W.mg_of X G aMW, FPt, bPt, PySem.W.mg_of X G aPt, FSr, bSr, PySem.W.mg_of X G aSr⟩
  exact ⟨PySem.W.fnOf "law" "law" (defArgs sLaw) (defBody sLaw) (defScope sLaw) .none kVZ dcZ pmZ anZ cdZ ctZ, fun s v => .of_eq rfl, fun base _ _ => ok_law FZ Df Lf⟩
theorem walk {l : PySem.W.OpenLaw} {q : Program} {loose : List Str} {XP : (Str → Option Value) → Heap → Prop} {YP : World → Heap → Prop} {d : DefRec} {K : Params → PySem.W.Frag} (hn : l.most = some 63) (hdf : d.params.defaults = [])
    (hY : ∀ (w : World) (h : Heap), YP w h → (K w.params).In h)
    (F : ∀ (w : World) (mg : Str → Option Value) (fa : Addr) (h : Heap), (K w.params).In h → h.Ns mainGlobals mg → mg d.name = some (.ref fa) →
      ∃ fd : FuncData, (∀ (s : Shared) (u : Value), BindsTo s fd ⟨[u], []⟩ [("script", u)]) ∧ ∀ base : Heap, (K w.params).In base → base.Ns mainGlobals mg → FnG l.prog w (K w.params) mg base CX0 13 fa fd ["script"] (spLaw (K w.params))) :
    PySem.W.WalkO q loose XP YP l.row.toRowW d [] (fun f vs => PySem.call f vs) :=
  L2.walk_ofG (n := 63) (k := 13) (x := "script") (sp := fun w => spLaw (K w.params)) hn (by decide) hdf ⟨rfl, by decide, by decide⟩ hY F (fun _ _ a ns hl hS => ⟨a, ns, rfl, hS, hl, fun _ => rfl⟩)
end Fo

open PySem PySem.W PyProof.Rows in
set_option maxRecDepth 100000 in
set_option maxHeartbeats 0 in
theorem PySem.Challenge.cw_filledonce_k22_whole_small_shifts_holds : PySem.Challenge.rw_filledonce_k22_whole_small_shifts.Holds := by
  w_on; o_law; k_head; (case hw => w_witness2)
  k_fill
  refine Fo.walk (l := PySem.Challenge.rw_filledonce_k22_whole_small_shifts) rfl rfl (fun w h Y => PySem.W.kIn_of Y) ?F
  case F =>
    intro w mg fa h KX G hmg
    refine' Fo.all_mk KX G hmg ?aC ?aCT ?aCH ?neCH ?aW ?lW ?cW ?kW ?aI ?iI ?lI ?cI ?kI ?aP ?lP ?cP ?kP ?aA ?lA ?cA ?kA ?aO ?lO ?cO ?kO ?aS ?lS ?cS ?kS ?aQ ?lQ ?cQ ?kQ ?aG ?lG ?cG ?kG ?aDr ?lDr ?cDr ?kDr ?aL ?lL ?cL ?kL ?aX ?iX ?lX ?cX ?kX ?aId ?lId ?cId ?kId ?aHI ?iHI ?lHI ?cHI ?kHI ?apW ?gpW ?tpW ?rpW ?kpW ?ypW ?lWG ?cWG ?kWG ?lWS ?cWS ?kWS ?apA ?gpA ?tpA ?rpA ?kpA ?ypA ?lAG ?cAG ?kAG ?lAS ?cAS ?kAS ?aHs ?iHs ?lHs ?cHs ?kHs ?aCl ?iCl ?lCl ?cCl ?kCl ?aHE ?iHE ?lHE ?cHE ?kHE ?aTI ?iTI ?lTI ?cTI ?kTI ?aCo ?iCo ?lCo ?cCo ?kCo ?aEd ?iEd ?lEd ?cEd ?kEd ?aAr ?gAr ?tAr ?rAr ?lAr ?cAr ?kAr ?aMv ?iMv ?lMv ?cMv ?kMv ?aEq ?iEq ?lEq ?cEq ?kEq ?aAd ?iAd ?lAd ?cAd ?kAd ?aSb ?iSb ?lSb ?cSb ?kSb ?aM ?iM ?lM ?cM ?kM ?aPm ?iPm ?lPm ?cPm ?kPm ?aSh ?lSh ?cSh ?kSh ?aOs ?lOs ?cOs ?kOs ?aSc ?lSc ?cSc ?kSc ?aOw ?lOw ?cOw ?kOw ?aIl ?lIl ?cIl ?kIl ?aSp ?lSp ?cSp ?kSp ?aH ?lH ?cH ?kH ?aD ?lD ?cD ?kD ?aPr ?lPr ?cPr ?kPr ?aLs ?lLs ?cLs ?kLs ?aCn ?lCn ?cCn ?kCn ?aWy ?lWy ?cWy ?kWy ?aR ?lR ?cR ?kR ?aMW ?lMW ?cMW ?kMW ?aPt ?lPt ?cPt ?kPt ?aSr ?lSr ?cSr ?kSr ?aZ ?lZ ?cZ ?kZ ?pg ?hd ?po ?sa ?mk ?kc ?nX ?nY ?ha ?hn ?htk ?hm ?kTC ?kCC ?sf ?kNC ?kBC ?kIC ?kSC ?kLC ?pgT ?hdT ?poT ?saT ?mkT ?kcT ?nTT ?haT ?hmT ?kLT ?kTT ?fiCl ?pgH ?hdH ?poH ?saH ?mkH ?kcH ?nHH ?nHO ?haH ?hmH ?kHH ?neH ?ntH ?neP ?ntP ?aRm ?sbI ?z_isinstance ?z_len ?z_int ?z_bool ?z_tuple ?z_range ?z_max ?z_min ?z_list ?z_all ?z_repr ?z_super ?z_abs ?z_str ?aCF ?tpI ?tsI ?aCNu ?lCNu ?rvNu ?saNu ?gaNu ?ggNu ?noNu ?inNu ?tyNu ?kpNu ?exNu ?tcNu ?hdNu ?suNu ?veNu ?mrNu ?lgNu ?cgNu ?lcNu ?vfNu ?flNu ?lnNu ?leNu ?caNu ?moNu ?emNu ?ksNu
    (case aC => first | k_is | rfl | decide +kernel)
    (case aCT => first | k_is | rfl | decide +kernel)
    (case aCH => first | k_is | rfl | decide +kernel)
    (case neCH => first | k_is | rfl | decide +kernel)
    (case aW => first | k_is | rfl | decide +kernel)
    (case lW => first | k_is | rfl | decide +kernel)
    (case cW => first | k_is | rfl | decide +kernel)
    (case kW => first | k_is | rfl | decide +kernel)
    (case aI => first | k_is | rfl | decide +kernel)
    (case iI => first | k_is | rfl | decide +kernel)
    (case lI => first | k_is | rfl | decide +kernel)
    (case cI => first | k_is | rfl | decide +kernel)
    (case kI => first | k_is | rfl | decide +kernel)
    (case aP => first | k_is | rfl | decide +kernel)
    (case lP => first | k_is | rfl | decide +kernel)
    (case cP => first | k_is | rfl | decide +kernel)
    (case kP => first | k_is | rfl | decide +kernel)
    (case aA => first | k_is | rfl | decide +kernel)
    (case lA => first | k_is | rfl | decide +kernel)
    (case cA => first | k_is | rfl | decide +kernel)
    (case kA => first | k_is | rfl | decide +kernel)
    (case aO => first | k_is | rfl | decide +kernel)
    (case lO => first | k_is | rfl | decide +kernel)
    (case cO => first | k_is | rfl | decide +kernel)
    (case kO => first | k_is | rfl | decide +kernel)
    (case aS => first | k_is | rfl | decide +kernel)
    (case lS => first | k_is | rfl | decide +kernel)
    (case cS => first | k_is | rfl | decide +kernel)
    (case kS => first | k_is | rfl | decide +kernel)
    (case aQ => first | k_is | rfl | decide +kernel)
    (case lQ => first | k_is | rfl | decide +kernel)
    (case cQ => first | k_is | rfl | decide +kernel)
    (case kQ => first | k_is | rfl | decide +kernel)
    (case aG => first | k_is | rfl | decide +kernel)
    (case lG => first | k_is | rfl | decide +kernel)
    (case cG => first | k_is | rfl | decide +kernel)
    (case kG => first | k_is | rfl | decide +kernel)
    (case aDr => first | k_is | rfl | decide +kernel)
    (case lDr => first | k_is | rfl | decide +kernel)
    (case cDr => first | k_is | rfl | decide +kernel)
    (case kDr => first | k_is | rfl | decide +kernel)
    (case aL => first | k_is | rfl | decide +kernel)
    (case lL => first | k_is | rfl | decide +kernel)
    (case cL => first | k_is | rfl | decide +kernel)
    (case kL => first | k_is | rfl | decide +kernel)
    (case aX => first | k_is | rfl | decide +kernel)
    (case iX => first | k_is | rfl | decide +kernel)
    (case lX => first | k_is | rfl | decide +kernel)
    (case cX => first | k_is | rfl | decide +kernel)
    (case kX => first | k_is | rfl | decide +kernel)
    (case aId => first | k_is | rfl | decide +kernel)
    (case lId => first | k_is | rfl | decide +kernel)
    (case cId => first | k_is | rfl | decide +kernel)
    (case kId => first | k_is | rfl | decide +kernel)
    (case aHI => first | k_is | rfl | decide +kernel)
    (case iHI => first | k_is | rfl | decide +kernel)
    (case lHI => first | k_is | rfl | decide +kernel)
    (case cHI => first | k_is | rfl | decide +kernel)
    (case kHI => first | k_is | rfl | decide +kernel)
    (case apW => first | k_is | rfl | decide +kernel)
    (case gpW => first | k_is | rfl | decide +kernel)
    (case tpW => first | k_is | rfl | decide +kernel)
    (case rpW => first | k_is | rfl | decide +kernel)
    (case kpW => first | k_is | rfl | decide +kernel)
    (case ypW => first | k_is | rfl | decide +kernel)
    (case lWG => first | k_is | rfl | decide +kernel)
    (case cWG => first | k_is | rfl | decide +kernel)
    (case kWG => first | k_is | rfl | decide +kernel)
    (case lWS => first | k_is | rfl | decide +kernel)
    (case cWS => first | k_is | rfl | decide +kernel)
    (case kWS => first | k_is | rfl | decide +kernel)
    (case apA => first | k_is | rfl | decide +kernel)
    (case gpA => first | k_is | rfl | decide +kernel)
    (case tpA => first | k_is | rfl | decide +kernel)
    (case rpA => first | k_is | rfl | decide +kernel)
    (case kpA => first | k_is | rfl | decide +kernel)
    (case ypA => first | k_is | rfl | decide +kernel)
    (case lAG => first | k_is | rfl | decide +kernel)
    (case cAG => first | k_is | rfl | decide +kernel)
    (case kAG => first | k_is | rfl | decide +kernel)
    (case lAS => first | k_is | rfl | decide +kernel)
    (case cAS => first | k_is | rfl | decide +kernel)
    (case kAS => first | k_is | rfl | decide +kernel)
    (case aHs => first | k_is | rfl | decide +kernel)
    (case iHs => first | k_is | rfl | decide +kernel)
    (case lHs => first | k_is | rfl | decide +kernel)
    (case cHs => first | k_is | rfl | decide +kernel)
    (case kHs => first | k_is | rfl | decide +kernel)
    (case aCl => first | k_is | rfl | decide +kernel)
    (case iCl => first | k_is | rfl | decide +kernel)
    (case lCl => first | k_is | rfl | decide +kernel)
    (case cCl => first | k_is | rfl | decide +kernel)
    (case kCl => first | k_is | rfl | decide +kernel)
    (case aHE => first | k_is | rfl | decide +kernel)
    (case iHE => first | k_is | rfl | decide +kernel)
    (case lHE => first | k_is | rfl | decide +kernel)
    (case cHE => first | k_is | rfl | decide +kernel)
    (case kHE => first | k_is | rfl | decide +kernel)
    (case aTI => first | k_is | rfl | decide +kernel)
    (case iTI => first | k_is | rfl | decide +kernel)
    (case lTI => first | k_is | rfl | decide +kernel)
    (case cTI => first | k_is | rfl | decide +kernel)
    (case kTI => first | k_is | rfl | decide +kernel)
    (case aCo => first | k_is | rfl | decide +kernel)
    (case iCo => first | k_is | rfl | decide +kernel)
    (case lCo => first | k_is | rfl | decide +kernel)
    (case cCo => first | k_is | rfl | decide +kernel)
    (case kCo => first | k_is | rfl | decide +kernel)
    (case aEd => first | k_is | rfl | decide +kernel)
    (case iEd => first | k_is | rfl | decide +kernel)
    (case lEd => first | k_is | rfl | decide +kernel)
    (case cEd => first | k_is | rfl | decide +kernel)
    (case kEd => first | k_is | rfl | decide +kernel)
    (case aAr => first | k_is | rfl | decide +kernel)
    (case gAr => first | k_is | rfl | decide +kernel)
    (case tAr => first | k_is | rfl | decide +kernel)
    (case rAr => first | k_is | rfl | decide +kernel)
    (case lAr => first | k_is | rfl | decide +kernel)
    (case cAr => first | k_is | rfl | decide +kernel)
    (case kAr => first | k_is | rfl | decide +kernel)
    (case aMv => first | k_is | rfl | decide +kernel)
    (case iMv => first | k_is | rfl | decide +kernel)
    (case lMv => first | k_is | rfl | decide +kernel)
    (case cMv => first | k_is | rfl | decide +kernel)
    (case kMv => first | k_is | rfl | decide +kernel)
    (case aEq => first | k_is | rfl | decide +kernel)
    (case iEq => first | k_is | rfl | decide +kernel)
    (case lEq => first | k_is | rfl | decide +kernel)
    (case cEq => first | k_is | rfl | decide +kernel)
    (case kEq => first | k_is | rfl | decide +kernel)
    (case aAd => first | k_is | rfl | decide +kernel)
    (case iAd => first | k_is | rfl | decide +kernel)
    (case lAd => first | k_is | rfl | decide +kernel)
    (case cAd => first | k_is | rfl | decide +kernel)
    (case kAd => first | k_is | rfl | decide +kernel)
    (case aSb => first | k_is | rfl | decide +kernel)
    (case iSb => first | k_is | rfl | decide +kernel)
    (case lSb => first | k_is | rfl | decide +kernel)
    (case cSb => first | k_is | rfl | decide +kernel)
    (case kSb => first | k_is | rfl | decide +kernel)
    (case aM => first | k_is | rfl | decide +kernel)
    (case iM => first | k_is | rfl | decide +kernel)
    (case lM => first | k_is | rfl | decide +kernel)
    (case cM => first | k_is | rfl | decide +kernel)
    (case kM => first | k_is | rfl | decide +kernel)
    (case aPm => first | k_is | rfl | decide +kernel)
    (case iPm => first | k_is | rfl | decide +kernel)
    (case lPm => first | k_is | rfl | decide +kernel)
    (case cPm => first | k_is | rfl | decide +kernel)
    (case kPm => first | k_is | rfl | decide +kernel)
    (case aSh => first | k_is | rfl | decide +kernel)
    (case lSh => first | k_is | rfl | decide +kernel)
    (case cSh => first | k_is | rfl | decide +kernel)
    (case kSh => first | k_is | rfl | decide +kernel)
    (case aOs => first | k_is | rfl | decide +kernel)
    (case lOs => first | k_is | rfl | decide +kernel)
    (case cOs => first | k_is | rfl | decide +kernel)
    (case kOs => first | k_is | rfl | decide +kernel)
    (case aSc => first | k_is | rfl | decide +kernel)
    (case lSc => first | k_is | rfl | decide +kernel)
    (case cSc => first | k_is | rfl | decide +kernel)
    (case kSc => first | k_is | rfl | decide +kernel)
    (case aOw => first | k_is | rfl | decide +kernel)
    (case lOw => first | k_is | rfl | decide +kernel)
    (case cOw => first | k_is | rfl | decide +kernel)
    (case kOw => first | k_is | rfl | decide +kernel)
    (case aIl => first | k_is | rfl | decide +kernel)
    (case lIl => first | k_is | rfl | decide +kernel)
    (case cIl => first | k_is | rfl | decide +kernel)
    (case kIl => first | k_is | rfl | decide +kernel)
    (case aSp => first | k_is | rfl | decide +kernel)
    (case lSp => first | k_is | rfl | decide +kernel)
    (case cSp => first | k_is | rfl | decide +kernel)
    (case kSp => first | k_is | rfl | decide +kernel)
    (case aH => first | k_is | rfl | decide +kernel)
    (case lH => first | k_is | rfl | decide +kernel)
    (case cH => first | k_is | rfl | decide +kernel)
    (case kH => first | k_is | rfl | decide +kernel)
    (case aD => first | k_is | rfl | decide +kernel)
    (case lD => first | k_is | rfl | decide +kernel)
    (case cD => first | k_is | rfl | decide +kernel)
    (case kD => first | k_is | rfl | decide +kernel)
    (case aPr => first | k_is | rfl | decide +kernel)
    (case lPr => first | k_is | rfl | decide +kernel)
    (case cPr => first | k_is | rfl | decide +kernel)
    (case kPr => first | k_is | rfl | decide +kernel)
    (case aLs => first | k_is | rfl | decide +kernel)
    (case lLs => first | k_is | rfl | decide +kernel)
    (case cLs => first | k_is | rfl | decide +kernel)
    (case kLs => first | k_is | rfl | decide +kernel)
    (case aCn => first | k_is | rfl | decide +kernel)
    (case lCn => first | k_is | rfl | decide +kernel)
    (case cCn => first | k_is | rfl | decide +kernel)
    (case kCn => first | k_is | rfl | decide +kernel)
    (case aWy => first | k_is | rfl | decide +kernel)
    (case lWy => first | k_is | rfl | decide +kernel)
    (case cWy => first | k_is | rfl | decide +kernel)
    (case kWy => first | k_is | rfl | decide +kernel)
    (case aR => first | k_is | rfl | decide +kernel)
    (case lR => first | k_is | rfl | decide +kernel)
    (case cR => first | k_is | rfl | decide +kernel)
    (case kR => first | k_is | rfl | decide +kernel)
    (case aMW => first | k_is | rfl | decide +kernel)
    (case lMW => first | k_is | rfl | decide +kernel)
    (case cMW => first | k_is | rfl | decide +kernel)
    (case kMW => first | k_is | rfl | decide +kernel)
    (case aPt => first | k_is | rfl | decide +kernel)
    (case lPt => first | k_is | rfl | decide +kernel)
    (case cPt => first | k_is | rfl | decide +kernel)
    (case kPt => first | k_is | rfl | decide +kernel)
    (case aSr => first | k_is | rfl | decide +kernel)
    (case lSr => first | k_is | rfl | decide +kernel)
    (case cSr => first | k_is | rfl | decide +kernel)
    (case kSr => first | k_is | rfl | decide +kernel)
    (case aZ => first | k_is | rfl | decide +kernel)
    (case lZ => first | k_is | rfl | decide +kernel)
    (case cZ => first | k_is | rfl | decide +kernel)
    (case kZ => first | k_is | rfl | decide +kernel)
    (case pg => first | k_is | rfl | decide +kernel)
    (case hd => first | k_is | rfl | decide +kernel)
    (case po => first | k_is | rfl | decide +kernel)
    (case sa => first | k_is | rfl | decide +kernel)
    (case mk => first | k_is | rfl | decide +kernel)
    (case kc => first | k_is | rfl | decide +kernel)
    (case nX => first | k_is | rfl | decide +kernel)
    (case nY => first | k_is | rfl | decide +kernel)
    (case ha => first | k_is | rfl | decide +kernel)
    (case hn => first | k_is | rfl | decide +kernel)
    (case htk => first | k_is | rfl | decide +kernel)
    (case hm => first | k_is | rfl | decide +kernel)
    (case kTC => first | k_is | rfl | decide +kernel)
    (case kCC => first | k_is | rfl | decide +kernel)
    (case sf => first | k_is | rfl | decide +kernel)
    (case kNC => first | k_is | rfl | decide +kernel)
    (case kBC => first | k_is | rfl | decide +kernel)
    (case kIC => first | k_is | rfl | decide +kernel)
    (case kSC => first | k_is | rfl | decide +kernel)
    (case kLC => first | k_is | rfl | decide +kernel)
    (case pgT => first | k_is | rfl | decide +kernel)
    (case hdT => first | k_is | rfl | decide +kernel)
    (case poT => first | k_is | rfl | decide +kernel)
    (case saT => first | k_is | rfl | decide +kernel)
    (case mkT => first | k_is | rfl | decide +kernel)
    (case kcT => first | k_is | rfl | decide +kernel)
    (case nTT => first | k_is | rfl | decide +kernel)
    (case haT => first | k_is | rfl | decide +kernel)
    (case hmT => first | k_is | rfl | decide +kernel)
    (case kLT => first | k_is | rfl | decide +kernel)
    (case kTT => first | k_is | rfl | decide +kernel)
    (case fiCl => first | k_is | rfl | decide +kernel)
    (case pgH => first | k_is | rfl | decide +kernel)
    (case hdH => first | k_is | rfl | decide +kernel)
    (case poH => first | k_is | rfl | decide +kernel)
    (case saH => first | k_is | rfl | decide +kernel)
    (case mkH => first | k_is | rfl | decide +kernel)
    (case kcH => first | k_is | rfl | decide +kernel)
    (case nHH => first | k_is | rfl | decide +kernel)
    (case nHO => first | k_is | rfl | decide +kernel)
    (case haH => first | k_is | rfl | decide +kernel)
    (case hmH => first | k_is | rfl | decide +kernel)
    (case kHH => first | k_is | rfl | decide +kernel)
    (case neH => first | k_is | rfl | decide +kernel)
    (case ntH => first | k_is | rfl | decide +kernel)
    (case neP => first | k_is | rfl | decide +kernel)
    (case ntP => first | k_is | rfl | decide +kernel)
    (case aRm => first | k_is | rfl | decide +kernel)
    (case sbI => first | k_is | rfl | decide +kernel)
    (case z_isinstance => first | k_is | rfl | decide +kernel)
    (case z_len => first | k_is | rfl | decide +kernel)
    (case z_int => first | k_is | rfl | decide +kernel)
    (case z_bool => first | k_is | rfl | decide +kernel)
    (case z_tuple => first | k_is | rfl | decide +kernel)
    (case z_range => first | k_is | rfl | decide +kernel)
    (case z_max => first | k_is | rfl | decide +kernel)
    (case z_min => first | k_is | rfl | decide +kernel)
    (case z_list => first | k_is | rfl | decide +kernel)
    (case z_all => first | k_is | rfl | decide +kernel)
    (case z_repr => first | k_is | rfl | decide +kernel)
    (case z_super => first | k_is | rfl | decide +kernel)
    (case z_abs => first | k_is | rfl | decide +kernel)
    (case z_str => first | k_is | rfl | decide +kernel)
    (case aCF => first | k_is | rfl | decide +kernel)
    (case tpI => first | k_is | rfl | decide +kernel)
    (case tsI => first | k_is | rfl | decide +kernel)
    (case aCNu => first | k_is | rfl | decide +kernel)
    (case lCNu => first | k_is | rfl | decide +kernel)
    (case rvNu => first | k_is | rfl | decide +kernel)
    (case saNu => first | k_is | rfl | decide +kernel)
    (case gaNu => first | k_is | rfl | decide +kernel)
    (case ggNu => first | k_is | rfl | decide +kernel)
    (case noNu => first | k_is | rfl | decide +kernel)
    (case inNu => first | k_is | rfl | decide +kernel)
    (case tyNu => first | k_is | rfl | decide +kernel)
    (case kpNu => first | k_is | rfl | decide +kernel)
    (case exNu => first | k_is | rfl | decide +kernel)
    (case tcNu => first | k_is | rfl | decide +kernel)
    (case hdNu => first | k_is | rfl | decide +kernel)
    (case suNu => first | k_is | rfl | decide +kernel)
    (case veNu => first | k_is | rfl | decide +kernel)
    (case mrNu => first | k_is | rfl | decide +kernel)
    (case lgNu => first | k_is | rfl | decide +kernel)
    (case cgNu => first | k_is | rfl | decide +kernel)
    (case lcNu => first | k_is | rfl | decide +kernel)
    (case vfNu => first | k_is | rfl | decide +kernel)
    (case flNu => first | k_is | rfl | decide +kernel)
    (case lnNu => first | k_is | rfl | decide +kernel)
    (case leNu => first | k_is | rfl | decide +kernel)
    (case caNu => first | k_is | rfl | decide +kernel)
    (case moNu => first | k_is | rfl | decide +kernel)
    (case emNu => first | k_is | rfl | decide +kernel)
    (case ksNu => first | k_is | rfl | decide +kernel)
#print axioms PySem.Challenge.cw_filledonce_k22_whole_small_shifts_holds
