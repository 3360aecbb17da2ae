import PyProof.Rows.All
import Wide.All
import OpenK.AllK
import Wide.FinOn
import HandS.ForMost
import HandS.Wide
import HandS.IsInst
import HandS.Deep
import HandS.Strs
import HandS.ForExc
import PyProof.ReprRoads
import PyProof.CallFns
import KE.KExcIs
import HandS.Exc
import KE.KExcSuper
import HandS.ExcCtx
import HandS.HotCalls
import HandS.Hot
import HandS.OwnEq
import HandS.NoneIn
import HandS.Evl
import HandS.More
import HandS.Style
import HandS.Property
import PySem.Challenge.RW_filledonce_k15_triangles
set_option Elab.async false
set_option linter.all false
set_option maxRecDepth 100000
set_option maxHeartbeats 2000000
/-! own binary operators over the hand layer -/
namespace FoOps
open PySem PySem.W PyProof.Rows
section
variable {prog : Program} {w : World} {A : Around} {E : Value → Shared → Prop} {s : Shared} {K : Frag} {x C L f : Addr} {h₀ : Heap} {m : Str → Option Value} {ox : Obj} {od : Option Obj}
theorem tup_add : fillsNumberSlot (.type "tuple") "add" = pure false := by
  unfold fillsNumberSlot
  simp only [typeLookup_type, builtinLookup_eq_fast]
  kernel_rfl
theorem tup_sub : fillsNumberSlot (.type "tuple") "sub" = pure false := by
  unfold fillsNumberSlot
  simp only [typeLookup_type, builtinLookup_eq_fast]
  kernel_rfl
theorem binop_KT {op : Operator} {b : Value} {T : String} {Q : Value → Shared → Prop} (X : K.In s.heap) (I : InstAt s.heap x ox C od) (hT : s.TypeIs b T)
    (hfl : fillsNumberSlot (.type T) op.info.2 = pure false) (hc : selfFirst K C = true)
    (hs : findIn K (.ref C) (PySem.dunder op.info.2) = some (some (.ref f))) (hf : isFn K (.ref f) = true)
    (h : wpAny (model prog w) A (call (.ref f) [.ref x, b]) (PySem.W.CmpBack Q) E s) : wpAny (model prog w) A (binaryOp op (.ref x) b) Q E s := by
  obtain ⟨cd, hcd, hm⟩ := any_some hc
  obtain ⟨rest, hm⟩ : ∃ rest, cd.mro = .ref C :: rest := by
    cases q : cd.mro with
    | nil => rw [q] at hm; cases hm
    | cons a r => rw [q] at hm; exact ⟨r, by rw [List.head?_cons] at hm; cases (beq_iff_eq.mp hm); rfl⟩
  unfold binaryOp
  refine wpAny_holding (wpAny_bind ?_)
  unfold binaryOp1
  refine wpAny_bind (I.type.here (wpAny_bind (wpAny_typeOf hT (wpAny_bind ((fills_K X hcd hm hs).here ?_)))))
  have e : (Value.ref C == Value.type T) = false := by simp
  simp only [e, Bool.false_eq_true, if_false]
  refine wpAny_bind (wpAny_of_eq hfl ?_)
  simp only [Bool.and_false, Bool.false_eq_true, if_false, Bool.false_and, if_true]
  refine wpAny_bind (wpAny_pure ?_)
  simp only [Bool.false_eq_true, if_false]
  refine wpAny_bind (m := tryMethod (.ref x) _ b) ?_
  unfold tryMethod
  refine wpAny_bind (special_fn X I hs (beq_iff_eq.mp hf) (wpAny_mono h (fun v s' hv => ?_) fun _ _ e => e))
  cases v <;> first | exact hv.elim | exact wpAny_pure (wpAny_pure (wpAny_pure hv))
end
end FoOps

namespace L2
open PySem PySem.Spec PyProof.Rows
/-- an own class whose operator nm is the def at f -/
structure OwnOp (K : PySem.W.Frag) (C : Addr) (op : Operator) (f : Addr) : Prop where
  sf : PySem.W.selfFirst K C = true
  at_ : PySem.W.findIn K (.ref C) (PySem.dunder op.info.2) = some (some (.ref f))
  fn : PySem.W.isFn K (.ref f) = true
/-- a op b, a an instance of the class at C, b one too or a tracked tuple -/
def rOwnOp (C : Addr) (sp : Sp) (E : XK) : R2 := fun x y H Q => ∃ a dx fs, x = .ref a ∧ H a = some (.ins C dx fs) ∧
  ((∃ b dy gs, y = .ref b ∧ H b = some (.ins C dy gs)) ∨ ∃ b xs, y = .ref b ∧ H b = some (.tup xs)) ∧ sp [x, y] H Q E
section
variable {X : Cx} {CX : CXT} {k : Nat} {f C : Addr} {fd : FuncData} {ps : List Str} {sp : Sp} {E : XK}
theorem not_ni {z : V} {v : Value} (r : RelV z v) : v ≠ .notImplemented := by
  intro e
  subst e
  cases z <;> first | (cases r; done) | (obtain ⟨_, r⟩ := r; cases r)
theorem cmpBack_of {Q : Value → Shared → Prop} {v : Value} {s : Shared} (hn : v ≠ .notImplemented) (h : Q v s) : PySem.W.CmpBack Q v s := by
  cases v <;> first | exact h | exact absurd rfl hn
theorem op_own {op : Operator} (O : OwnOp X.K C op f) (hfl : fillsNumberSlot (.type "tuple") op.info.2 = pure false) (F : FnOk X.prog X.w X.K X.mg X.base CX k f fd ps sp) (hr : Room k X.A) (hb : Binds X.K fd ps []) (hx : Passes CX X E) :
    OpR X (binaryOp op) (rOwnOp C sp E) := by
  intro pins s σ H x y v u Q I rx ry h
  obtain ⟨a, dx, fs, rfl, ha, hy, q⟩ := h
  obtain rfl : v = Value.ref a := rx
  obtain ⟨mA, J, _⟩ := ins_get I.hok ha
  obtain ⟨od, J, _⟩ := J.look
  obtain ⟨m, hF⟩ := I.fr
  have run : wpAny (model X.prog X.w) X.A (call (.ref f) [.ref a, u]) (PySem.W.CmpBack (EP X pins σ Q)) X.xe s := by
    refine wpAny_mono (run_fn (us := [.ref a, u]) (vs := [.ref a, y]) F hr hb .nil hx I (.cons rfl (.cons ry .nil)) q) (fun r s' z => ?_) fun _ _ z => z
    obtain ⟨z1, H1, I1, rz, qz⟩ := z
    exact cmpBack_of (not_ni rz) ⟨z1, H1, I1, rz, qz⟩
  rcases hy with ⟨b, dy, gs, rfl, hb'⟩ | ⟨b, xs, rfl, hb'⟩
  · obtain rfl : u = Value.ref b := ry
    obtain ⟨mB, J', _⟩ := ins_get I.hok hb'
    obtain ⟨od', J', _⟩ := J'.look
    exact PySem.W.binop_K hF I.ok.mod.kin J J'.type O.sf O.at_ O.fn run
  · obtain rfl : u = Value.ref b := ry
    obtain ⟨_, _, _, o, h1, h2, _⟩ := (show ObjOk X.prog X.w H s.heap b (.tup xs) from I.hok b _ hb')
    exact FoOps.binop_KT I.kIn J ⟨o, h1, h2⟩ hfl O.sf O.at_ O.fn run
end
end L2
set_option Elab.async false
set_option linter.all false
set_option maxRecDepth 100000
set_option maxHeartbeats 2000000
/-! != by an own __eq__, t.index of data -/
namespace FoOps
open PySem PySem.W PyProof.Rows
theorem slot_ne : Slot "object" "__ne__" "object.__ne__" :=
  .of (owner := "object") (n := "__ne__") (by rw [typeLookup_type, builtinLookup_eq_fast]; kernel_rfl) (by decide +kernel) (by decide +kernel) (by decide +kernel)
    (by first | exact .inl (by decide +kernel) | exact .inr (by decide +kernel)) (by rw [isSubtype_type]; kernel_rfl)
section
variable {prog : Program} {w : World} {A : Around} {E : Value → Shared → Prop} {s : Shared} {K : Frag} {x C f : Addr} {ox : Obj} {od : Option Obj} {b : Value}
theorem ne_entry {Q : Fin → Shared → Prop} (X : K.In s.heap) (I : InstAt s.heap x ox C od) (hu : A.units < cLine) (hs : findIn K (.ref C) "__eq__" = some (some (.ref f))) (hf : isFn K (.ref f) = true)
    (h : wpAny (model prog w) A (call (.ref f) [.ref x, b]) (fun v s' => ∃ k, v = .bool k ∧ Q (.done (.ret (.bool (!k)))) s') E s) :
    wpAny (model prog w) A (Builtin.«object.__ne__» ⟨[.ref x, b], []⟩) Q E s := by
  unfold Builtin.«object.__ne__»
  repeat (first
    | with_reducible refine wpAny_cRoomFor hu ?_
    | (refine wpAny_bind (m := callSpecialIfBound? (.ref x) (Str.ofString "__eq__") [b])
        (PySem.W.ifBound_K X I hs hf (wpAny_mono h (fun r s' hr => by
          obtain ⟨k, rfl, hq⟩ := hr
          repeat (first | exact hq | exact wpAny_pure hq | exact wpAny_truthy_bool hq | (refine wpAny_bind (m := truthy (.bool _)) (wpAny_truthy_bool ?_)) | wp_step)) fun _ _ e => e)))
    | wp_step)
theorem ne_own {Q : Value → Shared → Prop} (X : K.In s.heap) (I : InstAt s.heap x ox C od) (hb : Looks (model prog w) s.heap (typeOf b) (.ref C)) (hu : A.units + 1 < cLine)
    (hne : findIn K (.ref C) "__ne__" = some (some (.builtin "object.__ne__"))) (hs : findIn K (.ref C) "__eq__" = some (some (.ref f))) (hf : isFn K (.ref f) = true) (hm : mroIn K C (.type "object") = some true)
    (h : wpAny (model prog w) A.in1 (call (.ref f) [.ref x, b]) (fun v s' => ∃ k, v = .bool k ∧ Q (.bool (!k)) s') E s) : wpAny (model prog w) A (richCompare .NotEq (.ref x) b) Q E s := by
  have sub : Looks (model prog w) s.heap (isInstance (.ref x) (.type "object")) true := I.type.andThen (looks_mroIn X hm)
  have one : wpAny (model prog w) A (tryCompare (.ref x) "__ne__" b) (fun r s' => ∃ v, r = some v ∧ Q v s') E s := by
    unfold tryCompare
    refine wpAny_bind ?_
    simp only [callSpecialIfBound?, bindSpecialIfBound?]
    refine wpAny_holding (wpAny_bind (wpAny_bind (wpAny_bind (I.type.here ((looks_findIn X hne).here ?_)))))
    refine wpAny_bind (wpAny_askSetting (wpAny_ite ?_))
    have fin : wpAny (model prog w) A (call (.builtin "object.__ne__") [.ref x, b]) (fun v s' => ∃ k, v = .bool k ∧ Q (.bool k) s') E s := by
      refine wpAny_call (codeAny_call_builtin slot_ne.plain F.cmpEntry_ne (check_slot F.cmpKind_ne F.cmpSplit_ne sub (F.cmpArgs_ne _ _) ?_))
      refine ne_entry (A := A.in1) X I hu hs hf (wpAny_mono h (fun v s' hv => ?_) fun _ _ z => z)
      obtain ⟨k, rfl, q⟩ := hv
      exact ⟨k, rfl, !k, rfl, q⟩
    have fin2 : wpAny (model prog w) A (call (.builtin "object.__ne__") ([.ref x] ++ [b]) >>= fun v => pure (some v)) (fun a s₁ => wpAny (model prog w) A (match a with | some .notImplemented | none => pure none | some v => pure (some v)) (fun r s' => ∃ v, r = some v ∧ Q v s') E s₁) E s := by
      refine wpAny_bind (wpAny_mono fin (fun v s' hv => ?_) fun _ _ z => z)
      obtain ⟨k, rfl, q⟩ := hv
      exact wpAny_pure (wpAny_pure ⟨_, rfl, q⟩)
    have hbind : bindSpecial (.builtin "object.__ne__") (.ref x) = pure (.builtin "object.__ne__", [.ref x]) := slot_ne.bind _
    split
    · exact wpAny_bind (wpAny_of_eq hbind (wpAny_pure (by exact fin2)))
    · exact wpAny_tryCatch (wpAny_bind (wpAny_of_eq hbind (wpAny_pure (by exact fin2))))
  unfold richCompare
  simp only [oneThing_ref]
  refine wpAny_holding (wpAny_bind (wpAny_cRoomFor (by omega) ?_))
  refine wpAny_bind (I.type.here (wpAny_bind (hb.here ?_)))
  simp only [bne_self_eq_false, Bool.false_eq_true, if_false]
  refine wpAny_bind (wpAny_pure ?_)
  simp only [Bool.false_eq_true, if_false]
  refine wpAny_bind (wpAny_mono one (fun r s' z => ?_) fun _ _ e => e)
  obtain ⟨v, rfl, hq⟩ := z
  exact wpAny_pure hq
end
end FoOps
namespace L2
open PySem PySem.Spec PyProof.Rows
/-- an own class with an own __eq__ at f, and no __ne__ -/
structure OwnEqC (K : PySem.W.Frag) (C f : Addr) : Prop where
  eq : PySem.W.findIn K (.ref C) "__eq__" = some (some (.ref f))
  fn : PySem.W.isFn K (.ref f) = true
  ne : PySem.W.findIn K (.ref C) "__ne__" = some (some (.builtin "object.__ne__"))
  mo : PySem.W.mroIn K C (.type "object") = some true
  nt : PySem.W.notFirst K C (.type "tuple") = true
def rOwnEq (C : Addr) (sp : Sp) (E : XK) : R2 := fun x y H Q => ∃ a dx fs, x = .ref a ∧ H a = some (.ins C dx fs) ∧
  ((∃ b dy gs, y = .ref b ∧ H b = some (.ins C dy gs)) ∨ ∃ b xs, y = .ref b ∧ H b = some (.tup xs)) ∧ sp [x, y] H Q E
def rOwnNe (C : Addr) (sp : Sp) (E : XK) : R2 := fun x y H Q => ∃ a dx fs b dy gs, x = .ref a ∧ H a = some (.ins C dx fs) ∧ y = .ref b ∧ H b = some (.ins C dy gs) ∧
  sp [x, y] H (fun v H' => ∃ k, v = .bl k ∧ Q (.bl (!k)) H') E
section
variable {X : Cx} {CX : CXT} {k : Nat} {f C : Addr} {fd : FuncData} {ps : List Str} {sp : Sp} {E : XK}
theorem op_ownEq (O : OwnEqC X.K C f) (F : FnOk X.prog X.w X.K X.mg X.base CX k f fd ps sp) (hr : Room k X.A) (hb : Binds X.K fd ps []) (hx : Passes CX X E) :
    OpR X (compareOp .Eq) (rOwnEq C sp E) := by
  intro pins s σ H x y v u Q I rx ry h
  obtain ⟨a, dx, fs, rfl, ha, hy, q⟩ := h
  obtain rfl : v = Value.ref a := rx
  obtain ⟨mA, J, _⟩ := ins_get I.hok ha
  obtain ⟨od, J, _⟩ := J.look
  obtain ⟨m, hF⟩ := I.fr
  have run : wpAny (model X.prog X.w) X.A (call (.ref f) [.ref a, u]) (PySem.W.CmpBack (EP X pins σ Q)) X.xe s := by
    refine wpAny_mono (run_fn (us := [.ref a, u]) (vs := [.ref a, y]) F hr hb .nil hx I (.cons rfl (.cons ry .nil)) q) (fun r s' z => ?_) fun _ _ z => z
    obtain ⟨z1, H1, I1, rz, qz⟩ := z
    exact cmpBack_of (not_ni rz) ⟨z1, H1, I1, rz, qz⟩
  show wpAny (model X.prog X.w) X.A (richCompare .Eq (.ref a) u) (EP X pins σ Q) X.xe s
  rcases hy with ⟨b, dy, gs, rfl, hb'⟩ | ⟨b, xs, rfl, hb'⟩
  · obtain rfl : u = Value.ref b := ry
    obtain ⟨mB, J', _⟩ := ins_get I.hok hb'
    obtain ⟨od', J', _⟩ := J'.look
    exact PySem.W.cmp_K (op := .Eq) (tb := .ref C) hr.units0 hF I.ok.mod.kin J J'.type (by simp [PySem.W.notFirst]) O.eq O.fn run
  · obtain rfl : u = Value.ref b := ry
    obtain ⟨_, _, _, o, h1, h2, _⟩ := (show ObjOk X.prog X.w H s.heap b (.tup xs) from I.hok b _ hb')
    have lk : PySem.W.Looks (model X.prog X.w) s.heap (typeOf (.ref b)) (.type "tuple") := fun A Q E s' k q => wpAny_typeOf ⟨o, k _ _ h1, h2⟩ q
    exact PySem.W.cmp_K (op := .Eq) (tb := .type "tuple") hr.units0 hF I.ok.mod.kin J lk O.nt O.eq O.fn run
theorem op_ownNe (O : OwnEqC X.K C f) (F : FnOk X.prog X.w X.K X.mg X.base CX k f fd ps sp) (hr : Room (k + 1) X.A) (hb : Binds X.K fd ps []) (hx : Passes CX X E) :
    OpR X (compareOp .NotEq) (rOwnNe C sp E) := by
  intro pins s σ H x y v u Q I rx ry h
  obtain ⟨a, dx, fs, b, dy, gs, rfl, ha, rfl, hb', q⟩ := h
  obtain rfl : v = Value.ref a := rx
  obtain rfl : u = Value.ref b := ry
  obtain ⟨mA, J, _⟩ := ins_get I.hok ha
  obtain ⟨od, J, _⟩ := J.look
  obtain ⟨mB, J', _⟩ := ins_get I.hok hb'
  obtain ⟨od', J', _⟩ := J'.look
  show wpAny (model X.prog X.w) X.A (richCompare .NotEq (.ref a) (.ref b)) (EP X pins σ Q) X.xe s
  refine FoOps.ne_own I.kIn J J'.type (hu_of hr) O.ne O.eq O.fn O.mo ?_
  have hl := F.len _ _ _ _ q
  have r2 : Vals [V.ref a, V.ref b] [Value.ref a, Value.ref b] := .cons rfl (.cons rfl .nil)
  refine wpAny_call (codeAny_mono (F.run X.A.in1 X.stack s H ⟨[.ref a, .ref b], []⟩ [.ref a, .ref b] [.ref a, .ref b] _ E hr.in1 I.env0.in1 (by
    have := hb s [.ref a, .ref b] I.kIn (by simpa using hl)
    simpa using this) r2 q) fun r s' hq => ?_)
  cases r with
  | error e => exact hx pins σ H s e s' I hq
  | ok fl =>
    cases fl with
    | ret w =>
      obtain ⟨z, H', I', rz, kk, ez, ex⟩ := I.after hq
      subst ez
      cases rz
      exact ⟨kk, rfl, .bl (!kk), H', I', rfl, ex⟩
    | next => exact False.elim hq
    | brk => exact False.elim hq
    | cont => exact False.elim hq
/-- two lists of the very same objects -/
def rNeRefs : R2 := fun x y H Q => ∃ (a b : Addr) (rs : List Addr), x = .ref a ∧ y = .ref b ∧ H a = some (.lst (rs.map V.ref)) ∧ H b = some (.lst (rs.map V.ref)) ∧ Q (.bl false) H
theorem vals_refs : ∀ {rs : List Addr} {us : List Value}, Vals (rs.map V.ref) us → us = rs.map Value.ref
  | [], _, h => by
    cases h
    rfl
  | r :: rs, _, h => by
    cases h with
    | cons h1 h2 =>
      have e1 := vals_refs h2
      cases h1
      rw [e1]
      rfl
theorem op_neRefs (hu : X.A.units < cLine) : OpR X (compareOp .NotEq) rNeRefs := by
  intro pins s σ H x y v u Q I rx ry h
  obtain ⟨a, b, rs, rfl, rfl, ha, hb, q⟩ := h
  obtain rfl : v = Value.ref a := rx
  obtain rfl : u = Value.ref b := ry
  obtain ⟨_, its, n1, r1, e1⟩ := (show ObjOk X.prog X.w H s.heap a (.lst (rs.map V.ref)) from I.hok a _ ha)
  obtain ⟨_, its2, n2, r2, e2⟩ := (show ObjOk X.prog X.w H s.heap b (.lst (rs.map V.ref)) from I.hok b _ hb)
  have q1 := vals_refs r1
  have q2 := vals_refs r2
  subst q1
  subst q2
  have hl1 : s.heap.IsList a (rs.map Value.ref).toArray := ⟨_, e1, rfl, _, rfl⟩
  have hl2 : s.heap.IsList b (rs.map Value.ref).toArray := ⟨_, e2, rfl, _, rfl⟩
  have k := PySem.SeqAt.RcNeAt.lists (A := X.A) (s := s) (e := fun _ => true) hl1 hl2 rfl hu (fun j h1 h2 => PySem.SeqAt.EqAt.same _)
  have e : (!(List.range (rs.map Value.ref).toArray.size).all fun _ => true) = false := by simp
  rw [e] at k
  exact k X.prog X.w X.xe _ ⟨.bl false, H, I, rfl, q⟩
/-- t.index(x) of data: the first place of an equal one -/
def rTIndexD (K : PySem.W.Frag) : V → List V → Hp → VK → Prop := fun x xs H Q => ∃ (a : Addr) (y : V) (d : PyData) (ds : List PyData) (j : Nat) (z : PyData), x = V.ref a ∧ xs = [y] ∧ Dp K H (V.ref a) (.tuple ds) ∧ Dp K H y d ∧
  SeqAt.shaped (.tuple ds) = true ∧ SeqAt.shaped d = true ∧ ds[j]? = some z ∧ PyData.eqv z d = true ∧ (∀ (m : Nat) (z' : PyData), m < j → ds[m]? = some z' → PyData.eqv z' d = false) ∧ Q (.int (j : Nat)) H
theorem mt_tindexD (hu : X.A.units + 65 < cLine) : MtR X "tuple.index" (rTIndexD X.K) := by
  intro pins s σ H x xs v us Q I rx rxs h
  obtain ⟨a, y, d, ds, j, z, rfl, rfl, hl, hy, sl, sd, hz, hzj, hno, q⟩ := h
  cases rx
  cases rxs with
  | cons ry rt =>
    rename_i uy ut
    cases rt
    obtain ⟨bs, r1⟩ := Dp.reads I d y uy hy ry
    have hxs : PyData.canLayAll0 ds = true := SeqAt.canLay_of_shaped sl
    have hroom : X.A.units + 1 + min (PyData.depthAll ds) d.depth < cLine := room_in_shaped sd hu
    cases hl with
    | tup hs ha =>
      obtain ⟨its, rv, pl, hlen⟩ := I.tuple hs
      obtain ⟨⟨cls, dd, dt, sls⟩, ho, hc, n, hd⟩ := pl
      simp only at hc hd
      subst hc
      subst hd
      obtain ⟨as, h4⟩ := Dp.readsAll I ds _ its ha rv
      have hn : its.length = ds.length := SeqAt.ReadsAll.length ds its as h4
      have hmap : its.map (SeqAt.readOf s.heap) = ds := SeqAt.readsAll_map ds its as hxs h4
      obtain ⟨hjd, _⟩ := List.getElem?_eq_some_iff.mp hz
      have hjl : j < its.length := by omega
      have hj : j < its.toArray.size := by simpa using hjl
      have at_ : ∀ (m : Nat) (hm : m < its.toArray.size) (z' : PyData), ds[m]? = some z' → SeqAt.readOf s.heap its.toArray[m] = z' := by
        intro m hm z' hz'
        have hml : m < its.length := by simpa using hm
        rw [← hmap, List.getElem?_map, List.getElem?_eq_getElem hml] at hz'
        have e1 : SeqAt.readOf s.heap its[m] = z' := Option.some.inj (show some (SeqAt.readOf s.heap its[m]) = some z' from hz')
        simpa using e1
      refine call_meets PySem.F.slot_tuple_index ⟨_, ho, rfl⟩ PySem.F.entry_tuple_index (PySem.F.args_tuple_index_2 _ _)
        (TI.tuple_indexAt a its.toArray n dd sls uy (fun u => PyData.eqv (SeqAt.readOf s.heap u) d) j hj ?_ ?_) ⟨ho, SeqAt.items_eqAt (vs := its.toArray) (show ReadsAll s.heap its.toArray.toList ds as from h4) r1 hxs (SeqAt.canLay_of_shaped sd) hroom, ?_⟩
      · show PyData.eqv (SeqAt.readOf s.heap its.toArray[j]) d = true
        rw [at_ j hj z hz]
        exact hzj
      · intro m hm hmj
        have hmd : m < ds.length := by omega
        have hz' : ds[m]? = some ds[m] := List.getElem?_eq_getElem hmd
        show PyData.eqv (SeqAt.readOf s.heap its.toArray[m]) d = false
        rw [at_ m hm _ hz']
        exact hno m _ hmj hz'
      · exact ⟨.int (j : Nat), H, I.tok _, ⟨_, rfl⟩, q⟩
end
end L2
set_option Elab.async false
set_option linter.all false
set_option maxRecDepth 100000
set_option maxHeartbeats 2000000
/-! defs that are called where no guard stands (so that repr of lists and tuples can be told) -/
namespace L2
open PySem PySem.Spec PyProof.Rows
/-- the promise of a def, where nothing is being shown around it -/
structure FnG (P : Program) (w : World) (K : PySem.W.Frag) (mg : Str → Option Value) (base : Heap) (CX : CXT) (k : Nat) (f : Addr) (fd : FuncData) (ps : List Str) (sp : Sp) : Prop where
  len : ∀ vs H Q E, sp vs H Q E → vs.length = ps.length
  run : ∀ (A : Around), A.guards = some [] → ∀ (outer : List Env) (s : Shared) (H : Hp) (args : Args) (us : List Value) (vs : List V) (Q : VK) (E : XK), Room k A → Env0 P w K mg base A outer s H → BindsTo s fd args (ps.zip us) → Vals vs us → sp vs H Q E →
    codeAny (model P w) A (.call (.ref f) args) (CR CX outer P w H s Q E) s
section
variable {P : Program} {w : World} {K : PySem.W.Frag} {mg : Str → Option Value} {base : Heap}
/-- by its body -/
theorem Fun.okG {x qual : Str} {st : Stmt} {f : Addr} {fd : FuncData} {N ps : List Str} {k : Nat} {sp : Sp} (F : Fun K x qual st f fd) (S : FnScope N ps (defScope st)) (len : ∀ vs H Q E, sp vs H Q E → vs.length = ps.length)
    (walk : ∀ (cdv : Value) (A : Around) (outer : List Env) (s : Shared) (H : Hp) (vs : List V) (Q : VK) (E : XK), A.guards = some [] → Room k (A.deeper (envOfC qual (defScope st) s.heap.objs.size f cdv)) → sp vs H Q E →
      ∃ t, PSs (cxOf CX0 P w K mg base N qual (defScope st) f cdv A outer s H E).nox (defBody st) t ∧ t { nx := fun _ H' => Q .non H', rt := Q } (start N vs) H) : FnG P w K mg base CX0 (k + 1) f fd ps sp := by
  obtain ⟨oc, od, kV, doc, pm, an, cdv, ct, osl, rfl, lk, hcd⟩ := F.ex
  constructor
  · exact len
  intro A hgd outer s H args us vs Q E room env bind rel want
  have inB : ∀ b o, base.get? b = some o → s.heap.get? b = some o := fun b o z => (env.bs b o z).1
  have inK := env.mod.kin.keeps inB
  have kinds : ∀ y ∈ ps.zip us, (defScope st).names.lookup y.1 = some .local ∨ ((defScope st).names.lookup y.1 = some .cell ∧ ((cellsFrom (s.heap.objs.size + 1) (defScope st).names []).lookup y.1).isSome = true) := by
    rintro ⟨n, v⟩ hy
    exact (S.par n (List.of_mem_zip hy).1).imp id fun q => ⟨q, PySem.W.cellsFrom_some _ _ _ (.inl q)⟩
  refine codeAny_call_function room.depth (inK _ _ lk) rfl S.co S.gen rfl (PySem.W.codeRec_of inK hcd) (bind _ _ _ _ (wpAny_newFunctionEnv_cells S.kind kinds ?_))
  rintro _ rfl s1 entry
  refine ⟨(env.mod.nolimit.keeps inB).keeps entry.toInCall.keep, codeAny_func ?_⟩
  obtain ⟨t, body, told⟩ := walk cdv A outer s H vs Q E hgd (room.deeper _) want
  have start0 := inv_start (CX := CX0) (E := E) S room.hd env (len _ _ _ _ want) rel entry
  refine wpAny_mono (body.nox.run [] s1 (start N vs) H _ start0 told) ?_ fun _ _ z => z
  intro fl s' z
  cases fl with
  | ret u =>
    obtain ⟨v, σ', H', J, rv, q⟩ := z
    exact ⟨v, H', J.os, J.bare, J.base, J.hok, rv, q⟩
  | next =>
    obtain ⟨σ', H', J, q⟩ := z
    exact ⟨.non, H', J.os, J.bare, J.base, J.hok, rfl, q⟩
  | brk => exact z.elim fun _ z => z.elim fun _ z => z.2.elim
  | cont => exact z.elim fun _ z => z.elim fun _ z => z.2.elim
end
section
variable {X : Cx} {CX : CXT} {k : Nat} {f : Addr} {fd : FuncData} {ps : List Str} {sp : Sp} {E : XK} {x : Str} {p pos : Pos} {e : Expr} {es : List Expr} {t : TA}
/-- f(e, ..) of such a def -/
theorem pe_callG (F : FnG X.prog X.w X.K X.mg X.base CX k f fd ps sp) (hgd : X.A.guards = some []) (hr : Room k X.A) (hg : Gl X x) (hm : X.mg x = some (.ref f)) (hk : PySem.W.keepIn X.K (.ref f) = true) (hb : Binds X.K fd ps []) (hx : Passes CX X E)
    (ha : PA X (e :: es) t) (hdb : (x == ("__debug__" : Str)) = false := by decide) (he : starEach (e :: es) X.env = (false, eval e X.env) :: starEach es X.env := by rfl) (hpl : (backTo pos (starEach es X.env)).any (·.1) = false := by rfl) :
    PE X (.Call (.Name x p) (e :: es) [] pos) (tCall sp [] E t) := by
  constructor
  intro pins s σ H Q I h
  refine wpAny_Call_Name_kw (ld_glob I hg hm (PySem.W.callWith_K (h₀ := X.base) I.ok.mod.kin hk (thn (ha.run pos pins s σ H _ I h) ?_) he hpl) hdb)
  rintro us s1 ⟨vs, H1, I1, rel, want⟩
  refine ⟨I1.kIn, ?_⟩
  rw [List.append_nil] at want
  have ln : us.length = ps.length := rel.length.symm.trans (F.len _ _ _ _ want)
  have bnd := hb s1 us I1.kIn (by rw [List.append_nil]; exact ln)
  rw [List.append_nil] at bnd
  refine wpAny_call (codeAny_mono (F.run X.A hgd X.stack s1 H1 ⟨us, []⟩ us vs Q E hr I1.env0 bnd rel want) ?_)
  intro r s' z
  rcases r with e | (u | _ | _ | _)
  · exact hx pins σ H1 s1 e s' I1 z
  all_goals first | exact I1.after z | exact False.elim z
end
end L2
namespace L2
open PySem PySem.Spec PyProof.Rows
/-- the end of a law whose def is such a one -/
theorem walk_ofG {l : PySem.W.OpenLaw} {n k : Nat} {q : Program} {loose : List Str} {XP : (Str → Option Value) → Heap → Prop} {YP : World → Heap → Prop} {d : DefRec} {K : Params → PySem.W.Frag} {sp : World → Sp} {x : Str}
    (hn : l.most = some n) (hn2 : n ≤ sizeLine) (hdf : d.params.defaults = []) (hr : Room k callerA) (hY : ∀ (w : World) (h : Heap), YP w h → (K w.params).In h)
    (F : ∀ (w : World) (mg : Str → Option Value) (fa : Addr) (h : Heap), (K w.params).In h → h.Ns mainGlobals mg → mg d.name = some (.ref fa) →
      ∃ fd : FuncData, (∀ (s : Shared) (u : Value), BindsTo s fd ⟨[u], []⟩ [(x, u)]) ∧ ∀ base : Heap, (K w.params).In base → base.Ns mainGlobals mg → FnG l.prog w (K w.params) mg base CX0 k fa fd [x] (sp w))
    (hsp : ∀ (w : World) (H : Hp) (a : Addr) (ns : List Int), ns.length ≤ n → SqL (K w.params) H a (ns.map V.int) → sp w [.ref a] H (fun v _ => v = .bl true) E0) :
    PySem.W.WalkO q loose XP YP l.row.toRowW d [] (fun f vs => PySem.call f vs) := by
  refine Att.attach_call hn hdf fun w s₀ s₁ mg mb fa o pm cd doc a vs ns G Y _ _ _ hmg hobj hints hlen hg => ?_
  have inK := hY w _ Y
  obtain ⟨fd, bind, told⟩ := F w mg fa _ inK G.T.g hmg
  have rel := vals_ints hints
  have long : ns.length ≤ sizeLine := Nat.le_trans hlen hn2
  -- any abstract heap that knows at most the script, as it lies
  have key : ∀ H : Hp, (∀ b u, H b = some u → b = a ∧ (K w.params).lookup a = none ∧ u = .frz { cls := .type "list", data := .seq vs.toArray } (.lst (ns.map V.int))) → SqL (K w.params) H a (ns.map V.int) → HOk l.prog w H s₁.heap →
      codeAny (model l.prog w) callerA (.call (.ref fa) ⟨[.ref a], []⟩) (fun r s' => r = .ok (.ret (.bool true)) ∧ OldK s₁.heap s'.heap ∧ s'.os = s₁.os ∧ AllBare s'.gens) s₁ := by
    intro H only sq ok
    have keepN : ∀ {b : Addr} {m : Str → Option Value}, s₁.heap.Ns b m → (hidT s₁.heap H).Ns b m := by
      rintro b m ⟨ob, es, ep, h1, h2, r⟩
      refine ⟨ob, es, ep, hidT_get h1 ?_, h2, r⟩
      cases hH : H b with
      | none => rfl
      | some u =>
        obtain ⟨rfl, _, _⟩ := only b u hH
        rw [hobj] at h1
        cases h1
        cases h2
    have kIn' : (K w.params).In (hidT s₁.heap H) := fun b ob z => hidT_get (inK b ob z) (by
      cases hH : H b with
      | none => rfl
      | some u =>
        obtain ⟨rfl, hno, _⟩ := only b u hH
        rw [hno] at z
        cases z)
    obtain ⟨mc, c1, c2⟩ := G.T.nolimit
    have env : Env0 l.prog w (K w.params) mg (hidT s₁.heap H) callerA [] s₁ H := by
      refine ⟨rfl, ⟨kIn', keepN G.T.g, ⟨mb, keepN G.T.b, G.T.builtins⟩, ⟨mc, keepN c1, c2⟩⟩, fun b ob z => of_hidT z, Nat.le_of_eq (hidT_size _ _), trivial, fun b hb => ?_, ok, .of_eq hg⟩
      have hb' : b ∈ ([] : List Addr) := hb
      cases hb'
    refine codeAny_mono ((told _ kIn' (keepN G.T.g)).run callerA rfl [] s₁ H ⟨[.ref a], []⟩ [.ref a] [.ref a] _ _ hr env (bind s₁ (.ref a)) (.cons rfl .nil) (hsp w H a ns hlen sq)) ?_
    intro r s' z
    cases r with
    | error e => exact False.elim z
    | ok fl =>
      cases fl with
      | next => exact False.elim z
      | brk => exact False.elim z
      | cont => exact False.elim z
      | ret u =>
        obtain ⟨v, H', os, bare, un, ok', rv, ev⟩ := z
        have ev' : v = .bl true := ev
        subst ev'
        obtain rfl : u = Value.bool true := rv
        refine ⟨rfl, OldK.of_keep fun b ob hb => ?_, os, bare⟩
        cases hH : H b with
        | none =>
          refine un.keep b ob hb hH (fun hm => ?_) (by simp)
          have hm' : b ∈ ([] : List Addr) := hm
          cases hm'
        | some u =>
          obtain ⟨rfl, _, rfl⟩ := only b u hH
          obtain ⟨e1, _⟩ := ok b _ hH
          obtain ⟨e2, _⟩ := ok' b _ (un.frzs b _ _ hH)
          rw [hb] at e1
          cases e1
          exact e2
  by_cases hk : (K w.params).lookup a = none
  · refine key (fun b => if b = a then some (.frz { cls := .type "list", data := .seq vs.toArray } (.lst (ns.map V.int))) else none) (fun b u z => ?_) (.inl (.inr ⟨_, if_pos rfl⟩)) (fun b u z => ?_)
    · try dsimp only at z
      by_cases hb : b = a
      · rw [if_pos hb] at z
        exact ⟨hb, hk, (Option.some.inj z).symm⟩
      · rw [if_neg hb] at z
        cases z
    · try dsimp only at z
      by_cases hb : b = a
      · rw [if_pos hb] at z
        cases z
        subst hb
        exact ⟨hobj, by rw [List.length_map]; exact long, vs, _, rel, hobj⟩
      · rw [if_neg hb] at z
        cases z
  · obtain ⟨ob, hob⟩ := Option.ne_none_iff_exists'.mp hk
    have same := inK a ob hob
    rw [hobj] at same
    cases same
    refine key (fun _ => none) (fun b u z => by cases z) (.inr ⟨_, vs.toArray, _, hob, rfl, rfl, rfl, ?_, by simpa using rel⟩) (fun b u z => by cases z)
    rw [List.size_toArray, hints.length]
    exact long
end L2
set_option Elab.async false
set_option linter.all false
set_option maxRecDepth 100000
set_option maxHeartbeats 2000000
/-! repr of data, where no guard stands -/
namespace L2
open PySem PySem.Spec PyProof.Rows
def rReprD (K : PySem.W.Frag) : List V → Hp → VK → Prop := fun xs H Q => ∃ x d, xs = [x] ∧ Dp K H x d ∧ d.showable = true ∧ d.hasDict = false ∧ d.depth ≤ 60 ∧ d.shown.length ≤ sizeLine ∧ Q (.str d.shown) H
theorem call_reprD {X : Cx} (hgd : X.A.guards = some []) (hu : X.A.units + 64 < cLine) : CallR X (.builtin "repr") (rReprD X.K) := by
  intro pins s σ H xs us Q I r h
  obtain ⟨x, d, rfl, hd, hs, hnd, hdp, hz, q⟩ := h
  obtain ⟨u, rfl, rx⟩ := vals1 r
  obtain ⟨as, rd⟩ := Dp.reads I d x u hd rx
  cases hd with
  | non =>
    obtain rfl : u = Value.none := rx
    exact PySem.P.repr_of_none ⟨.str "None", H, I.tok _, ⟨_, rfl⟩, q⟩
  | bl b =>
    obtain rfl : u = Value.bool b := rx
    exact PySem.P.repr_of_bool ⟨.str _, H, I.tok _, ⟨_, rfl⟩, q⟩
  | int i =>
    obtain ⟨t, rfl⟩ := rx
    exact PySem.P.repr_of_int (by simpa [PyData.showable] using hs) ⟨.str (toString i), H, I.tok _, ⟨_, rfl⟩, q⟩
  | str y =>
    obtain ⟨t, rfl⟩ := rx
    exact PySem.P.repr_of_str ⟨.str (reprText y), H, I.tok _, ⟨_, rfl⟩, q⟩ hz
  | @lst a ys ds h1 h2 =>
    obtain rfl : u = Value.ref a := rx
    exact repr_of_reads' rd hs (fun z => by rw [hnd] at z; cases z) hgd (by omega) (fun _ _ z => z) (fun h' v tk k => ⟨.str _, H, I.kept k, ⟨_, rfl⟩, q⟩) hz
  | @tup a ys ds h1 h2 =>
    obtain rfl : u = Value.ref a := rx
    exact repr_of_reads' rd hs (fun z => by rw [hnd] at z; cases z) hgd (by omega) (fun _ _ z => z) (fun h' v tk k => ⟨.str _, H, I.kept k, ⟨_, rfl⟩, q⟩) hz
end L2
namespace L2
open PySem PySem.Spec PyProof.Rows
/-- what an own error class says, so that isinstance asks its instances rightly -/
structure XIsC (K : PySem.W.Frag) (D : Addr) : Prop where
  hg : PySem.W.findIn K (.ref D) "__getattribute__" = some (some (.builtin "BaseException.__getattribute__"))
  hk : PySem.W.findIn K (.ref D) "__getattr__" = some none
  hs : PySem.W.subIn K (.ref D) (.type "BaseException") = some true
  hd : PySem.W.hasDictIn K D = true
  ha : PySem.W.findIn K (.ref D) "__class__" = some (some (.builtin "object.__class__"))
  hn : PySem.W.specialIn K (.builtin "object.__class__") "__get__" = some (some (.builtin "getset_descriptor.__get__"))
  ht : PySem.W.takesIn K (.builtin "object.__class__") = some true
  hm : PySem.W.mroIn K D (.type "object") = some true
end L2
namespace L2
open PySem PySem.Spec PyProof.Rows
/-- isinstance(e, c), e the error that the suite holds (at a; its class cls, its dict d) -/
def rIsX (K : PySem.W.Frag) (a : Addr) (cls : Value) (d : Option Addr) : List V → Hp → VK → Prop := fun xs H Q => ∃ (D dd : Addr) (fs : List (Str × V)) (c : V) (cv : Value) (b : Bool), xs = [.ref a, c] ∧ cls = .ref D ∧ d = some dd ∧ H dd = some (.xd fs) ∧ ClsV c cv ∧ XIsC K D ∧
  PySem.W.kitOne K (.ref D) cv = some b ∧ Q (.bl b) H
theorem call_isX {X : Cx} {a : Addr} {oe : Obj} {cls : Value} {d : Option Addr} {pn : List (Addr × Obj)} (hz : Zc cls d oe) (hf : ∃ vs, oe.data = .fields vs) : CallR (X.suite a ((a, oe) :: pn)) (.builtin "isinstance") (rIsX X.K a cls d) := by
  intro pins s σ H xs us Q I r h
  obtain ⟨D, dd, fs, c, cv, b, rfl, rfl, rfl, hdd, hcv, T, e, q⟩ := h
  obtain ⟨u1, u2, rfl, r1, r2⟩ := vals2 r
  obtain rfl : u1 = Value.ref a := r1
  obtain rfl := hcv.eq r2
  obtain ⟨ha, _⟩ := I.pin (a, oe) (List.mem_append_left _ List.mem_cons_self)
  obtain ⟨vs, hd⟩ := hf
  obtain ⟨mA, hns, _⟩ := (show ObjOk X.prog X.w H s.heap dd (.xd fs) from I.hok dd _ hdd)
  obtain ⟨od, ho, _⟩ := lookIn_ns hns
  have J : PySem.W.InstAt s.heap a oe D (some od) := ⟨ha, hz.1, by unfold PySem.W.notCls; rw [hd] <;> rfl, by rw [hz.2]; exact ho⟩
  have hcl : (PySem.W.clsIn X.K D).isSome = true := by
    obtain ⟨cd, hc, _⟩ := PySem.W.any_some T.hd
    rw [hc]
    rfl
  exact PySem.W.kia_one (PySem.W.kitx_exc hcl T.hg T.hk T.hs T.ha T.hn T.ht T.hm) I.kIn J e (fun z => nomatch z) fun tk => ⟨.bl b, H, I.kept (t' := tk) fun _ _ z => z, rfl, q⟩
end L2
set_option Elab.async false
set_option linter.all false
set_option maxRecDepth 100000
set_option maxHeartbeats 2000000
/-! an own error over ValueError (perhaps over others between), whose __init__ says super().__init__(text) and keeps one field -/
namespace FoX
open PySem PySem.W PySem.Calls PyProof.Rows PySem.HandSPX
theorem one_sz (v : Value) : [v].length ≤ sizeLine := by
  rw [sizeLine_eq]
  exact (by decide : 1 ≤ 16777216)
section
variable {prog : Program} {w : World} {A : Around} {E : Value → Shared → Prop} {h : Heap} {g : Array GenState} {d : Drawn} {t : Nat} {os : OsState}
/-- the bound built-in __init__ called -/
theorem mw_call {nm q : Str} {C N u e t0 : Addr} {bs bm : List Value} {hdct : Bool} {sn : List Str} {sub : List Value} {ab : Bool} {col : Option Bool} {dd : Option Addr} {k0 k1 k2 k3 k5 : Option Value} {rest : List Value} {Q : Value → Shared → Prop}
    (hC : h.get? C = some (excClassObj nm q C N bs bm hdct sn sub ab col dd k0 k1 k2 k3 k5 "ValueError.__new__")) (he : h.get? e = some (HandSPX.excO C t0)) (hu : h.get? u = some (kxs_mw "ValueError.__init__" e)) (hz : rest.length ≤ sizeLine)
    (hq : ∀ h' t1, (∀ b o, b ≠ e → h.get? b = some o → h'.get? b = some o) → h'.get? e = some (HandSPX.excO C t1) → Q .none ⟨h', g, d, t, os⟩) :
    wpAny (model prog w) A (call (.ref u) rest) Q E ⟨h, g, d, t, os⟩ := by
  refine wpAny_call (codeAny_of_tree ?_)
  show wpAny (model prog w) A.in1 (callAny (.ref u) ⟨rest, []⟩) _ _ _
  simp only [callAny]
  refine wpAny_bind (wpAny_load hu ?_)
  have tb : (Value.type "method-wrapper" == Value.type "method" || Value.type "method-wrapper" == Value.type "builtin_function_or_method" || Value.type "method-wrapper" == Value.type "method-wrapper") = true := by decide
  simp only [kxs_mw, tb, if_true]
  refine KFB.if_so (by decide) (wpAny_bind (check_bound_init F.excBase_ValueError.toExcCallFacts hC he rfl ?_))
  refine wpAny_bind (wpAny_pure (wpAny_pure ⟨plainId_quiet F.excBase_ValueError.init.plain _, codeAny_builtin F.excBase_ValueError.initEntry ?_⟩))
  exact exc_init_tree (cls := .ref C) (t0 := t0) (dv := none) (c2 := .none) (c3 := .none) (b4 := .bool false) he hz fun h' k e' _ => hq h' _ k e'
end
end FoX
set_option Elab.async false
set_option linter.all false
set_option maxRecDepth 100000
set_option maxHeartbeats 2000000
namespace FoX_thing
open PySem PySem.W PySem.Calls PyProof.Rows PySem.HandSPX FoX
/-- the text of such an __init__ -/
def xB (msg : Str) (a1 a2 a3 a4 a5 a6 q1 q2 q3 q4 : Pos) (j : Nat) : List Stmt :=
  [.Expr (.Call (.Attribute (.Call (.Name "super" a1) [] [] a2) "__init__" a3) [.Constant (.str msg) j a4] [] a5) a6, .Assign [.Attribute (.Name "self" q1) (Str.ofString "thing") q2] (.Name (Str.ofString "thing") q3) q4]
def xS : Scope := { kind := .function, names := [(Str.ofString "self", .local), ((Str.ofString "thing"), .local), (Str.ofString "__class__", .free), (Str.ofString "super", .globalImplicit)], isGenerator := false, isCoroutine := false, more := [] }
def xA (p1 p2 : Pos) : Arguments := { posonlyargs := [], args := [{ arg := "self", annotation := none, pos := p1 }, { arg := (Str.ofString "thing"), annotation := none, pos := p2 }], vararg := none, kwonlyargs := [], kw_defaults := [], kwarg := none, defaults := [] }
/-- what the written part says of the class at C and its __init__ at fI -/
structure XTxt (P : Program) (K : Frag) (mg : Str → Option Value) (C fI : Addr) : Prop where
  cls : ∃ nm q N bs bm sn sub ab col dd k0 k1 k2 k3 k5, K.lookup C = some (excClassObj nm q C N bs bm true sn sub ab col dd k0 k1 k2 k3 k5 "ValueError.__new__") ∧ refsVE bm = true
  sa : findIn K (.ref C) "__setattr__" = some (some (.builtin "object.__setattr__"))
  ga : findIn K (.ref C) "__getattribute__" = some (some (.builtin "BaseException.__getattribute__"))
  gg : findIn K (.ref C) "__getattr__" = some none
  noN : findIn K (.ref C) (Str.ofString "thing") = some none
  iC : findIn K (.ref C) "__init__" = some (some (.ref fI))
  tC : typeIn K (.ref fI) = some (.type "function")
  kC : keepIn K (.ref C) = true
  exC : subIn K (.ref C) (.type "BaseException") = some true
  tyC : typeIn K (.ref C) = some (.type "type")
  hdC : hasDictIn K C = true
  sup : ks_superIn K C C "__init__" = some (some (.builtin "ValueError.__init__"))
  tp : nsIn K cStatics "thirdparty.any" = some none
  zs : mg "super" = none
  ve : subIn K (.ref C) (.type "ValueError") = some true
  mr : mroIn K C (.ref C) = some true
  top : (P.main.scope.names.lookup ("super" : Str)).isSome = false
  fn : ∃ (qual msg : Str) (oc : Value) (od : Option Addr) (doc pm kV : Value) (an : Option Addr) (cc cda : Addr) (ct : Value) (osl : Array (Option Value)) (p1 p2 a1 a2 a3 a4 a5 a6 q1 q2 q3 q4 : Pos) (j : Nat) (ccl cl : Value) (cdd cld : Option Addr) (vs : Array Value) (ccs csl : Array (Option Value)) (file : Str) (tf : Tok),
    K.lookup fI = some ⟨oc, od, .func (ksFn "__init__" qual (xA p1 p2) (xB msg a1 a2 a3 a4 a5 a6 q1 q2 q3 q4 j) xS .none kV doc pm an (.ref cda) ct cc), osl⟩ ∧ codeIn K (.ref cda) qual = true ∧
    K.lookup cda = some ⟨ccl, cdd, .fields vs, ccs⟩ ∧ vs[2]? = some (.str file tf) ∧ ((P.main.file : Str) == file) = true ∧ (a3.endLine == a5.line) = true ∧ K.lookup cc = some ⟨cl, cld, .cell (some (.ref C)), csl⟩
theorem xcel : ∀ y ∈ xS.names, y.2 ≠ .cell := by decide
/-- the call of super's method, its tree -/
theorem x_tree (msg : Str) (a1 a2 a3 a4 a5 : Pos) (j : Nat) (env : Env) (hl : (a3.endLine == a5.line) = true) : eval (.Call (.Attribute (.Call (.Name "super" a1) [] [] a2) "__init__" a3) [.Constant (.str msg) j a4] [] a5) env = (do
      let ov ← attributeBase (.Call (.Name "super" a1) [] [] a2) "__init__" env (eval (.Call (.Name "super" a1) [] [] a2) env)
      standAt a3.atName
      let (f, first) ← holding [ov] (getMethod ov "__init__" (do return (← importBound (.Call (.Name "super" a1) [] [] a2) env).getD true))
      callWith a5 f first (backTo a5 (starEach [.Constant (.str msg) j a4] env)) []) := by
  rw [arm_eval_Call]
  unfold methodCall methodCallPos
  simp only [hl, Bool.or_true, if_true]
  rfl
/-- what __init__ leaves of a fresh error at x -/
structure XEnd (h h' : Heap) (x C dx : Addr) (v : Value) : Prop where
  keep : ∀ b o, b ≠ x → h.get? b = some o → h'.get? b = some o
  obj : ∃ t1 : Addr, h'.get? x = some { cls := .ref C, dict := some dx, data := .fields #[.ref t1, .none, .none, .none, .bool false, .none] }
  dbig : h.objs.size ≤ dx
  dne : dx ≠ x
  ns : h'.Ns1 dx (fun y => if y = (Str.ofString "thing") then some v else none)
section
variable {prog : Program} {w : World} {A : Around} {E : Value → Shared → Prop} {R : Result → Shared → Prop} {s : Shared} {K : Frag} {mg : Str → Option Value} {C fI : Addr}
theorem x_init (T : XTxt prog K mg C fI) {x t0 : Addr} {v : Value} (X : K.In s.heap) (hg : s.heap.Ns mainGlobals mg) (hbl : ∃ mb, s.heap.Ns builtinsNs mb ∧ ∀ y : Str, y ≠ "__name__" → mb y = bootBuiltins y) (hlim : s.heap.NoLimit)
    (hx : s.heap.get? x = some (HandSPX.excO C t0)) (hnx : K.lookup x = none) (hroom : A.depth < recursionLimit) (hq : ∀ h' tk dx, XEnd s.heap h' x C dx v → R (.ok (.ret .none)) { s with heap := h', toks := tk }) :
    codeAny (model prog w) A (.call (.ref fI) ⟨[.ref x, v], []⟩) R s := by
  obtain ⟨qual, msg, oc, od, doc, pm, kV, an, cc, cda, ct, osl, p1, p2, a1, a2, a3, a4, a5, a6, q1, q2, q3, q4, j, ccl, cl, cdd, cld, vs, ccs, csl, file, tf, ho, hcd, hcode, hvs, hfile, hline, hcell⟩ := T.fn
  obtain ⟨nm, q, N, bs, bm, sn, sub, ab, col, dd, k0, k1, k2, k3, k5, hC, hbm⟩ := T.cls
  have hcl : clsIn K C = some { name := nm, bases := bs, mro := .ref C :: bm, ns := N, qualname := q, hasDict := true, slotNames := sn, subclasses := sub, abstract := ab, collection := col, hasDel := false } := by unfold clsIn; rw [hC] <;> rfl
  obtain ⟨hp, g, d, tk, os⟩ := s
  refine ks_codeAny_call_defAt (fd := ksFn "__init__" qual (xA p1 p2) (xB msg a1 a2 a3 a4 a5 a6 q1 q2 q3 q4 j) xS .none kV doc pm an (.ref cda) ct cc) (body := xB msg a1 a2 a3 a4 a5 a6 q1 q2 q3 q4 j) (binds := [(Str.ofString "self", .ref x), ((Str.ofString "thing"), v)]) hroom (X _ _ ho) rfl hlim (codeRec_of X hcd) rfl (BindsTo.of_eq rfl) xcel ?_ (fun h₁ hns k => ?_) rfl rfl rfl
  · intro y hy
    rcases List.mem_cons.mp hy with rfl | hy
    · exact rfl
    · rcases List.mem_cons.mp hy with rfl | hy
      · exact rfl
      · cases hy
  have X₁ : K.In h₁ := X.keeps k
  have hx₁ : h₁.get? x = some (HandSPX.excO C t0) := k _ _ hx
  have I₁ : InstAt h₁ x (HandSPX.excO C t0) C none := ⟨hx₁, rfl, rfl, trivial⟩
  have vself : (fun y : Str => List.lookup y (List.reverse [((Str.ofString "self"), Value.ref x), ((Str.ofString "thing"), v)])) (Str.ofString "self") = some (.ref x) := by
    have e : ((Str.ofString "self") == (Str.ofString "thing")) = false := by decide +kernel
    simp [List.lookup, e]
  have vfld : (fun y : Str => List.lookup y (List.reverse [((Str.ofString "self"), Value.ref x), ((Str.ofString "thing"), v)])) (Str.ofString "thing") = some v := by
    simp [List.lookup]
  obtain ⟨mb, hb1, hb2⟩ := hbl
  -- super().__init__(text)
  refine ks_wpAt_execs_cons (ks_wpAt_Expr_any (ks_wpAt_MethodCall ?_ (x_tree msg a1 a2 a3 a4 a5 j _ hline)) rfl rfl)
  refine ks_wpAt_super_base (f := fI) (fd := ksFn "__init__" qual (xA p1 p2) (xB msg a1 a2 a3 a4 a5 a6 q1 q2 q3 q4 j) xS .none kV doc pm an (.ref cda) ct cc) (ar := { arg := "self", annotation := none, pos := p1 }) rfl rfl rfl rfl (X₁ _ _ ho) rfl rfl rfl (X₁ _ _ hcode) rfl hvs hfile T.top ?_
  refine ks_loadName_global rfl rfl (loadGlobal_builtin (hg.keeps k) T.zs (hb1.keeps k) ((hb2 _ (by decide +kernel)).trans (by decide +kernel)) ⟨rfl, ?_⟩)
  refine wpAny_loadName_free rfl rfl rfl ⟨_, X₁ _ _ hcell, rfl⟩ ?_
  refine wpAny_loadName_local rfl rfl hns vself ?_
  obtain ⟨oD, hD1, hD2⟩ : ∃ oD, h₁.get? C = some oD ∧ oD.data = .cls { name := nm, bases := bs, mro := .ref C :: bm, ns := N, qualname := q, hasDict := true, slotNames := sn, subclasses := sub, abstract := ab, collection := col, hasDel := false } := ⟨_, X₁ _ _ hC, rfl⟩
  refine ks_wpAny_isType_cls hD1 hD2 ⟨rfl, ?_⟩
  refine ks_wpAny_call_super hD1 hD2 hx₁ rfl (fun c e => by cases e) (looks_mroIn X₁ T.mr) (fun h₂ e₂ k₂ => ?_)
  have X₂ : K.In h₂ := X₁.keeps k₂
  have hx₂ : h₂.get? x = some (HandSPX.excO C t0) := k₂ _ _ hx₁
  have I₂ : InstAt h₂ x (HandSPX.excO C t0) C none := ⟨hx₂, rfl, rfl, trivial⟩
  have hsup := T.sup
  unfold ks_superIn at hsup
  rw [hcl] at hsup
  have hmro : Looks (model prog w) h₂ (mroOf (.ref C)) (.ref C :: bm) := (looks_clsIn X₂ hcl).andThen .now
  refine kxs_getMethod kxs_ValueError e₂ (looks_opaque X₂ T.tp) hmro rfl X₂ hsup (I₂.type.andThen (looks_subIn X₂ T.ve)) (ks_ne X₂ I₂ hcl) rfl ?_
  -- the wrapper called
  have hk₃ : ∀ b o, h₂.get? b = some o → (h₂.push (kxs_mw "ValueError.__init__" x)).get? b = some o := fun b o e => Heap.get?_push_of_some _ e
  have hu₃ : (h₂.push (kxs_mw "ValueError.__init__" x)).get? h₂.objs.size = some (kxs_mw "ValueError.__init__" x) := Heap.get?_push_at rfl rfl
  refine kxs_callWith (i := "ValueError.__init__") (x := x) rfl (evalArgs_plain (Calls.spliced_cons (Calls.Constant_str (pos := a4) (k := j) (Calls.spliced_nil ⟨hu₃, ?_⟩))))
  refine mw_call (X₂.keeps hk₃ _ _ hC) (hk₃ _ _ hx₂) hu₃ (one_sz _) (fun h₄ t1 k₄ hx₄ => ?_)
  have kall : ∀ b o, b ≠ x → hp.get? b = some o → h₄.get? b = some o := fun b o hb e => k₄ b o hb (hk₃ b o (k₂ b o (k b o e)))
  have xC : x ≠ C := ks_ne X₂ I₂ hcl
  have X₄ : K.In h₄ := fun b o e => kall b o (fun z => by rw [z, hnx] at e; cases e) (X b o e)
  have hL : hp.objs.size ≠ x := Nat.ne_of_gt (Heap.lt_size hx)
  have hns₄ : h₄.Ns hp.objs.size (fun y => List.lookup y (List.reverse [((Str.ofString "self"), Value.ref x), ((Str.ofString "thing"), v)])) := by
    obtain ⟨oL, es, ep, hoL, r⟩ := hns
    exact ⟨oL, es, ep, k₄ _ _ hL (hk₃ _ _ (k₂ _ _ hoL)), r⟩
  -- self.field = field
  refine wpAt_of_wpAny ?_
  refine wpAny_execs_cons (plainObj_wpAny_Assign_Attribute ?_)
  refine wpAny_Name (wpAny_loadName_local rfl rfl hns₄ vfld (wpAny_Name (wpAny_loadName_local rfl rfl hns₄ vself ?_) (by decide))) (by decide)
  refine set_plain X₄ (ox := HandSPX.excO C t1) (od := none) ⟨hx₄, rfl, rfl, trivial⟩ T.sa ?_
  refine exc_osa X₄ hx₄ hcl (show refsVE (.ref C :: bm) = true from hbm) rfl T.noN (fun h₅ tk₅ dx k₅ dn dne hx₅ hn₅ => ?_)
  refine wpAny_execs_nil (hq h₅ tk₅ dx ⟨fun b o hb e => k₅ b o hb (kall b o hb e), ⟨t1, hx₅⟩, ?_, dne, hn₅⟩)
  have z1 : hp.objs.size < h₄.objs.size := hns₄.lt
  exact Nat.le_of_lt (Nat.lt_of_lt_of_le z1 dn)
/-- a made error -/
structure XMade (h h' : Heap) (e C d : Addr) (v : Value) : Prop where
  keep : ∀ b o, h.get? b = some o → h'.get? b = some o
  new : h.objs.size ≤ e
  obj : ∃ oe vs, h'.get? e = some oe ∧ oe.cls = .ref C ∧ oe.dict = some d ∧ oe.data = .fields vs ∧ vs[1]? = some .none ∧ vs[2]? = some .none
  dbig : h.objs.size ≤ d
  dne : d ≠ e
  ns : h'.Ns1 d (fun y => if y = (Str.ofString "thing") then some v else none)
theorem x_made (T : XTxt prog K mg C fI) {v : Value} (X : K.In s.heap) (hg : s.heap.Ns mainGlobals mg) (hbl : ∃ mb, s.heap.Ns builtinsNs mb ∧ ∀ y : Str, y ≠ "__name__" → mb y = bootBuiltins y) (hlim : s.heap.NoLimit) (hroom : A.depth + 1 < recursionLimit)
    (hq : ∀ h' tk e d, XMade s.heap h' e C d v → R (.ok (.ret (.ref e))) { s with heap := h', toks := tk }) : codeAny (model prog w) A (.call (.ref C) ⟨[v], []⟩) R s := by
  obtain ⟨nm, q, N, bs, bm, sn, sub, ab, col, dd, k0, k1, k2, k3, k5, hC, hbm⟩ := T.cls
  obtain ⟨hp, g, dr, tk, os⟩ := s
  have k : ∀ b o, hp.get? b = some o → ((hp.push (kdv_tup [v])).push (HandSPX.excO C hp.objs.size)).get? b = some o := fun b o e => Heap.get?_push_of_some _ (Heap.get?_push_of_some _ e)
  have hget : ((hp.push (kdv_tup [v])).push (HandSPX.excO C hp.objs.size)).get? (hp.objs.size + 1) = some (HandSPX.excO C hp.objs.size) := by heap_get
  have hnx : K.lookup (hp.objs.size + 1) = none := by
    cases e : K.lookup (hp.objs.size + 1) with
    | none => rfl
    | some o => exact absurd (Nat.lt_of_succ_lt (Heap.lt_size (X _ _ e))) (Nat.lt_irrefl _)
  refine call_own F.excBase_ValueError (fun Y => refsVE_contains Y bm hbm) (X _ _ hC) (looks_findIn X T.iC) (fun self => bind_fn X self T.tC) (one_sz v) ?_
  obtain ⟨mb, hb1, hb2⟩ := hbl
  refine x_init (s := ⟨(hp.push (kdv_tup [v])).push (HandSPX.excO C hp.objs.size), g, dr, tk, os⟩) T (X.keeps k) (hg.keeps k) ⟨mb, hb1.keeps k, hb2⟩ (hlim.keeps k) hget hnx ?_ fun h' tk' dx ⟨k', ⟨t1, hx⟩, dn, dne, hns⟩ => ?_
  · show A.depth + 1 < recursionLimit
    exact hroom
  · have old : ∀ b o, hp.get? b = some o → h'.get? b = some o := fun b o e => k' b o (Nat.ne_of_lt (Nat.lt_succ_of_lt (Heap.lt_size e))) (k b o e)
    have z : hp.objs.size + 1 + 1 ≤ dx := by
      first
        | (simpa only [Heap.size_push] using dn)
        | exact dn
        | (have q := dn; rw [Heap.size_push, Heap.size_push] at q; exact q)
    exact ⟨rfl, hq h' tk' (hp.objs.size + 1) dx ⟨old, Nat.le_succ _, ⟨_, _, hx, rfl, rfl, rfl, rfl, rfl⟩, Nat.le_trans (Nat.le_trans (Nat.le_succ _) (Nat.le_succ _)) z, dne, hns⟩⟩
end
end FoX_thing
namespace L2
open PySem PySem.Spec PyProof.Rows
theorem relO_thing {v : V} {v' : Value} (r : RelV v v') (f : Str) : RelO (List.lookup f [((Str.ofString "thing"), v)]) (if f = (Str.ofString "thing") then some v' else none) := by
  by_cases hw : f = (Str.ofString "thing")
  · subst hw
    rw [if_pos rfl]
    have q : List.lookup (Str.ofString "thing") [((Str.ofString "thing"), v)] = some v := by simp [List.lookup]
    rw [q]
    exact r
  · rw [if_neg hw]
    have qw : (f == (Str.ofString "thing")) = false := by simpa using hw
    have q2 : List.lookup f [((Str.ofString "thing"), v)] = none := by simp [List.lookup, qw]
    rw [q2]
    trivial
section
variable {X : Cx} {C fI : Addr} {nm : Str}
/-- Name(e) -/
def tMkX_thing (C : Addr) (ta : TA) : St → Hp → XK → Prop := fun σ H Q => ta σ H fun vs H1 => ∃ v, vs = [v] ∧ ∀ d, H1 d = none → Q (.ref C) (some d) (upd H1 d (.xd [((Str.ofString "thing"), v)]))
theorem pmkN_thing {a : Expr} {ta : TA} {p pos : Pos} {k : Nat} (T : FoX_thing.XTxt X.prog X.K X.mg C fI) (gC : X.mg nm = some (.ref C)) (hr : Room k X.A) (ha : PA X [a] ta) (hg : Gl X nm) (hdb : (nm == ("__debug__" : Str)) = false)
    (he : starEach (a :: []) X.env = (false, eval a X.env) :: starEach [] X.env := by rfl) (hpl : (backTo pos (starEach [] X.env)).any (·.1) = false := by rfl) :
    L2N.PMk X (.Call (.Name nm p) [a] [] pos) (tMkX_thing C ta) := by
  intro pins s σ H Q I h
  refine wpAny_Call_Name_kw (ld_glob I hg gC ?_ hdb)
  refine PySem.W.callWith_K (h₀ := X.base) I.ok.mod.kin T.kC (thn (ha.run pos pins s σ H _ I h) fun us s1 hh => ?_) he hpl
  obtain ⟨vs, H1, I1, r1, v, ev, q1⟩ := hh
  subst ev
  refine ⟨I1.kIn, ?_⟩
  cases r1 with
  | cons rv rn =>
    rename_i v' us'
    cases rn
    show wpAny _ _ (call (.ref C) [v']) _ _ _
    have hlim := I1.nolimit
    have hgl : s1.heap.Ns mainGlobals X.mg := I1.mod.glob.keeps I1.bk
    obtain ⟨mb, hb1, hb2⟩ := I1.mod.blt
    have hbl : ∃ mb, s1.heap.Ns builtinsNs mb ∧ ∀ y : Str, y ≠ "__name__" → mb y = bootBuiltins y := ⟨mb, hb1.keeps I1.bk, hb2⟩
    obtain ⟨hp, g, dr, tk, os⟩ := s1
    refine wpAny_call (FoX_thing.x_made T I1.kIn hgl hbl hlim (by have := hr.dp; omega) fun h' tk' e d M => ?_)
    show L2N.MkP X pins σ Q (.ref e) ⟨h', g, dr, tk', os⟩
    obtain ⟨oe, fv, hoe, hc, hd, hdat, h1, h2⟩ := M.obj
    have hns := M.ns
    obtain ⟨G', g1, g2⟩ := restrict h' fun b => decide (b ≠ e)
    have gk : ∀ b, b ≠ e → G'.get? b = h'.get? b := fun b hb => g1 b (decide_eq_true hb)
    have ge : G'.get? e = none := g2 e (by simp)
    have old : ∀ b o, hp.get? b = some o → G'.get? b = some o := fun b o q => (gk b (Nat.ne_of_lt (Nat.lt_of_lt_of_le (Heap.lt_size q) M.new))).trans (M.keep b o q)
    have ob : ObjOk X.prog X.w (upd H1 d (.xd [((Str.ofString "thing"), v)])) G' d (.xd [((Str.ofString "thing"), v)]) :=
      ⟨_, hns.at (fun o q => (gk d M.dne).trans q), fun f => relO_thing rv f⟩
    have J : Inv X pins σ (upd H1 d (.xd [((Str.ofString "thing"), v)])) ⟨G', g, dr, tk', os⟩ := I1.laid (t' := tk') old M.dbig ob
    refine ⟨e, oe, fv, ⟨G', g, dr, tk', os⟩, _, .ref C, some d, rfl, J, fun b o q => ?_, ge, hoe, ⟨hc, hd, fun vs e => by rw [hdat] at e; cases e; exact h2⟩, hdat, h1, ?_, rfl, I1.bare, raises_own T.exC T.tyC, q1 d (I1.hok.fresh M.dbig)⟩
    · by_cases hb : b = e
      · have q' : G'.get? b = some o := q
        rw [hb, ge] at q'; cases q'
      · exact (gk b hb).symm.trans q
    · rw [upd_ne (Ne.symm M.dne)]
      exact I1.hok.fresh M.new
theorem pmk_thing {a : Expr} {ta : TA} {p pos : Pos} {k : Nat} (T : FoX_thing.XTxt X.prog X.K X.mg C fI) (gC : X.mg nm = some (.ref C)) (hr : Room k X.A) (ha : PA X [a] ta) (hg : Gl X nm) (hdb : (nm == ("__debug__" : Str)) = false)
    (he : starEach (a :: []) X.env = (false, eval a X.env) :: starEach [] X.env := by rfl) (hpl : (backTo pos (starEach [] X.env)).any (·.1) = false := by rfl) :
    PMk X (.Call (.Name nm p) [a] [] pos) (tMkX_thing C ta) := by
  intro pins s σ H Q I h
  refine wpAny_mono (pmkN_thing T gC hr ha hg hdb he hpl pins s σ H Q I h) (fun u s' z => ?_) fun _ _ x => x
  obtain ⟨e, oe, vs, sI, H', cls, d, r1, r2, r3, r4, r5, r6, r7⟩ := z
  exact ⟨e, oe, vs, sI, H', cls, d, r1, r2, r3, r4, r5, r6.zc, r7⟩
/-- raise Name(e) -/
def tRaiseX_thing (C : Addr) (W : WX) (ta : TA) : TS := fun _ σ H => tMkX_thing C ta σ H fun cls d H' => W cls d σ H'
theorem ps_raise_thing {a : Expr} {ta : TA} {W : WX} {p pos pos2 : Pos} {k : Nat} (hc : X.calm = true) (T : FoX_thing.XTxt X.prog X.K X.mg C fI) (gC : X.mg nm = some (.ref C)) (hr : Room k X.A) (tk : Takes X W) (ha : PA X [a] ta) (hg : Gl X nm := by rfl) (hdb : (nm == ("__debug__" : Str)) = false := by decide)
    (he : starEach (a :: []) X.env = (false, eval a X.env) :: starEach [] X.env := by rfl) (hpl : (backTo pos (starEach [] X.env)).any (·.1) = false := by rfl) :
    PS X (.Raise (some (.Call (.Name nm p) [a] [] pos)) none pos2) (tRaiseX_thing C W ta) := ps_raise hc tk (pmk_thing T gC hr ha hg hdb he hpl)
theorem ps_raiseN_thing {a : Expr} {ta : TA} {W : WX} {p pos pos2 : Pos} {k : Nat} (hc : X.calm = true) (T : FoX_thing.XTxt X.prog X.K X.mg C fI) (gC : X.mg nm = some (.ref C)) (hr : Room k X.A) (tk : L2N.Takes X W) (ha : PA X [a] ta) (hg : Gl X nm := by rfl) (hdb : (nm == ("__debug__" : Str)) = false := by decide)
    (he : starEach (a :: []) X.env = (false, eval a X.env) :: starEach [] X.env := by rfl) (hpl : (backTo pos (starEach [] X.env)).any (·.1) = false := by rfl) :
    PS X (.Raise (some (.Call (.Name nm p) [a] [] pos)) none pos2) (tRaiseX_thing C W ta) := L2N.ps_raise hc tk (pmkN_thing T gC hr ha hg hdb he hpl)
/-- e.field, e the error that the suite holds (at a; its class cls, its dict d) -/
def tByX_thing (C : Addr) (a : Addr) (cls : Value) (d : Option Addr) (te : TE) : TE := fun σ H Q => te σ H fun x H1 => x = .ref a ∧ cls = .ref C ∧ ∃ (dd : Addr) (v : V), d = some dd ∧ H1 dd = some (.xd [((Str.ofString "thing"), v)]) ∧ Q v H1
theorem pe_by_thing {a : Addr} {oe : Obj} {cls : Value} {d : Option Addr} {pn : List (Addr × Obj)} {e : Expr} {te : TE} {pos : Pos} (T : FoX_thing.XTxt X.prog X.K X.mg C fI) (hz : Zc cls d oe) (hf : ∃ vs, oe.data = .fields vs) (he : PE (X.suite a ((a, oe) :: pn)) e te)
    (hb : attributeBase e (Str.ofString "thing") X.env (eval e X.env) = eval e X.env := by rfl) :
    PE (X.suite a ((a, oe) :: pn)) (.Attribute e (Str.ofString "thing") pos) (tByX_thing C a cls d te) := by
  refine ⟨fun pins s σ H Q I h => ?_⟩
  refine attr_of hb (thn (he.run pins s σ H _ I h) fun u s1 hh => ?_)
  obtain ⟨x, H1, I1, rx, ex, ec, dd, v, ed, ea, q⟩ := hh
  subst ex
  obtain rfl : u = Value.ref a := rx
  subst ec
  subst ed
  obtain ⟨ha, _⟩ := I1.pin (a, oe) (List.mem_append_left _ List.mem_cons_self)
  obtain ⟨vs, hd⟩ := hf
  have hx : ObjOk X.prog X.w H1 s1.heap dd (.xd [((Str.ofString "thing"), v)]) := I1.hok dd _ ea
  obtain ⟨mA, hns, hr⟩ := hx
  obtain ⟨od, ho, hl⟩ := lookIn_ns hns
  have l : List.lookup (Str.ofString "thing") [((Str.ofString "thing"), v)] = some v := by simp [List.lookup]
  obtain ⟨u, hu, ru⟩ := RelO.some_of (v := v) (o := mA (Str.ofString "thing")) (by rw [← l]; exact hr (Str.ofString "thing"))
  have J : PySem.W.InstAt s1.heap a oe C (some od) := ⟨ha, hz.1, by unfold PySem.W.notCls; rw [hd] <;> rfl, by rw [hz.2]; exact ho⟩
  exact HandSPX.exc_get I1.kIn J T.ga T.gg T.exC (PySem.W.findObj_own T.hdC T.noN rfl (by rw [hl, hu])) (handed_of ru) ⟨v, H1, I1.tok _, ru, q⟩
end
end L2
set_option Elab.async false
set_option linter.all false
set_option maxRecDepth 100000
set_option maxHeartbeats 2000000
namespace FoX_three
open PySem PySem.W PySem.Calls PyProof.Rows PySem.HandSPX FoX
/-- the text of such an __init__ -/
def xB (msg : Str) (a1 a2 a3 a4 a5 a6 q1 q2 q3 q4 : Pos) (j : Nat) : List Stmt :=
  [.Expr (.Call (.Attribute (.Call (.Name "super" a1) [] [] a2) "__init__" a3) [.Constant (.str msg) j a4] [] a5) a6, .Assign [.Attribute (.Name "self" q1) (Str.ofString "three") q2] (.Name (Str.ofString "three") q3) q4]
def xS : Scope := { kind := .function, names := [(Str.ofString "self", .local), ((Str.ofString "three"), .local), (Str.ofString "__class__", .free), (Str.ofString "super", .globalImplicit)], isGenerator := false, isCoroutine := false, more := [] }
def xA (p1 p2 : Pos) : Arguments := { posonlyargs := [], args := [{ arg := "self", annotation := none, pos := p1 }, { arg := (Str.ofString "three"), annotation := none, pos := p2 }], vararg := none, kwonlyargs := [], kw_defaults := [], kwarg := none, defaults := [] }
/-- what the written part says of the class at C and its __init__ at fI -/
structure XTxt (P : Program) (K : Frag) (mg : Str → Option Value) (C fI : Addr) : Prop where
  cls : ∃ nm q N bs bm sn sub ab col dd k0 k1 k2 k3 k5, K.lookup C = some (excClassObj nm q C N bs bm true sn sub ab col dd k0 k1 k2 k3 k5 "ValueError.__new__") ∧ refsVE bm = true
  sa : findIn K (.ref C) "__setattr__" = some (some (.builtin "object.__setattr__"))
  ga : findIn K (.ref C) "__getattribute__" = some (some (.builtin "BaseException.__getattribute__"))
  gg : findIn K (.ref C) "__getattr__" = some none
  noN : findIn K (.ref C) (Str.ofString "three") = some none
  iC : findIn K (.ref C) "__init__" = some (some (.ref fI))
  tC : typeIn K (.ref fI) = some (.type "function")
  kC : keepIn K (.ref C) = true
  exC : subIn K (.ref C) (.type "BaseException") = some true
  tyC : typeIn K (.ref C) = some (.type "type")
  hdC : hasDictIn K C = true
  sup : ks_superIn K C C "__init__" = some (some (.builtin "ValueError.__init__"))
  tp : nsIn K cStatics "thirdparty.any" = some none
  zs : mg "super" = none
  ve : subIn K (.ref C) (.type "ValueError") = some true
  mr : mroIn K C (.ref C) = some true
  top : (P.main.scope.names.lookup ("super" : Str)).isSome = false
  fn : ∃ (qual msg : Str) (oc : Value) (od : Option Addr) (doc pm kV : Value) (an : Option Addr) (cc cda : Addr) (ct : Value) (osl : Array (Option Value)) (p1 p2 a1 a2 a3 a4 a5 a6 q1 q2 q3 q4 : Pos) (j : Nat) (ccl cl : Value) (cdd cld : Option Addr) (vs : Array Value) (ccs csl : Array (Option Value)) (file : Str) (tf : Tok),
    K.lookup fI = some ⟨oc, od, .func (ksFn "__init__" qual (xA p1 p2) (xB msg a1 a2 a3 a4 a5 a6 q1 q2 q3 q4 j) xS .none kV doc pm an (.ref cda) ct cc), osl⟩ ∧ codeIn K (.ref cda) qual = true ∧
    K.lookup cda = some ⟨ccl, cdd, .fields vs, ccs⟩ ∧ vs[2]? = some (.str file tf) ∧ ((P.main.file : Str) == file) = true ∧ (a3.endLine == a5.line) = true ∧ K.lookup cc = some ⟨cl, cld, .cell (some (.ref C)), csl⟩
theorem xcel : ∀ y ∈ xS.names, y.2 ≠ .cell := by decide
/-- the call of super's method, its tree -/
theorem x_tree (msg : Str) (a1 a2 a3 a4 a5 : Pos) (j : Nat) (env : Env) (hl : (a3.endLine == a5.line) = true) : eval (.Call (.Attribute (.Call (.Name "super" a1) [] [] a2) "__init__" a3) [.Constant (.str msg) j a4] [] a5) env = (do
      let ov ← attributeBase (.Call (.Name "super" a1) [] [] a2) "__init__" env (eval (.Call (.Name "super" a1) [] [] a2) env)
      standAt a3.atName
      let (f, first) ← holding [ov] (getMethod ov "__init__" (do return (← importBound (.Call (.Name "super" a1) [] [] a2) env).getD true))
      callWith a5 f first (backTo a5 (starEach [.Constant (.str msg) j a4] env)) []) := by
  rw [arm_eval_Call]
  unfold methodCall methodCallPos
  simp only [hl, Bool.or_true, if_true]
  rfl
/-- what __init__ leaves of a fresh error at x -/
structure XEnd (h h' : Heap) (x C dx : Addr) (v : Value) : Prop where
  keep : ∀ b o, b ≠ x → h.get? b = some o → h'.get? b = some o
  obj : ∃ t1 : Addr, h'.get? x = some { cls := .ref C, dict := some dx, data := .fields #[.ref t1, .none, .none, .none, .bool false, .none] }
  dbig : h.objs.size ≤ dx
  dne : dx ≠ x
  ns : h'.Ns1 dx (fun y => if y = (Str.ofString "three") then some v else none)
section
variable {prog : Program} {w : World} {A : Around} {E : Value → Shared → Prop} {R : Result → Shared → Prop} {s : Shared} {K : Frag} {mg : Str → Option Value} {C fI : Addr}
theorem x_init (T : XTxt prog K mg C fI) {x t0 : Addr} {v : Value} (X : K.In s.heap) (hg : s.heap.Ns mainGlobals mg) (hbl : ∃ mb, s.heap.Ns builtinsNs mb ∧ ∀ y : Str, y ≠ "__name__" → mb y = bootBuiltins y) (hlim : s.heap.NoLimit)
    (hx : s.heap.get? x = some (HandSPX.excO C t0)) (hnx : K.lookup x = none) (hroom : A.depth < recursionLimit) (hq : ∀ h' tk dx, XEnd s.heap h' x C dx v → R (.ok (.ret .none)) { s with heap := h', toks := tk }) :
    codeAny (model prog w) A (.call (.ref fI) ⟨[.ref x, v], []⟩) R s := by
  obtain ⟨qual, msg, oc, od, doc, pm, kV, an, cc, cda, ct, osl, p1, p2, a1, a2, a3, a4, a5, a6, q1, q2, q3, q4, j, ccl, cl, cdd, cld, vs, ccs, csl, file, tf, ho, hcd, hcode, hvs, hfile, hline, hcell⟩ := T.fn
  obtain ⟨nm, q, N, bs, bm, sn, sub, ab, col, dd, k0, k1, k2, k3, k5, hC, hbm⟩ := T.cls
  have hcl : clsIn K C = some { name := nm, bases := bs, mro := .ref C :: bm, ns := N, qualname := q, hasDict := true, slotNames := sn, subclasses := sub, abstract := ab, collection := col, hasDel := false } := by unfold clsIn; rw [hC] <;> rfl
  obtain ⟨hp, g, d, tk, os⟩ := s
  refine ks_codeAny_call_defAt (fd := ksFn "__init__" qual (xA p1 p2) (xB msg a1 a2 a3 a4 a5 a6 q1 q2 q3 q4 j) xS .none kV doc pm an (.ref cda) ct cc) (body := xB msg a1 a2 a3 a4 a5 a6 q1 q2 q3 q4 j) (binds := [(Str.ofString "self", .ref x), ((Str.ofString "three"), v)]) hroom (X _ _ ho) rfl hlim (codeRec_of X hcd) rfl (BindsTo.of_eq rfl) xcel ?_ (fun h₁ hns k => ?_) rfl rfl rfl
  · intro y hy
    rcases List.mem_cons.mp hy with rfl | hy
    · exact rfl
    · rcases List.mem_cons.mp hy with rfl | hy
      · exact rfl
      · cases hy
  have X₁ : K.In h₁ := X.keeps k
  have hx₁ : h₁.get? x = some (HandSPX.excO C t0) := k _ _ hx
  have I₁ : InstAt h₁ x (HandSPX.excO C t0) C none := ⟨hx₁, rfl, rfl, trivial⟩
  have vself : (fun y : Str => List.lookup y (List.reverse [((Str.ofString "self"), Value.ref x), ((Str.ofString "three"), v)])) (Str.ofString "self") = some (.ref x) := by
    have e : ((Str.ofString "self") == (Str.ofString "three")) = false := by decide +kernel
    simp [List.lookup, e]
  have vfld : (fun y : Str => List.lookup y (List.reverse [((Str.ofString "self"), Value.ref x), ((Str.ofString "three"), v)])) (Str.ofString "three") = some v := by
    simp [List.lookup]
  obtain ⟨mb, hb1, hb2⟩ := hbl
  -- super().__init__(text)
  refine ks_wpAt_execs_cons (ks_wpAt_Expr_any (ks_wpAt_MethodCall ?_ (x_tree msg a1 a2 a3 a4 a5 j _ hline)) rfl rfl)
  refine ks_wpAt_super_base (f := fI) (fd := ksFn "__init__" qual (xA p1 p2) (xB msg a1 a2 a3 a4 a5 a6 q1 q2 q3 q4 j) xS .none kV doc pm an (.ref cda) ct cc) (ar := { arg := "self", annotation := none, pos := p1 }) rfl rfl rfl rfl (X₁ _ _ ho) rfl rfl rfl (X₁ _ _ hcode) rfl hvs hfile T.top ?_
  refine ks_loadName_global rfl rfl (loadGlobal_builtin (hg.keeps k) T.zs (hb1.keeps k) ((hb2 _ (by decide +kernel)).trans (by decide +kernel)) ⟨rfl, ?_⟩)
  refine wpAny_loadName_free rfl rfl rfl ⟨_, X₁ _ _ hcell, rfl⟩ ?_
  refine wpAny_loadName_local rfl rfl hns vself ?_
  obtain ⟨oD, hD1, hD2⟩ : ∃ oD, h₁.get? C = some oD ∧ oD.data = .cls { name := nm, bases := bs, mro := .ref C :: bm, ns := N, qualname := q, hasDict := true, slotNames := sn, subclasses := sub, abstract := ab, collection := col, hasDel := false } := ⟨_, X₁ _ _ hC, rfl⟩
  refine ks_wpAny_isType_cls hD1 hD2 ⟨rfl, ?_⟩
  refine ks_wpAny_call_super hD1 hD2 hx₁ rfl (fun c e => by cases e) (looks_mroIn X₁ T.mr) (fun h₂ e₂ k₂ => ?_)
  have X₂ : K.In h₂ := X₁.keeps k₂
  have hx₂ : h₂.get? x = some (HandSPX.excO C t0) := k₂ _ _ hx₁
  have I₂ : InstAt h₂ x (HandSPX.excO C t0) C none := ⟨hx₂, rfl, rfl, trivial⟩
  have hsup := T.sup
  unfold ks_superIn at hsup
  rw [hcl] at hsup
  have hmro : Looks (model prog w) h₂ (mroOf (.ref C)) (.ref C :: bm) := (looks_clsIn X₂ hcl).andThen .now
  refine kxs_getMethod kxs_ValueError e₂ (looks_opaque X₂ T.tp) hmro rfl X₂ hsup (I₂.type.andThen (looks_subIn X₂ T.ve)) (ks_ne X₂ I₂ hcl) rfl ?_
  -- the wrapper called
  have hk₃ : ∀ b o, h₂.get? b = some o → (h₂.push (kxs_mw "ValueError.__init__" x)).get? b = some o := fun b o e => Heap.get?_push_of_some _ e
  have hu₃ : (h₂.push (kxs_mw "ValueError.__init__" x)).get? h₂.objs.size = some (kxs_mw "ValueError.__init__" x) := Heap.get?_push_at rfl rfl
  refine kxs_callWith (i := "ValueError.__init__") (x := x) rfl (evalArgs_plain (Calls.spliced_cons (Calls.Constant_str (pos := a4) (k := j) (Calls.spliced_nil ⟨hu₃, ?_⟩))))
  refine mw_call (X₂.keeps hk₃ _ _ hC) (hk₃ _ _ hx₂) hu₃ (one_sz _) (fun h₄ t1 k₄ hx₄ => ?_)
  have kall : ∀ b o, b ≠ x → hp.get? b = some o → h₄.get? b = some o := fun b o hb e => k₄ b o hb (hk₃ b o (k₂ b o (k b o e)))
  have xC : x ≠ C := ks_ne X₂ I₂ hcl
  have X₄ : K.In h₄ := fun b o e => kall b o (fun z => by rw [z, hnx] at e; cases e) (X b o e)
  have hL : hp.objs.size ≠ x := Nat.ne_of_gt (Heap.lt_size hx)
  have hns₄ : h₄.Ns hp.objs.size (fun y => List.lookup y (List.reverse [((Str.ofString "self"), Value.ref x), ((Str.ofString "three"), v)])) := by
    obtain ⟨oL, es, ep, hoL, r⟩ := hns
    exact ⟨oL, es, ep, k₄ _ _ hL (hk₃ _ _ (k₂ _ _ hoL)), r⟩
  -- self.field = field
  refine wpAt_of_wpAny ?_
  refine wpAny_execs_cons (plainObj_wpAny_Assign_Attribute ?_)
  refine wpAny_Name (wpAny_loadName_local rfl rfl hns₄ vfld (wpAny_Name (wpAny_loadName_local rfl rfl hns₄ vself ?_) (by decide))) (by decide)
  refine set_plain X₄ (ox := HandSPX.excO C t1) (od := none) ⟨hx₄, rfl, rfl, trivial⟩ T.sa ?_
  refine exc_osa X₄ hx₄ hcl (show refsVE (.ref C :: bm) = true from hbm) rfl T.noN (fun h₅ tk₅ dx k₅ dn dne hx₅ hn₅ => ?_)
  refine wpAny_execs_nil (hq h₅ tk₅ dx ⟨fun b o hb e => k₅ b o hb (kall b o hb e), ⟨t1, hx₅⟩, ?_, dne, hn₅⟩)
  have z1 : hp.objs.size < h₄.objs.size := hns₄.lt
  exact Nat.le_of_lt (Nat.lt_of_lt_of_le z1 dn)
/-- a made error -/
structure XMade (h h' : Heap) (e C d : Addr) (v : Value) : Prop where
  keep : ∀ b o, h.get? b = some o → h'.get? b = some o
  new : h.objs.size ≤ e
  obj : ∃ oe vs, h'.get? e = some oe ∧ oe.cls = .ref C ∧ oe.dict = some d ∧ oe.data = .fields vs ∧ vs[1]? = some .none ∧ vs[2]? = some .none
  dbig : h.objs.size ≤ d
  dne : d ≠ e
  ns : h'.Ns1 d (fun y => if y = (Str.ofString "three") then some v else none)
theorem x_made (T : XTxt prog K mg C fI) {v : Value} (X : K.In s.heap) (hg : s.heap.Ns mainGlobals mg) (hbl : ∃ mb, s.heap.Ns builtinsNs mb ∧ ∀ y : Str, y ≠ "__name__" → mb y = bootBuiltins y) (hlim : s.heap.NoLimit) (hroom : A.depth + 1 < recursionLimit)
    (hq : ∀ h' tk e d, XMade s.heap h' e C d v → R (.ok (.ret (.ref e))) { s with heap := h', toks := tk }) : codeAny (model prog w) A (.call (.ref C) ⟨[v], []⟩) R s := by
  obtain ⟨nm, q, N, bs, bm, sn, sub, ab, col, dd, k0, k1, k2, k3, k5, hC, hbm⟩ := T.cls
  obtain ⟨hp, g, dr, tk, os⟩ := s
  have k : ∀ b o, hp.get? b = some o → ((hp.push (kdv_tup [v])).push (HandSPX.excO C hp.objs.size)).get? b = some o := fun b o e => Heap.get?_push_of_some _ (Heap.get?_push_of_some _ e)
  have hget : ((hp.push (kdv_tup [v])).push (HandSPX.excO C hp.objs.size)).get? (hp.objs.size + 1) = some (HandSPX.excO C hp.objs.size) := by heap_get
  have hnx : K.lookup (hp.objs.size + 1) = none := by
    cases e : K.lookup (hp.objs.size + 1) with
    | none => rfl
    | some o => exact absurd (Nat.lt_of_succ_lt (Heap.lt_size (X _ _ e))) (Nat.lt_irrefl _)
  refine call_own F.excBase_ValueError (fun Y => refsVE_contains Y bm hbm) (X _ _ hC) (looks_findIn X T.iC) (fun self => bind_fn X self T.tC) (one_sz v) ?_
  obtain ⟨mb, hb1, hb2⟩ := hbl
  refine x_init (s := ⟨(hp.push (kdv_tup [v])).push (HandSPX.excO C hp.objs.size), g, dr, tk, os⟩) T (X.keeps k) (hg.keeps k) ⟨mb, hb1.keeps k, hb2⟩ (hlim.keeps k) hget hnx ?_ fun h' tk' dx ⟨k', ⟨t1, hx⟩, dn, dne, hns⟩ => ?_
  · show A.depth + 1 < recursionLimit
    exact hroom
  · have old : ∀ b o, hp.get? b = some o → h'.get? b = some o := fun b o e => k' b o (Nat.ne_of_lt (Nat.lt_succ_of_lt (Heap.lt_size e))) (k b o e)
    have z : hp.objs.size + 1 + 1 ≤ dx := by
      first
        | (simpa only [Heap.size_push] using dn)
        | exact dn
        | (have q := dn; rw [Heap.size_push, Heap.size_push] at q; exact q)
    exact ⟨rfl, hq h' tk' (hp.objs.size + 1) dx ⟨old, Nat.le_succ _, ⟨_, _, hx, rfl, rfl, rfl, rfl, rfl⟩, Nat.le_trans (Nat.le_trans (Nat.le_succ _) (Nat.le_succ _)) z, dne, hns⟩⟩
end
end FoX_three
namespace L2
open PySem PySem.Spec PyProof.Rows
theorem relO_three {v : V} {v' : Value} (r : RelV v v') (f : Str) : RelO (List.lookup f [((Str.ofString "three"), v)]) (if f = (Str.ofString "three") then some v' else none) := by
  by_cases hw : f = (Str.ofString "three")
  · subst hw
    rw [if_pos rfl]
    have q : List.lookup (Str.ofString "three") [((Str.ofString "three"), v)] = some v := by simp [List.lookup]
    rw [q]
    exact r
  · rw [if_neg hw]
    have qw : (f == (Str.ofString "three")) = false := by simpa using hw
    have q2 : List.lookup f [((Str.ofString "three"), v)] = none := by simp [List.lookup, qw]
    rw [q2]
    trivial
section
variable {X : Cx} {C fI : Addr} {nm : Str}
/-- Name(e) -/
def tMkX_three (C : Addr) (ta : TA) : St → Hp → XK → Prop := fun σ H Q => ta σ H fun vs H1 => ∃ v, vs = [v] ∧ ∀ d, H1 d = none → Q (.ref C) (some d) (upd H1 d (.xd [((Str.ofString "three"), v)]))
theorem pmkN_three {a : Expr} {ta : TA} {p pos : Pos} {k : Nat} (T : FoX_three.XTxt X.prog X.K X.mg C fI) (gC : X.mg nm = some (.ref C)) (hr : Room k X.A) (ha : PA X [a] ta) (hg : Gl X nm) (hdb : (nm == ("__debug__" : Str)) = false)
    (he : starEach (a :: []) X.env = (false, eval a X.env) :: starEach [] X.env := by rfl) (hpl : (backTo pos (starEach [] X.env)).any (·.1) = false := by rfl) :
    L2N.PMk X (.Call (.Name nm p) [a] [] pos) (tMkX_three C ta) := by
  intro pins s σ H Q I h
  refine wpAny_Call_Name_kw (ld_glob I hg gC ?_ hdb)
  refine PySem.W.callWith_K (h₀ := X.base) I.ok.mod.kin T.kC (thn (ha.run pos pins s σ H _ I h) fun us s1 hh => ?_) he hpl
  obtain ⟨vs, H1, I1, r1, v, ev, q1⟩ := hh
  subst ev
  refine ⟨I1.kIn, ?_⟩
  cases r1 with
  | cons rv rn =>
    rename_i v' us'
    cases rn
    show wpAny _ _ (call (.ref C) [v']) _ _ _
    have hlim := I1.nolimit
    have hgl : s1.heap.Ns mainGlobals X.mg := I1.mod.glob.keeps I1.bk
    obtain ⟨mb, hb1, hb2⟩ := I1.mod.blt
    have hbl : ∃ mb, s1.heap.Ns builtinsNs mb ∧ ∀ y : Str, y ≠ "__name__" → mb y = bootBuiltins y := ⟨mb, hb1.keeps I1.bk, hb2⟩
    obtain ⟨hp, g, dr, tk, os⟩ := s1
    refine wpAny_call (FoX_three.x_made T I1.kIn hgl hbl hlim (by have := hr.dp; omega) fun h' tk' e d M => ?_)
    show L2N.MkP X pins σ Q (.ref e) ⟨h', g, dr, tk', os⟩
    obtain ⟨oe, fv, hoe, hc, hd, hdat, h1, h2⟩ := M.obj
    have hns := M.ns
    obtain ⟨G', g1, g2⟩ := restrict h' fun b => decide (b ≠ e)
    have gk : ∀ b, b ≠ e → G'.get? b = h'.get? b := fun b hb => g1 b (decide_eq_true hb)
    have ge : G'.get? e = none := g2 e (by simp)
    have old : ∀ b o, hp.get? b = some o → G'.get? b = some o := fun b o q => (gk b (Nat.ne_of_lt (Nat.lt_of_lt_of_le (Heap.lt_size q) M.new))).trans (M.keep b o q)
    have ob : ObjOk X.prog X.w (upd H1 d (.xd [((Str.ofString "three"), v)])) G' d (.xd [((Str.ofString "three"), v)]) :=
      ⟨_, hns.at (fun o q => (gk d M.dne).trans q), fun f => relO_three rv f⟩
    have J : Inv X pins σ (upd H1 d (.xd [((Str.ofString "three"), v)])) ⟨G', g, dr, tk', os⟩ := I1.laid (t' := tk') old M.dbig ob
    refine ⟨e, oe, fv, ⟨G', g, dr, tk', os⟩, _, .ref C, some d, rfl, J, fun b o q => ?_, ge, hoe, ⟨hc, hd, fun vs e => by rw [hdat] at e; cases e; exact h2⟩, hdat, h1, ?_, rfl, I1.bare, raises_own T.exC T.tyC, q1 d (I1.hok.fresh M.dbig)⟩
    · by_cases hb : b = e
      · have q' : G'.get? b = some o := q
        rw [hb, ge] at q'; cases q'
      · exact (gk b hb).symm.trans q
    · rw [upd_ne (Ne.symm M.dne)]
      exact I1.hok.fresh M.new
theorem pmk_three {a : Expr} {ta : TA} {p pos : Pos} {k : Nat} (T : FoX_three.XTxt X.prog X.K X.mg C fI) (gC : X.mg nm = some (.ref C)) (hr : Room k X.A) (ha : PA X [a] ta) (hg : Gl X nm) (hdb : (nm == ("__debug__" : Str)) = false)
    (he : starEach (a :: []) X.env = (false, eval a X.env) :: starEach [] X.env := by rfl) (hpl : (backTo pos (starEach [] X.env)).any (·.1) = false := by rfl) :
    PMk X (.Call (.Name nm p) [a] [] pos) (tMkX_three C ta) := by
  intro pins s σ H Q I h
  refine wpAny_mono (pmkN_three T gC hr ha hg hdb he hpl pins s σ H Q I h) (fun u s' z => ?_) fun _ _ x => x
  obtain ⟨e, oe, vs, sI, H', cls, d, r1, r2, r3, r4, r5, r6, r7⟩ := z
  exact ⟨e, oe, vs, sI, H', cls, d, r1, r2, r3, r4, r5, r6.zc, r7⟩
/-- raise Name(e) -/
def tRaiseX_three (C : Addr) (W : WX) (ta : TA) : TS := fun _ σ H => tMkX_three C ta σ H fun cls d H' => W cls d σ H'
theorem ps_raise_three {a : Expr} {ta : TA} {W : WX} {p pos pos2 : Pos} {k : Nat} (hc : X.calm = true) (T : FoX_three.XTxt X.prog X.K X.mg C fI) (gC : X.mg nm = some (.ref C)) (hr : Room k X.A) (tk : Takes X W) (ha : PA X [a] ta) (hg : Gl X nm := by rfl) (hdb : (nm == ("__debug__" : Str)) = false := by decide)
    (he : starEach (a :: []) X.env = (false, eval a X.env) :: starEach [] X.env := by rfl) (hpl : (backTo pos (starEach [] X.env)).any (·.1) = false := by rfl) :
    PS X (.Raise (some (.Call (.Name nm p) [a] [] pos)) none pos2) (tRaiseX_three C W ta) := ps_raise hc tk (pmk_three T gC hr ha hg hdb he hpl)
theorem ps_raiseN_three {a : Expr} {ta : TA} {W : WX} {p pos pos2 : Pos} {k : Nat} (hc : X.calm = true) (T : FoX_three.XTxt X.prog X.K X.mg C fI) (gC : X.mg nm = some (.ref C)) (hr : Room k X.A) (tk : L2N.Takes X W) (ha : PA X [a] ta) (hg : Gl X nm := by rfl) (hdb : (nm == ("__debug__" : Str)) = false := by decide)
    (he : starEach (a :: []) X.env = (false, eval a X.env) :: starEach [] X.env := by rfl) (hpl : (backTo pos (starEach [] X.env)).any (·.1) = false := by rfl) :
    PS X (.Raise (some (.Call (.Name nm p) [a] [] pos)) none pos2) (tRaiseX_three C W ta) := L2N.ps_raise hc tk (pmkN_three T gC hr ha hg hdb he hpl)
/-- e.field, e the error that the suite holds (at a; its class cls, its dict d) -/
def tByX_three (C : Addr) (a : Addr) (cls : Value) (d : Option Addr) (te : TE) : TE := fun σ H Q => te σ H fun x H1 => x = .ref a ∧ cls = .ref C ∧ ∃ (dd : Addr) (v : V), d = some dd ∧ H1 dd = some (.xd [((Str.ofString "three"), v)]) ∧ Q v H1
theorem pe_by_three {a : Addr} {oe : Obj} {cls : Value} {d : Option Addr} {pn : List (Addr × Obj)} {e : Expr} {te : TE} {pos : Pos} (T : FoX_three.XTxt X.prog X.K X.mg C fI) (hz : Zc cls d oe) (hf : ∃ vs, oe.data = .fields vs) (he : PE (X.suite a ((a, oe) :: pn)) e te)
    (hb : attributeBase e (Str.ofString "three") X.env (eval e X.env) = eval e X.env := by rfl) :
    PE (X.suite a ((a, oe) :: pn)) (.Attribute e (Str.ofString "three") pos) (tByX_three C a cls d te) := by
  refine ⟨fun pins s σ H Q I h => ?_⟩
  refine attr_of hb (thn (he.run pins s σ H _ I h) fun u s1 hh => ?_)
  obtain ⟨x, H1, I1, rx, ex, ec, dd, v, ed, ea, q⟩ := hh
  subst ex
  obtain rfl : u = Value.ref a := rx
  subst ec
  subst ed
  obtain ⟨ha, _⟩ := I1.pin (a, oe) (List.mem_append_left _ List.mem_cons_self)
  obtain ⟨vs, hd⟩ := hf
  have hx : ObjOk X.prog X.w H1 s1.heap dd (.xd [((Str.ofString "three"), v)]) := I1.hok dd _ ea
  obtain ⟨mA, hns, hr⟩ := hx
  obtain ⟨od, ho, hl⟩ := lookIn_ns hns
  have l : List.lookup (Str.ofString "three") [((Str.ofString "three"), v)] = some v := by simp [List.lookup]
  obtain ⟨u, hu, ru⟩ := RelO.some_of (v := v) (o := mA (Str.ofString "three")) (by rw [← l]; exact hr (Str.ofString "three"))
  have J : PySem.W.InstAt s1.heap a oe C (some od) := ⟨ha, hz.1, by unfold PySem.W.notCls; rw [hd] <;> rfl, by rw [hz.2]; exact ho⟩
  exact HandSPX.exc_get I1.kIn J T.ga T.gg T.exC (PySem.W.findObj_own T.hdC T.noN rfl (by rw [hl, hu])) (handed_of ru) ⟨v, H1, I1.tok _, ru, q⟩
end
end L2
set_option Elab.async false
set_option linter.all false
set_option maxRecDepth 100000
set_option maxHeartbeats 2000000
/-! promises joined; a def called within an except suite with the error -/
namespace L2
open PySem PySem.Spec PyProof.Rows
section
variable {P : Program} {w : World} {K : PySem.W.Frag} {mg : Str → Option Value} {base : Heap} {k j : Nat} {f : Addr} {fd : FuncData} {ps : List Str} {sp sp' : Sp}
theorem FnOk.or {CX : CXT} (a : FnOk P w K mg base CX k f fd ps sp) (b : FnOk P w K mg base CX k f fd ps sp') : FnOk P w K mg base CX k f fd ps (fun vs H Q E => sp vs H Q E ∨ sp' vs H Q E) :=
  ⟨fun vs H Q E h => h.elim (a.len vs H Q E) (b.len vs H Q E), fun A outer s H args us vs Q E hr e0 hb r h => h.elim (a.run A outer s H args us vs Q E hr e0 hb r) (b.run A outer s H args us vs Q E hr e0 hb r)⟩
theorem FnOk.up {CX : CXT} (a : FnOk P w K mg base CX0 k f fd ps sp) : FnOk P w K mg base CX k f fd ps sp :=
  ⟨a.len, fun A outer s H args us vs Q E hr e0 hb r h => codeAny_mono (a.run A outer s H args us vs Q E hr e0 hb r h) fun r s' z => by
    cases r with
    | error e => exact False.elim z
    | ok fl => cases fl <;> exact z⟩
theorem FnOk.lift {CX : CXT} (a : FnOk P w K mg base CX k f fd ps sp) (h : k ≤ j) : FnOk P w K mg base CX j f fd ps sp :=
  ⟨a.len, fun A outer s H args us vs Q E hr e0 hb r => a.run A outer s H args us vs Q E (hr.mono h) e0 hb r⟩
end
/-- what a def promises that is called within an except suite, the error (at p) among its arguments, where nothing is being shown -/
structure FnE (P : Program) (w : World) (K : PySem.W.Frag) (mg : Str → Option Value) (base : Heap) (k : Nat) (f : Addr) (fd : FuncData) (ps : List Str) (sp : Addr × Obj → Sp) : Prop where
  len : ∀ p vs H Q E, sp p vs H Q E → vs.length = ps.length
  run : ∀ (A : Around), A.guards = some [] → ∀ (outer : List Env) (s : Shared) (H : Hp) (args : Args) (us : List Value) (vs : List V) (Q : VK) (E : XK) (p : Addr × Obj), L2H.RoomH k A → L2H.PinOk outer H s p → Env0 P w K mg base A outer s H → BindsTo s fd args (ps.zip us) → Vals vs us → sp p vs H Q E →
    codeAny (model P w) A (.call (.ref f) args) (CR CX0 outer P w H s Q E) s
section
variable {P : Program} {w : World} {K : PySem.W.Frag} {mg : Str → Option Value} {base : Heap}
theorem Fun.okE {x qual : Str} {st : Stmt} {f : Addr} {fd : FuncData} {N ps : List Str} {k : Nat} {sp : Addr × Obj → Sp} (F : Fun K x qual st f fd) (S : FnScope N ps (defScope st)) (len : ∀ p vs H Q E, sp p vs H Q E → vs.length = ps.length)
    (walk : ∀ (cdv : Value) (A : Around) (outer : List Env) (s : Shared) (H : Hp) (vs : List V) (Q : VK) (E : XK) (p : Addr × Obj), A.guards = some [] → L2H.RoomH k (A.deeper (envOfC qual (defScope st) s.heap.objs.size f cdv)) → sp p vs H Q E →
      ∃ t, PSs (L2H.cxH CX0 P w K mg base N qual (defScope st) f cdv A outer s H E p).nox (defBody st) t ∧ t { nx := fun _ H' => Q .non H', rt := Q } (start N vs) H) : FnE P w K mg base (k + 1) f fd ps sp := by
  obtain ⟨oc, od, kV, doc, pm, an, cdv, ct, osl, rfl, lk, hcd⟩ := F.ex
  refine ⟨len, fun A hgd outer s H args us vs Q E p room hpin env bind rel want => ?_⟩
  have inB : ∀ b o, base.get? b = some o → s.heap.get? b = some o := fun b o z => (env.bs b o z).1
  have inK := env.mod.kin.keeps inB
  have kinds : ∀ y ∈ ps.zip us, (defScope st).names.lookup y.1 = some .local ∨ ((defScope st).names.lookup y.1 = some .cell ∧ ((cellsFrom (s.heap.objs.size + 1) (defScope st).names []).lookup y.1).isSome = true) := by
    rintro ⟨n, v⟩ hy
    exact (S.par n (List.of_mem_zip hy).1).imp id fun q => ⟨q, PySem.W.cellsFrom_some _ _ _ (.inl q)⟩
  refine codeAny_call_function room.depth (inK _ _ lk) rfl S.co S.gen rfl (PySem.W.codeRec_of inK hcd) (bind _ _ _ _ (wpAny_newFunctionEnv_cells S.kind kinds ?_))
  rintro _ rfl s1 entry
  refine ⟨(env.mod.nolimit.keeps inB).keeps entry.toInCall.keep, codeAny_func ?_⟩
  obtain ⟨t, body, told⟩ := walk cdv A outer s H vs Q E p hgd (room.deeper _) want
  have start0 : Inv (L2H.cxH CX0 P w K mg base N qual (defScope st) f cdv A outer s H E p) [] (L2.start N vs) H s1 := L2H.inv_startH S hpin env (len _ _ _ _ _ want) rel entry
  refine wpAny_mono (body.nox.run [] s1 (start N vs) H _ start0 told) ?_ fun _ _ z => z
  intro fl s' z
  cases fl with
  | ret u =>
    obtain ⟨v, σ', H', J, rv, q⟩ := z
    exact ⟨v, H', J.os, J.bare, J.base, J.hok, rv, q⟩
  | next =>
    obtain ⟨σ', H', J, q⟩ := z
    exact ⟨.non, H', J.os, J.bare, J.base, J.hok, rfl, q⟩
  | brk => exact z.elim fun _ z => z.elim fun _ z => z.2.elim
  | cont => exact z.elim fun _ z => z.elim fun _ z => z.2.elim
end
section
variable {X : Cx} {k : Nat} {f : Addr} {fd : FuncData} {ps : List Str} {sp : Addr × Obj → Sp} {x : Str} {q pos : Pos} {e : Expr} {es : List Expr} {t : TA} {p : Addr × Obj}
theorem pe_callE {sp' : Sp} (hsp : ∀ vs H Q, sp' vs H Q E0 → sp p vs H Q E0) (F : FnE X.prog X.w X.K X.mg X.base k f fd ps sp) (hgd : X.A.guards = some []) (hr : L2H.RoomH k X.A) (hp : p ∈ X.pn) (hg : Gl X x) (hm : X.mg x = some (.ref f)) (hk : PySem.W.keepIn X.K (.ref f) = true) (hb : Binds X.K fd ps [])
    (ha : PA X (e :: es) t) (hdb : (x == ("__debug__" : Str)) = false := by decide) (he : starEach (e :: es) X.env = (false, eval e X.env) :: starEach es X.env := by rfl) (hpl : (backTo pos (starEach es X.env)).any (·.1) = false := by rfl) :
    PE X (.Call (.Name x q) (e :: es) [] pos) (tCall sp' [] E0 t) := by
  constructor
  intro pins s σ H Q I h
  refine wpAny_Call_Name_kw (ld_glob I hg hm (PySem.W.callWith_K (h₀ := X.base) I.ok.mod.kin hk (thn (ha.run pos pins s σ H _ I h) ?_) he hpl) hdb)
  rintro us s1 ⟨vs, H1, I1, rel, want⟩
  refine ⟨I1.kIn, ?_⟩
  rw [List.append_nil] at want
  replace want := hsp _ _ _ want
  have ln : us.length = ps.length := rel.length.symm.trans (F.len _ _ _ _ _ want)
  have bnd := hb s1 us I1.kIn (by rw [List.append_nil]; exact ln)
  rw [List.append_nil] at bnd
  have P1 := I1.pin p (List.mem_append_left _ hp)
  have hpin : L2H.PinOk X.stack H1 s1 p := ⟨P1.1, P1.2.1, fun hm => (List.mem_cons.mp (I1.stkSub p.1 hm)).elim P1.2.2.1 P1.2.2.2.1, P1.2.2.2.2⟩
  refine wpAny_call (codeAny_mono (F.run X.A hgd X.stack s1 H1 ⟨us, []⟩ us vs Q E0 p hr hpin I1.env0 bnd rel want) ?_)
  intro r s' z
  rcases r with e | (u | _ | _ | _)
  all_goals first | exact I1.after z | exact False.elim z
end
/-- isinstance(e, c), e an error that is pinned -/
theorem call_isP {X : Cx} {a : Addr} {oe : Obj} {cls : Value} {d : Option Addr} (hp : (a, oe) ∈ X.pn) (hz : Zc cls d oe) (hf : ∃ vs, oe.data = .fields vs) : CallR X (.builtin "isinstance") (rIsX X.K a cls d) := by
  intro pins s σ H xs us Q I r h
  obtain ⟨D, dd, fs, c, cv, b, rfl, rfl, rfl, hdd, hcv, T, e, q⟩ := h
  obtain ⟨u1, u2, rfl, r1, r2⟩ := vals2 r
  obtain rfl : u1 = Value.ref a := r1
  obtain rfl := hcv.eq r2
  obtain ⟨ha, _⟩ := I.pin (a, oe) (List.mem_append_left _ hp)
  obtain ⟨vs, hd⟩ := hf
  obtain ⟨mA, hns, _⟩ := (show ObjOk X.prog X.w H s.heap dd (.xd fs) from I.hok dd _ hdd)
  obtain ⟨od, ho, _⟩ := lookIn_ns hns
  have J : PySem.W.InstAt s.heap a oe D (some od) := ⟨ha, hz.1, by unfold PySem.W.notCls; rw [hd] <;> rfl, by rw [hz.2]; exact ho⟩
  have hcl : (PySem.W.clsIn X.K D).isSome = true := by
    obtain ⟨cd, hc, _⟩ := PySem.W.any_some T.hd
    rw [hc]
    rfl
  exact PySem.W.kia_one (PySem.W.kitx_exc hcl T.hg T.hk T.hs T.ha T.hn T.ht T.hm) I.kIn J e (fun z => nomatch z) fun tk => ⟨.bl b, H, I.kept (t' := tk) fun _ _ z => z, rfl, q⟩
/-- e.thing of such a one -/
def tByP (P : Program) (K : PySem.W.Frag) (mg : Str → Option Value) (a : Addr) (cls : Value) (d : Option Addr) (te : TE) : TE := fun σ H Q => te σ H fun x H1 => x = .ref a ∧ ∃ C fI : Addr, FoX_thing.XTxt P K mg C fI ∧ cls = .ref C ∧ ∃ (dd : Addr) (v : V), d = some dd ∧ H1 dd = some (.xd [((Str.ofString "thing"), v)]) ∧ Q v H1
theorem pe_byP {X : Cx} {a : Addr} {oe : Obj} {cls : Value} {d : Option Addr} {e : Expr} {te : TE} {pos : Pos} (hp : (a, oe) ∈ X.pn) (hz : Zc cls d oe) (hf : ∃ vs, oe.data = .fields vs) (he : PE X e te)
    (hb : attributeBase e (Str.ofString "thing") X.env (eval e X.env) = eval e X.env := by rfl) :
    PE X (.Attribute e (Str.ofString "thing") pos) (tByP X.prog X.K X.mg a cls d te) := by
  refine ⟨fun pins s σ H Q I h => ?_⟩
  refine attr_of hb (thn (he.run pins s σ H _ I h) fun u s1 hh => ?_)
  obtain ⟨x, H1, I1, rx, ex, C, fI, T, ec, dd, v, ed, ea, q⟩ := hh
  subst ex
  obtain rfl : u = Value.ref a := rx
  subst ec
  subst ed
  obtain ⟨ha, _⟩ := I1.pin (a, oe) (List.mem_append_left _ hp)
  obtain ⟨vs, hd⟩ := hf
  have hx : ObjOk X.prog X.w H1 s1.heap dd (.xd [((Str.ofString "thing"), v)]) := I1.hok dd _ ea
  obtain ⟨mA, hns, hr⟩ := hx
  obtain ⟨od, ho, hl⟩ := lookIn_ns hns
  have l : List.lookup (Str.ofString "thing") [((Str.ofString "thing"), v)] = some v := by simp [List.lookup]
  obtain ⟨u, hu, ru⟩ := RelO.some_of (v := v) (o := mA (Str.ofString "thing")) (by rw [← l]; exact hr (Str.ofString "thing"))
  have J : PySem.W.InstAt s1.heap a oe C (some od) := ⟨ha, hz.1, by unfold PySem.W.notCls; rw [hd] <;> rfl, by rw [hz.2]; exact ho⟩
  exact HandSPX.exc_get I1.kIn J T.ga T.gg T.exC (PySem.W.findObj_own T.hdC T.noN rfl (by rw [hl, hu])) (handed_of ru) ⟨v, H1, I1.tok _, ru, q⟩
end L2
set_option Elab.async false
set_option linter.all false
set_option maxRecDepth 100000
set_option maxHeartbeats 2000000
/-! a comprehension over a tuple, and methods, within an except suite (the error's context is None) -/
namespace FoHot
open PySem PySem.Spec PyProof.Rows
section
variable {prog : Program} {w : World} {A : Around} {E : Value → Shared → Prop} {s : Shared}
theorem tuple_end_hot {it t x1 : Addr} {i : Nat} {items : Array Value} {Q : Option Value → Shared → Prop} (hot : HotX.HotAt A x1 s.heap) (st : s.heap.IsTupleIter it t i) (tp : s.heap.IsTuple t items) (off : items[i]? = none)
    (done : ∀ h', Heap.ExtBut it s.heap h' → Q none { s with heap := h' }) : wpAny (model prog w) A (pyNext (.ref it)) Q E s := by
  obtain ⟨o, ho, hc, hd⟩ := id st
  obtain ⟨ol, hol, _, nl, hdl⟩ := tp
  obtain ⟨hh, o1, vs1, h1, d1, c1⟩ := hot
  have ne : x1 ≠ it := fun z => by
    rw [z, ho] at h1
    cases h1
    rw [hd] at d1
    cases d1
    simp at c1
  unfold pyNext
  refine wpAny_bind (wpAny_attempt (wpAny_callSpecial?_slot (name := Str.ofString "__next__") st.typeIs F.slot_tuple_iterator_next (wpAny_call_entry F.slot_tuple_iterator_next st.typeIs F.entry_tuple_iterator_next ?_ (F.args_tuple_iterator_next_1 _))))
  show wpAny _ _ (field (.ref it) 0 >>= _) _ _ _
  refine wpAny_bind (wpAny_field ho hd (x := .ref t) rfl ?_)
  show wpAny _ _ (if (Value.ref t == Value.none) = true then _ else _) _ _ _
  have nt : ¬ (Value.ref t == Value.none) = true := Bool.false_ne_true
  rw [if_neg nt]
  show wpAny _ _ (field (.ref it) 1 >>= _) _ _ _
  refine wpAny_bind (wpAny_field ho hd (x := .int i 0) rfl ?_)
  show wpAny _ _ (seqItems? (.ref t) >>= _) _ _ _
  refine wpAny_bind (wpAny_seqItems hol hdl ?_)
  simp only [Int.toNat_natCast, off]
  refine wpAny_bind (wpAny_rule (wpAny_bind (wpAny_setField ho hd (by simp) ?_)))
  show wpAny _ _ (newExc (.type "StopIteration") [] >>= fun _ => _) _ _ _
  refine wpAny_bind ?_
  simp only [newExc, newTuple]
  refine wpAny_bind (wpAny_newObj_type ?_ (by size_fits))
  refine wpAny_bind (m := firstArgMember _ _) (wpAny_of_eq (a := Value.none) (by first | rfl | (simp only [firstArgMember]; rfl)) ?_)
  refine wpAny_newObj_type ?_ (by size_fits)
  have k1 : (s.heap.update it (Obj.mapFields (·.setIfInBounds 0 Value.none))).get? x1 = some o1 := by
    rw [Heap.get?_update_other _ _ (Ne.symm ne)]
    exact h1
  refine HotX.raiseNew_hot ⟨hh, o1, vs1, Heap.get?_push_of_some _ (Heap.get?_push_of_some _ k1), d1, c1⟩ (Nat.ne_of_lt (Heap.lt_size (Heap.get?_push_of_some _ k1))) (Heap.get?_push_size _ rfl) rfl (by first | (simp; done) | (simp; omega) | (simp only [Array.size_append]; simp; omega)) ?_
  refine wpAny_bind (wpAny_isInstance (T := "StopIteration") (b := true) ⟨_, Heap.get?_update_self _ (Heap.get?_push_size _ rfl) rfl, rfl⟩ isSubtype_stop (wpAny_pure (done _ ?_)))
  intro b o' hb e
  have e' : (s.heap.update it (Obj.mapFields (·.setIfInBounds 0 Value.none))).get? b = some o' := by
    rw [Heap.get?_update_other _ _ (Ne.symm hb)]
    exact e
  rw [Heap.get?_update_other _ _ (Nat.ne_of_gt (Heap.lt_size (Heap.get?_push_of_some _ e')))]
  exact Heap.get?_push_of_some _ (Heap.get?_push_of_some _ e')
end
end FoHot
set_option Elab.async false
set_option linter.all false
set_option maxRecDepth 100000
set_option maxHeartbeats 2000000
namespace L2
open PySem PySem.Spec PyProof.Rows
/-- [te for g in iter], iter a tuple; D the new list -/
def tLcT (K : PySem.W.Frag) (ti : TE) (g : TG) (te : TE) (vs : List Nat) : TE := fun σ H Q => ti σ H fun x H1 => ∃ (t : Addr) (xs : List V), x = .ref t ∧ H1 t = some (.tup xs) ∧ ∀ D, H1 D = none → ∃ W : Nat → Hp → Prop, W 0 (upd H1 D (.lst [])) ∧
  (∀ i H2 y, W i H2 → xs[i]? = some y → g y (wipe σ vs) H2 fun σ2 H3 => wipe σ2 vs = wipe σ vs ∧ te σ2 H3 fun z H4 => ∃ acc, H4 D = some (.lst acc) ∧ acc.length < sizeLine ∧ W (i + 1) (upd H4 D (.lst (acc ++ [z])))) ∧
  ∀ H2, W xs.length H2 → Q (.ref D) H2
section
variable {X : Cx}
abbrev Cx.hb (X : Cx) (p : Addr × Obj) (s : Shared) (H : Hp) (scope : Scope) (cenv : Env) (it : Addr) : Cx := (X.blk s H scope cenv [it]).tr [p] (fun _ _ => False)
theorem pe_lcHot {elt tg iter : Expr} {scope : Scope} {own : List (Str × Nat)} {pos : Pos} {ti : TE} {g : TG} {te : TE} {p : Addr × Obj} (hot : L2H.Hot1 X.A p) (hp : p ∈ X.pn) (hN : X.N.Nodup) (hi : PE X iter ti) (ok : BlkOk X.N X.env.scope scope own)
    (hg : ∀ (s : Shared) (H : Hp) (C : Addr) (cl : List (Str × Addr)) (it : Addr), PG (X.hb p s H scope (compEnvC scope cl C X.env) it) tg g)
    (he : ∀ (s : Shared) (H : Hp) (C : Addr) (cl : List (Str × Addr)) (it : Addr), PE (X.hb p s H scope (compEnvC scope cl C X.env) it) elt te)
    (hs : ∀ x, foldedSetIterable iter X.env x = pure x := by intro _; rfl) :
    PE X (.ListComp elt [⟨tg, iter, [], 0⟩] scope pos) (tLcT X.K ti g te (own.map (·.2))) := by
  refine ⟨fun pins s σ H Q I h => ?_⟩
  rw [eval_ListComp]
  have fr : ∀ y ∈ scope.names, y.2 = .free → ∃ c, X.env.cells.lookup y.1 = some c := fun y hy e => (ok.free y hy e).elim (fun k => I.ok.has _ (.inl k)) fun k => I.ok.has _ (.inr k)
  refine wpAny_comprehension_free rfl hs (closure_ok fr) ok.kind (fun y hy e => by rw [ok.uniq y hy, e]) (thn (hi.run pins s σ H _ I h) fun xv s1 hx => ?_)
  obtain ⟨x, H1, I1, r1, t, xs, rfl, tq, rest⟩ := hx
  cases r1
  obtain ⟨its, rv, tup, _⟩ := I1.tuple (SqT.of tq)
  refine wpAny_pyIter_tuple (show s1.heap.IsTuple t its.toArray from tup) ?_
  generalize hit : s1.heap.objs.size = it
  have f2 : FpOk X pins H1 it := by
    rw [← hit]
    exact I1.fpOk (Nat.le_refl _) (I1.hok.fresh (Nat.le_refl _))
  have I2 : Inv X pins σ H1 { s1 with heap := s1.heap.push { cls := .type "tuple_iterator", data := .fields #[.ref t, .int 0 0] } } := I1.kept (t' := s1.toks) fun b o e => Heap.get?_push_of_some _ e
  have st2 : (s1.heap.push { cls := .type "tuple_iterator", data := .fields #[.ref t, .int 0 0] }).IsTupleIter it t 0 := by
    rw [← hit]
    exact ⟨_, Heap.get?_push_size _ rfl, rfl, rfl⟩
  generalize hs2 : ({ s1 with heap := s1.heap.push { cls := .type "tuple_iterator", data := .fields #[.ref t, .int 0 0] } } : Shared) = s2 at I2
  have st2' : s2.heap.IsTupleIter it t 0 := by rw [← hs2]; exact st2
  refine wpAny_newObj_type (newEnv_comp ?_) (by show 0 ≤ sizeLine; decide)
  generalize hD : s2.heap.objs.size = D
  have nD : H1 D = none := I2.hok.fresh (Nat.le_of_eq hD)
  obtain ⟨W, w0, turn, fin⟩ := rest D nD
  generalize hs3 : ({ s2 with heap := s2.heap.push { cls := .type "list", data := .seq ([] : List Value).toArray } } : Shared) = s3
  have I3 : Inv X pins σ (upd H1 D (.lst [])) s3 := by
    rw [← hs3]
    refine I2.laid (t' := s2.toks) (fun b o e => Heap.get?_push_of_some _ e) (Nat.le_of_eq hD) ⟨Nat.zero_le _, [], 0, .nil, ?_⟩
    rw [← hD]
    exact Heap.get?_push_size _ rfl
  have up3 : ∀ b o, s2.heap.get? b = some o → s3.heap.get? b = some o := fun b o e => by rw [← hs3]; exact Heap.get?_push_of_some _ e
  have ltI : it < s2.heap.objs.size := by
    obtain ⟨o, e, _⟩ := st2'
    exact Heap.lt_size e
  have nit : it ≠ D := by rw [← hD]; exact Nat.ne_of_lt ltI
  have f3 : ∀ b ∈ [it], FpOk X pins (upd H1 D (.lst [])) b ∧ b < s3.heap.objs.size := fun b hb => by
    obtain rfl : b = it := by simpa using hb
    obtain ⟨o, e, _⟩ := st2'
    refine ⟨⟨?_, f2.2⟩, Heap.lt_size (up3 _ _ e)⟩
    rw [upd_ne nit]
    exact f2.1
  have I4 := block_start I3 ok hN f3
  have pg := hg s3 (upd H1 D (.lst [])) s3.heap.objs.size (cellsFrom (s3.heap.objs.size + 1) scope.names (cloFrom X.env.cells scope.names [])) it
  have pe := he s3 (upd H1 D (.lst [])) s3.heap.objs.size (cellsFrom (s3.heap.objs.size + 1) scope.names (cloFrom X.env.cells scope.names [])) it
  have cL : (compEnvC scope (cellsFrom (s3.heap.objs.size + 1) scope.names (cloFrom X.env.cells scope.names [])) s3.heap.objs.size X.env).locals = s3.heap.objs.size := rfl
  have P3 := I3.pin p (List.mem_append_left _ hp)
  have keepC : ∀ b o, s3.heap.get? b = some o → (pushCells (s3.heap.push { cls := .type "dict", data := .dict #[] }) scope.names).get? b = some o := fun b o e => pushCells_keeps _ _ _ _ (Heap.get?_push_of_some _ e)
  have ltP : p.1 < s3.heap.objs.size := Heap.lt_size P3.1
  have neP : p.1 ≠ it := f2.2.2.2.2.2 p (List.mem_append_left _ hp)
  have nsP : p.1 ∉ frs X.stack := fun hm => (List.mem_cons.mp (I3.stkSub p.1 hm)).elim P3.2.2.1 P3.2.2.2.1
  show codeAny _ _ (.compStart (.ListComp elt [⟨tg, iter, [], 0⟩] scope pos) 0 (.ref it) (.ref D) (compEnvC scope (cellsFrom (s3.heap.objs.size + 1) scope.names (cloFrom X.env.cells scope.names [])) s3.heap.objs.size X.env)) (compPost (model X.prog X.w) X.A X.xe none (EP X pins σ Q) (.ref D) s3.heap.objs.size) { s3 with heap := pushCells (s3.heap.push { cls := .type "dict", data := .dict #[] }) scope.names }
  generalize hce : compEnvC scope (cellsFrom (s3.heap.objs.size + 1) scope.names (cloFrom X.env.cells scope.names [])) s3.heap.objs.size X.env = ce at I4 pg pe cL ⊢
  generalize hH3 : upd H1 D (.lst []) = H3 at I3 I4 pg pe w0 f3 P3
  generalize hs4 : ({ s3 with heap := pushCells (s3.heap.push { cls := .type "dict", data := .dict #[] }) scope.names } : Shared) = s4 at I4 ⊢
  have st4 : s4.heap.IsTupleIter it t 0 := by
    obtain ⟨o, e, c, d⟩ := st2'
    rw [← hs4]
    exact ⟨o, keepC _ _ (up3 _ _ e), c, d⟩
  -- into the block's own context, with the error pinned, and back
  have inY : ∀ {σ' : St} {H' : Hp} {s' : Shared}, Inv (X.blk s3 H3 scope ce [it]) [] σ' H' s' → Inv (X.hb p s3 H3 scope ce it) [] σ' H' s' := fun {σ' H' s'} J => by
    have nI : p.1 ∉ [it] := fun z => neP (by simpa using z)
    refine (J.pins_of (pins' := [p]) fun q hq => ?_).toTry (fun _ _ => False)
    obtain rfl : q = p := by simpa using hq
    refine ⟨J.base.keep _ _ P3.1 P3.2.1 nsP nI, J.base.free _ _ P3.1 P3.2.1 nI, ?_, nsP, P3.2.2.2.2⟩
    show q.1 ≠ ce.locals
    rw [cL]
    exact Nat.ne_of_lt ltP
  have fpY : ∀ {H' : Hp} {σ' : St} {s' : Shared}, Inv (X.hb p s3 H3 scope ce it) [] σ' H' s' → H' it = none → FpOk (X.hb p s3 H3 scope ce it) [] H' it := fun {H' σ' s'} J hn =>
    ⟨hn, (J.ok.exf it (List.mem_singleton.mpr rfl)).1, J.ok.exfs it (List.mem_singleton.mpr rfl), .inl (List.mem_singleton.mpr rfl), (J.ok.exf it (List.mem_singleton.mpr rfl)).2, fun q hq => by
      obtain rfl : q = p := by simpa using hq
      exact neP⟩
  have H3t : H3 t = some (.tup xs) := by
    rw [← hH3, upd_ne (ne_of_none tq nD)]
    exact tq
  have loop : codeAny (model X.prog X.w) X.A (.compLoop (.ListComp elt [⟨tg, iter, [], 0⟩] scope pos) 0 (.ref it) (.ref D) ce) (compPost (model X.prog X.w) X.A X.xe none (EP X pins σ Q) (.ref D) s3.heap.objs.size) s4 := by
    refine compLoop_any (fun n s' => ∃ i H', n = xs.length - i ∧ i ≤ xs.length ∧ Inv (X.hb p s3 H3 scope ce it) [] (wipe σ (own.map (·.2))) H' s' ∧ s'.heap.IsTupleIter it t i ∧ H' it = none ∧ W i H') ?_ xs.length ⟨0, H3, rfl, Nat.zero_le _, inY I4, st4, (f3 it (List.mem_singleton.mpr rfl)).1.1, w0⟩
    rintro n s5 ⟨i, H5, rfl, hi5, I5, st5, n5, w5⟩
    have t5 : H5 t = some (.tup xs) := I5.base.tups _ _ H3t
    obtain ⟨its5, rv5, tup5, _⟩ := I5.tuple (SqT.of t5)
    have fp5 := fpY I5 n5
    by_cases lt : i < xs.length
    · obtain ⟨u, hu, ru⟩ := rv5.get (List.getElem?_eq_getElem lt)
      refine thnF (wpAny_pyNext_tuple_item st5 (show s5.heap.IsTuple t its5.toArray from tup5) (x := u) (by simpa using hu) fun h6 st6 sb => ?_ : wpAny _ _ _ (fun r s6 => ∃ h6, r = some u ∧ s6 = { s5 with heap := h6 } ∧ h6.IsTupleIter it t (i + 1) ∧ Heap.SameBut it s5.heap h6) _ _) fun r s6 z => ?_
      · exact ⟨h6, rfl, rfl, st6, sb⟩
      obtain ⟨h6, rfl, rfl, st6, sb⟩ := z
      have I6 : Inv (X.hb p s3 H3 scope ce it) [] (wipe σ (own.map (·.2))) H5 { s5 with heap := h6 } := I5.turned (t' := s5.toks) (fun b o hb e => (sb.2 b hb).trans e) fp5.1 fp5.2.1 fp5.2.2.2.1 fp5.2.2.2.2.1 fp5.2.2.2.2.2
      obtain ⟨o6, e6, c6, d6⟩ := id st6
      refine go_of (s := { s5 with heap := h6 }) e6 c6 d6 (by decide) ?_
      have I6' := I6.pinned (fp := [it]) (fun b hb => by
        obtain rfl : b = it := by simpa using hb
        exact fpY I6 n5) (fun b hb => by
        obtain rfl : b = it := by simpa using hb
        exact ⟨o6, e6, fun v z => by rw [d6] at z; cases z⟩)
      refine thnF (pg.run _ _ _ H5 _ u _ I6' ru (turn i H5 _ w5 (List.getElem?_eq_getElem lt))) fun _ s8 ⟨σ8, H8, I8, hw8, q8⟩ => ?_
      refine wpAny_tests_nil ?_
      rw [if_pos rfl]
      refine thnF (pe.run _ s8 σ8 H8 _ I8 q8) fun z s10 ⟨yv, H10, I10, r10, acc, hD10, hz10, nx⟩ => ?_
      refine app_ok (X := X.hb p s3 H3 scope ce it) I10 hD10 hz10 r10 fun s11 I11 => ⟨xs.length - (i + 1), by omega, i + 1, upd H10 D (.lst (acc ++ [yv])), rfl, lt, ?_⟩
      have pin11 := I11.pin (it, o6) (List.mem_append_right _ (List.mem_append_right _ (mem_pinsAt (List.mem_singleton.mpr rfl) e6)))
      refine ⟨(I11.unpinned (pins := [])).weak (by rw [← hw8, wipe_length]) (fun j v e => ?_), ⟨o6, pin11.1, c6, d6⟩, pin11.2.1, nx⟩
      rw [← hw8] at e
      exact (wipe_some e).1
    · obtain rfl : i = xs.length := by omega
      have off : its5.toArray[xs.length]? = none := by
        have := rv5.length
        simp
        omega
      have hotY : L2H.HotC (X.hb p s3 H3 scope ce it) := ⟨p, hot, List.mem_singleton.mpr rfl⟩
      obtain ⟨x1, at1⟩ := hotY.at I5
      refine FoHot.tuple_end_hot at1 st5 (show s5.heap.IsTuple t its5.toArray from tup5) off fun h6 eb => ?_
      have I6 : Inv (X.hb p s3 H3 scope ce it) [] (wipe σ (own.map (·.2))) H5 { s5 with heap := h6 } := I5.turned (t' := s5.toks) (fun b o hb e => eb b o hb e) fp5.1 fp5.2.1 fp5.2.2.2.1 fp5.2.2.2.2.1 fp5.2.2.2.2.2
      have I7 : Inv X pins σ H5 { s5 with heap := h6 } := I3.call' (ch := [it]) I6.os I6.base I6.hok I6.bare fun b hb => ⟨(f3 b hb).1.2.2.2.1, (f3 b hb).1.2.1, (f3 b hb).1.2.2.2.2.1, (f3 b hb).1.2.2.2.2.2⟩
      have nC : H5 s3.heap.objs.size = none := by
        have z : H5 ce.locals = none := I6.free
        rw [cL] at z
        exact z
      obtain ⟨m, hn, _⟩ := I6.loc
      have hn : h6.Ns ce.locals m := hn
      rw [cL] at hn
      obtain ⟨f0, f1, _, fC, f4, f5⟩ := I3.fpOk (H' := H5) (Nat.le_refl _) nC
      refine ⟨m, hn, fun h'' sb => ?_⟩
      exact ⟨.ref D, H5, I7.turned (t' := s5.toks) (fun b o hb e => (sb.2 b hb).trans e) f0 f1 fC f4 f5, rfl, fin H5 w5⟩
  exact codeAny_compStart_list loop (wpAny_pyIter_tupleiter st4 loop)
end
end L2
set_option Elab.async false
set_option linter.all false
set_option maxRecDepth 100000
set_option maxHeartbeats 2000000
/-! x in o by an own __contains__; == both ways of own objects, of pairs of them, such a pair in a list -/
namespace L2
open PySem PySem.Spec PyProof.Rows
structure OwnIn (K : PySem.W.Frag) (C f : Addr) : Prop where
  at_ : PySem.W.findIn K (.ref C) "__contains__" = some (some (.ref f))
  fn : PySem.W.isFn K (.ref f) = true
def rOwnIn (C : Addr) (sp : Sp) (E : XK) (neg : Bool) : R2 := fun x y H Q => ∃ a dx fs, y = .ref a ∧ H a = some (.ins C dx fs) ∧
  sp [y, x] H (fun v H' => ∃ k, v = .bl k ∧ Q (.bl (if neg then !k else k)) H') E
section
variable {X : Cx} {CX : CXT} {k : Nat} {f C : Addr} {fd : FuncData} {ps : List Str} {sp : Sp} {E : XK}
theorem op_ownIn (O : OwnIn X.K C f) (F : FnOk X.prog X.w X.K X.mg X.base CX k f fd ps sp) (hr : Room k X.A) (hb : Binds X.K fd ps []) (hx : Passes CX X E) : OpR X (compareOp .In) (rOwnIn C sp E false) := by
  intro pins s σ H x y v u Q I rx ry h
  obtain ⟨a, dx, fs, rfl, ha, q⟩ := h
  obtain rfl : u = Value.ref a := ry
  obtain ⟨mA, J, _⟩ := ins_get I.hok ha
  obtain ⟨od, J, _⟩ := J.look
  obtain ⟨m, hF⟩ := I.fr
  refine PySem.W.in_K hF I.ok.mod.kin J O.at_ O.fn ?_
  refine wpAny_mono (run_fn (us := [.ref a, v]) (vs := [.ref a, x]) F hr hb .nil hx I (.cons rfl (.cons rx .nil)) q) (fun r s' z => ?_) fun _ _ z => z
  obtain ⟨z1, H1, I1, rz, kk, rfl, qz⟩ := z
  cases rz
  exact wpAny_truthy_bool ⟨.bl kk, H1, I1, rfl, qz⟩
theorem op_ownNotIn (O : OwnIn X.K C f) (F : FnOk X.prog X.w X.K X.mg X.base CX k f fd ps sp) (hr : Room k X.A) (hb : Binds X.K fd ps []) (hx : Passes CX X E) : OpR X (compareOp .NotIn) (rOwnIn C sp E true) := by
  intro pins s σ H x y v u Q I rx ry h
  obtain ⟨a, dx, fs, rfl, ha, q⟩ := h
  obtain rfl : u = Value.ref a := ry
  obtain ⟨mA, J, _⟩ := ins_get I.hok ha
  obtain ⟨od, J, _⟩ := J.look
  obtain ⟨m, hF⟩ := I.fr
  refine PySem.W.notIn_K hF I.ok.mod.kin J O.at_ O.fn ?_
  refine wpAny_mono (run_fn (us := [.ref a, v]) (vs := [.ref a, x]) F hr hb .nil hx I (.cons rfl (.cons rx .nil)) q) (fun r s' z => ?_) fun _ _ z => z
  obtain ⟨z1, H1, I1, rz, kk, rfl, qz⟩ := z
  cases rz
  exact wpAny_truthy_bool ⟨.bl (!kk), H1, I1, rfl, qz⟩
end
abbrev EqvB := V → V → Bool → Hp → Prop
def MonB (D : EqvB) : Prop := ∀ x y b H H', Ext H H' → D x y b H → D x y b H'
/-- == of two values inside a builtin -/
def EqB (X : Cx) (n : Nat) (D : EqvB) : Prop :=
  ∀ (A : Around) (pins : List (Addr × Obj)) (s : Shared) (σ : St) (H : Hp) (x y : V) (u v : Value) (b : Bool), Sub X n A → Inv X pins σ H s → RelV x u → RelV y v → D x y b H →
    wpAny (model X.prog X.w) A (eqBool u v) (fun r s' => r = b ∧ ∃ H', Inv X pins σ H' s' ∧ Ext H H') X.xe s
/-- two instances of the class at C, by the own == -/
def DOwn (C : Addr) (sp : Sp) (E : XK) : EqvB := fun x y b H => ∃ a c dx dy fs gs, x = .ref a ∧ y = .ref c ∧ H a = some (.ins C dx fs) ∧ H c = some (.ins C dy gs) ∧ (a = c → b = true) ∧
  sp [x, y] H (fun v H' => v = .bl b ∧ Ext H H') E
/-- two pairs -/
def DPair (K : PySem.W.Frag) (D : EqvB) : EqvB := fun x y b H => ∃ p q x1 x2 y1 y2 b1 b2, x = .ref p ∧ y = .ref q ∧ SqT K H p [x1, x2] ∧ SqT K H q [y1, y2] ∧ (p = q → b = true) ∧ D x1 y1 b1 H ∧ D x2 y2 b2 H ∧ b = (b1 && b2)
section
variable {X : Cx} {n : Nat} {D : EqvB}
theorem eqB_own {CX : CXT} {f C : Addr} {fd : FuncData} {ps : List Str} {sp : Sp} {E : XK} (F : FnOk X.prog X.w X.K X.mg X.base CX n f fd ps sp) (hs : PySem.W.findIn X.K (.ref C) "__eq__" = some (some (.ref f))) (hf : PySem.W.isFn X.K (.ref f) = true)
    (hb : Binds X.K fd ps []) (hx : Passes CX X E) : EqB X n (DOwn C sp E) := by
  intro A pins s σ H x y u v b sb I rx ry d
  obtain ⟨a, c, dx, dy, fs, gs, rfl, rfl, ha, hc, hac, hsp⟩ := d
  cases rx
  cases ry
  by_cases hq : a = c
  · rw [hac hq]
    subst hq
    exact SeqAt.EqAt.same (A := A) (s := s) (.ref a) X.prog X.w X.xe _ ⟨rfl, H, I, Ext.rfl'⟩
  refine GQ.eqBool_refG hq ?_
  obtain ⟨mA, J, _⟩ := ins_get I.hok ha
  obtain ⟨mB, J', _⟩ := ins_get I.hok hc
  obtain ⟨od, J, _⟩ := J.look
  obtain ⟨od', J', _⟩ := J'.look
  obtain ⟨m, hF⟩ := I.fr
  refine PySem.W.cmp_K (op := .Eq) (tb := .ref C) sb.room.units0 hF I.ok.mod.kin J J'.type (by simp [PySem.W.notFirst]) hs hf ?_
  have e0 : Env0 X.prog X.w X.K X.mg X.base A X.stack s H := by
    obtain ⟨g1, g2, g3, g4, g5, g6, g7, g8⟩ := I.env0
    exact ⟨by rw [sb.fr]; exact g1, g2, g3, g4, g5, g6, g7, g8⟩
  have hl := F.len _ _ _ _ hsp
  have bnd := hb s [.ref a, .ref c] I.kIn (by simpa using hl)
  refine wpAny_call (codeAny_mono (F.run A X.stack s H ⟨[.ref a, .ref c], []⟩ [.ref a, .ref c] [.ref a, .ref c] _ E sb.room e0 (by simpa using bnd) (.cons rfl (.cons rfl .nil)) hsp) fun r s' hr => ?_)
  cases r with
  | error e => exact hx pins σ H s e s' I hr
  | ok fl =>
    cases fl with
    | ret w =>
      obtain ⟨z, H', I', rz, ez, ex⟩ := I.after hr
      subst ez
      cases rz
      exact ⟨b, rfl, rfl, H', I', ex⟩
    | next => exact hr.elim
    | brk => exact hr.elim
    | cont => exact hr.elim
end
end L2
namespace L2
open PySem PySem.Spec PyProof.Rows
/-- a == l, a an instance of the class at C with its own ==, l a list -/
def rOwnEqL (C : Addr) (sp : Sp) (E : XK) : R2 := fun x y H Q => ∃ a dx fs b xs, x = .ref a ∧ H a = some (.ins C dx fs) ∧ y = .ref b ∧ H b = some (.lst xs) ∧ sp [x, y] H Q E
theorem op_ownEqL {X : Cx} {CX : CXT} {k : Nat} {f C : Addr} {fd : FuncData} {ps : List Str} {sp : Sp} {E : XK} (hs : PySem.W.findIn X.K (.ref C) "__eq__" = some (some (.ref f))) (hf : PySem.W.isFn X.K (.ref f) = true) (nl : PySem.W.notFirst X.K C (.type "list") = true)
    (F : FnOk X.prog X.w X.K X.mg X.base CX k f fd ps sp) (hr : Room k X.A) (hb : Binds X.K fd ps []) (hx : Passes CX X E) : OpR X (compareOp .Eq) (rOwnEqL C sp E) := by
  intro pins s σ H x y v u Q I rx ry h
  obtain ⟨a, dx, fs, b, xs, rfl, ha, rfl, hl, q⟩ := h
  obtain rfl : v = Value.ref a := rx
  obtain rfl : u = Value.ref b := ry
  obtain ⟨mA, J, _⟩ := ins_get I.hok ha
  obtain ⟨od, J, _⟩ := J.look
  obtain ⟨m, hF⟩ := I.fr
  obtain ⟨_, _, _, _, e⟩ := (show ObjOk X.prog X.w H s.heap b (.lst xs) from I.hok b _ hl)
  have lk : PySem.W.Looks (model X.prog X.w) s.heap (typeOf (.ref b)) (.type "list") := fun A Q E s' k q => wpAny_typeOf ⟨_, k _ _ e, rfl⟩ q
  refine PySem.W.cmp_K (op := .Eq) (tb := .type "list") hr.units0 hF I.ok.mod.kin J lk nl hs hf ?_
  refine wpAny_mono (run_fn (us := [.ref a, .ref b]) (vs := [.ref a, .ref b]) F hr hb .nil hx I (.cons rfl (.cons rfl .nil)) q) (fun r s' z => ?_) fun _ _ z => z
  obtain ⟨z1, H1, I1, rz, qz⟩ := z
  exact cmpBack_of (not_ni rz) ⟨z1, H1, I1, rz, qz⟩
end L2
set_option Elab.async false
set_option linter.all false
set_option maxRecDepth 100000
set_option maxHeartbeats 2000000
namespace FoT
open PySem PySem.Spec PyProof.Rows MeetsSeq MeetsSeq2 MeetsSeq3 SeqRoads2 GQ
open AutoSeq1 (wpAny_loadPart')
section
variable {prog : Program} {w : World} {A : Around} {R : Result → Shared → Prop}
theorem tuple_eq2 (l b : Addr) (a1 a2 b1 b2 : Value) (n n2 : Nat) (dd dd2 : Option Addr) (sl sl2 : Array (Option Value)) {s : Shared}
    (hl1 : s.heap.get? l = some { cls := .type "tuple", dict := dd, data := .seq #[a1, a2] n, slots := sl }) (hb1 : s.heap.get? b = some { cls := .type "tuple", dict := dd2, data := .seq #[b1, b2] n2, slots := sl2 })
    (h : wpAny (model prog w) A.in1 (eqBool a1 b1) (fun r s' => if r = true then wpAny (model prog w) A.in1 (eqBool a2 b2) (fun r2 s2 => R (.ok (.ret (.bool r2))) s2) (fun e s' => R (.error e) s') s' else R (.ok (.ret (.bool false))) s') (fun e s' => R (.error e) s') s) :
    wpAny (model prog w) A.in1 (Builtin.«tuple.__eq__» ⟨[.ref l, .ref b], []⟩) (FinOf prog w A R) (fun e s' => R (.error e) s') s := by
  have f2 := AutoSeq1.sub_tuple_tuple
  have h0 := h
  obtain ⟨hp, g, d, tk, os⟩ := s
  wp_walk using wpAny_loadPart' hl1, wpAny_loadPart' hb1, wpAny_forIn_list _ (fun rest st s' => st.1 = none ∧ ((rest = [(a1, b1), (a2, b2)] ∧ wpAny (model prog w) A.in1 (eqBool a1 b1) (fun r s' => if r = true then wpAny (model prog w) A.in1 (eqBool a2 b2) (fun r2 s2 => R (.ok (.ret (.bool r2))) s2) (fun e s' => R (.error e) s') s' else R (.ok (.ret (.bool false))) s') (fun e s' => R (.error e) s') s') ∨
    (rest = [(a2, b2)] ∧ wpAny (model prog w) A.in1 (eqBool a2 b2) (fun r2 s2 => R (.ok (.ret (.bool r2))) s2) (fun e s' => R (.error e) s') s') ∨ (rest = [] ∧ R (.ok (.ret (.bool true))) s'))) _
  case turn =>
    rintro ⟨y, x⟩ rest st s' ⟨hb', hz⟩
    rcases hz with ⟨hz, hq⟩ | ⟨hz, hq⟩ | ⟨hz, hq⟩
    · injection hz with h1 h2
      cases h1
      refine wpAny_bind (wpAny_mono hq (fun r s2 q2 => ?_) fun _ _ x => x)
      cases r with
      | true =>
        rw [if_pos rfl] at q2
        wp_walk
        exact ⟨rfl, .inr (.inl ⟨h2, q2⟩)⟩
      | false =>
        rw [if_neg (by decide)] at q2
        wp_walk
        exact q2
    · injection hz with h1 h2
      cases h1
      refine wpAny_bind (wpAny_mono hq (fun r s2 q2 => ?_) fun _ _ x => x)
      cases r with
      | true =>
        wp_walk
        exact ⟨rfl, .inr (.inr ⟨h2, q2⟩)⟩
      | false =>
        wp_walk
        exact q2
    · cases hz
  case fin =>
    rintro ⟨st1, st2⟩ s' ⟨hb', hz⟩
    simp only at hb'
    subst hb'
    rcases hz with ⟨hz, hq⟩ | ⟨hz, hq⟩ | ⟨hz, hq⟩
    · cases hz
    · cases hz
    · wp_walk
      simpa [Builtin.Tuple.tupleCompareSizes] using hq
  case h =>
    exact ⟨rfl, .inl ⟨rfl, h0⟩⟩
/-- the loop of x in l -/
theorem contains_loopG (l : Addr) (x : Value) (N : Nat) (B : Nat → Bool) (I : Nat → Shared → Prop)
    (hl : ∀ i s, I i s → ∃ (items : Array Value) (n : Nat), s.heap.get? l = some { cls := .type "list", data := .seq items n } ∧ items.size = N ∧
      ∀ h : i < items.size, wpAny (model prog w) A.in1 (eqBool items[i] x) (fun r s' => r = B i ∧ I (i + 1) s') (fun e s' => R (.error e) s') s)
    (finT : ∀ i s, i < N → B i = true → (∀ j, j < i → B j = false) → I (i + 1) s → R (.ok (.ret (.bool true))) s) (finF : ∀ s, (∀ j, j < N → B j = false) → I N s → R (.ok (.ret (.bool false))) s) (k : Nat) :
    ∀ i : Nat, N - i = k → i ≤ N → (∀ j, j < i → B j = false) → ∀ s, I i s →
      wpAny (model prog w) A.in1 (Builtin.«list.__contains__.loop» ⟨[.ref l, x, rawInt i], []⟩) (FinOf prog w A R) (fun e s' => R (.error e) s') s := by
  induction k with
  | zero =>
    intro i hk hi hB s h
    obtain ⟨items, n, hl1, hs1, _⟩ := hl _ _ h
    have hi' : i = N := by omega
    subst hi'
    have hR := finF s hB h
    obtain ⟨hp, g, d, tk, os⟩ := s
    wp_walk using wpAny_loadPart' hl1
    have hi1 : items[((i : Nat) : Int).toNat]? = none := by simp; omega
    rw [hi1]
    wp_walk
    exact hR
  | succ k ih =>
    intro i hk hi hB s h
    obtain ⟨items, n, hl1, hs1, turn⟩ := hl _ _ h
    have hlt : i < items.size := by omega
    have ht := turn hlt
    obtain ⟨hp, g, d, tk, os⟩ := s
    wp_walk using wpAny_loadPart' hl1
    have hi1 : items[((i : Nat) : Int).toNat]? = some items[i] := by simp [hlt]
    have hc : ((i : Int) + 1) = ((i + 1 : Nat) : Int) := by omega
    rw [hi1]
    refine wpAny_bind (wpAny_mono ht (fun r s2 h2 => ?_) fun _ _ x => x)
    obtain ⟨hr, h2⟩ := h2
    cases r with
    | true =>
      have q := finT i s2 (by omega) hr.symm hB h2
      obtain ⟨hp2, g2, d2, tk2, os2⟩ := s2
      wp_walk
      exact q
    | false =>
      have hB2 : ∀ j, j < i + 1 → B j = false := fun j hj => by
        by_cases hq : j = i
        · rw [hq]; exact hr.symm
        · exact hB j (by omega)
      have hrec := ih (i + 1) (by omega) (by omega) hB2 s2 h2
      obtain ⟨hp2, g2, d2, tk2, os2⟩ := s2
      wp_walk
      rw [hc]
      exact ⟨plainId_quiet plain_contains_loop _, codeAny_builtin entry_contains_loop (by
        rw [Around.under_plainId plain_contains_loop _]
        exact hrec)⟩
end
section
variable {prog : Program} {w : World} {A : Around} {E : Value → Shared → Prop} {s : Shared}
theorem in_listG {l : Addr} {x : Value} {N : Nat} {B : Nat → Bool} {Q : Value → Shared → Prop} (I : Nat → Shared → Prop)
    (hl : ∀ i s, I i s → ∃ (items : Array Value) (n : Nat), s.heap.get? l = some { cls := .type "list", data := .seq items n } ∧ items.size = N ∧
      ∀ h : i < items.size, wpAny (model prog w) A.in1 (eqBool items[i] x) (fun r s' => r = B i ∧ I (i + 1) s') E s)
    (finT : ∀ i s, i < N → B i = true → (∀ j, j < i → B j = false) → I (i + 1) s → Q (.bool true) s) (finF : ∀ s, (∀ j, j < N → B j = false) → I N s → Q (.bool false) s) (h : I 0 s) :
    wpAny (model prog w) A (compareOp .In x (.ref l)) Q E s := by
  obtain ⟨items, n, hl1, hs1, _⟩ := hl _ _ h
  show wpAny _ A (do return .bool (← contains (.ref l) x)) Q E s
  have loop := contains_loopG (A := A) (R := wants (fun v s' => wpAny (model prog w) A (truthy v) (fun b s2 => Q (.bool b) s2) E s') E) l x N B I hl (fun i s' h1 h2 h3 h4 => wpAny_truthy_bool (finT i s' h1 h2 h3 h4)) (fun s' h1 h2 => wpAny_truthy_bool (finF s' h1 h2)) _ 0 rfl (Nat.zero_le _) (fun j hj => absurd hj (Nat.not_lt_zero _)) s h
  refine wpAny_bind (wpAny_contains_slot ⟨_, hl1, rfl⟩ F.slot_list_contains (wpAny_mono (call_here F.slot_list_contains ⟨_, hl1, rfl⟩ F.entry_list_contains (F.args_list_contains_2 _ _) ?_) (fun v s' hv => wpAny_mono hv (fun b s2 z => wpAny_pure z) fun _ _ e => e) fun _ _ e => e))
  obtain ⟨hp, g, d, tk, os⟩ := s
  wp_walk using wpAny_loadPart' hl1
  exact ⟨plainId_quiet plain_contains_loop _, codeAny_builtin entry_contains_loop (by
    rw [Around.under_plainId plain_contains_loop _]
    exact loop)⟩
theorem rc_tup2 {l b : Addr} {a1 a2 b1 b2 : Value} {Q : Value → Shared → Prop} (hu : A.units < cLine) (hl : s.heap.IsTuple l #[a1, a2]) (hb : s.heap.IsTuple b #[b1, b2])
    (h : wpAny (model prog w) A.in1 (eqBool a1 b1) (fun r s' => if r = true then wpAny (model prog w) A.in1 (eqBool a2 b2) (fun r2 s2 => Q (.bool r2) s2) E s' else Q (.bool false) s') E s) : wpAny (model prog w) A (richCompare .Eq (.ref l) (.ref b)) Q E s := by
  obtain ⟨⟨cls, dd, data, sl⟩, ho, hc, n, hd⟩ := id hl
  obtain ⟨⟨cls2, dd2, data2, sl2⟩, ho2, hc2, n2, hd2⟩ := id hb
  simp only at hc hd hc2 hd2
  subst hc hd hc2 hd2
  refine wpAny_richCompare_same_room (op := .Eq) ⟨_, ho, rfl⟩ ⟨_, ho2, rfl⟩ F.slot_tuple_eq (call_here F.slot_tuple_eq ⟨_, ho, rfl⟩ F.entry_tuple_eq (F.args_tuple_eq_2 _ _) ?_) hu
  refine tuple_eq2 (R := wants (fun v s' => v ≠ .notImplemented ∧ Q v s') E) l b a1 a2 b1 b2 n n2 dd dd2 sl sl2 ho ho2 (wpAny_mono h (fun r s' z => ?_) fun _ _ e => e)
  cases r with
  | true =>
    rw [if_pos rfl] at z ⊢
    exact wpAny_mono z (fun _ _ z => ⟨(fun x => nomatch x), z⟩) fun _ _ e => e
  | false =>
    rw [if_neg (by decide)] at z ⊢
    exact ⟨(fun x => nomatch x), z⟩
end
end FoT
namespace L2
open PySem PySem.Spec PyProof.Rows
/-- x in l, l a list, each item against x by D -/
def rInG (D : EqvB) : R2 := fun x y H Q => ∃ (l : Addr) (xs : List V) (bs : List Bool), y = .ref l ∧ H l = some (.lst xs) ∧ xs.length = bs.length ∧ (∀ (i : Nat) z b, xs[i]? = some z → bs[i]? = some b → D z x b H) ∧ ∀ H', Ext H H' → Q (.bl (bs.any id)) H'
section
variable {X : Cx} {n : Nat} {D : EqvB}
theorem eqB_pair (hD : MonB D) (h : EqB X n D) : EqB X (n + 1) (DPair X.K D) := by
  intro A pins s σ H x y u v b sb I rx ry d
  obtain ⟨p, q, x1, x2, y1, y2, b1, b2, rfl, rfl, hp, hq, hpq, d1, d2, hb⟩ := d
  cases rx
  cases ry
  by_cases e : p = q
  · rw [hpq e]
    subst e
    exact SeqAt.EqAt.same (A := A) (s := s) (.ref p) X.prog X.w X.xe _ ⟨rfl, H, I, Ext.rfl'⟩
  obtain ⟨its, r, e1, _⟩ := I.tuple hp
  obtain ⟨its2, r2, e2, _⟩ := I.tuple hq
  cases r with
  | cons ru1 r => cases r with
    | cons ru2 r =>
      cases r
      cases r2 with
      | cons rv1 r2 => cases r2 with
        | cons rv2 r2 =>
          cases r2
          refine GQ.eqBool_refG e (FoT.rc_tup2 sb.room.units0 e1 e2 ?_)
          refine wpAny_mono (h A.in1 pins s σ H x1 y1 _ _ b1 sb.in1 I ru1 rv1 d1) (fun t s1 z => ?_) fun _ _ x => x
          obtain ⟨rfl, H1, I1, g1⟩ := z
          cases t with
          | false =>
            rw [if_neg (by decide)]
            exact ⟨false, rfl, by rw [hb]; rfl, H1, I1, g1⟩
          | true =>
            rw [if_pos rfl]
            refine wpAny_mono (h A.in1 pins s1 σ H1 x2 y2 _ _ b2 sb.in1 I1 ru2 rv2 (hD _ _ _ _ _ g1 d2)) (fun t s2 z => ?_) fun _ _ x => x
            obtain ⟨rfl, H2, I2, g2⟩ := z
            exact ⟨t, rfl, by rw [hb]; rfl, H2, I2, g1.trans g2⟩
theorem monB_pair {K : PySem.W.Frag} (hD : MonB D) : MonB (DPair K D) := fun x y b H H' e d => by
  obtain ⟨p, q, x1, x2, y1, y2, b1, b2, h1, h2, hp, hq, hpq, d1, d2, hb⟩ := d
  exact ⟨p, q, x1, x2, y1, y2, b1, b2, h1, h2, hp.ext e, hq.ext e, hpq, hD _ _ _ _ _ e d1, hD _ _ _ _ _ e d2, hb⟩
theorem op_inG (hD : MonB D) (h : EqB X n D) (hr : Room (n + 1) X.A) : OpR X (compareOp .In) (rInG D) := by
  intro pins s σ H x y v u Q I rx ry hq
  obtain ⟨l, xs, bs, rfl, hl, hlen, hd, q⟩ := hq
  obtain rfl : u = Value.ref l := ry
  have sb : Sub X (n + 1) X.A := ⟨hr, rfl⟩
  refine FoT.in_listG (N := xs.length) (B := fun i => (bs[i]?).getD false) (fun _ s' => LoopI X pins σ H s') (fun i s' z => ?_) (fun i s' hi hB hn z => ?_) (fun s' hn z => ?_) ⟨H, I, Ext.rfl'⟩
  · obtain ⟨H1, I1, e1⟩ := id z
    obtain ⟨zz, its, k, r, e⟩ := I1.hok l _ (e1 _ _ hl)
    refine ⟨its.toArray, k, e, by rw [List.size_toArray, ← r.length], fun hlt => ?_⟩
    have h1' : i < its.length := by simpa using hlt
    have k1 : i < xs.length := by rw [r.length]; exact h1'
    have k2 : i < bs.length := by omega
    obtain ⟨w, hw, rw'⟩ := r.get (List.getElem?_eq_getElem k1)
    have g1 : its[i]? = some its.toArray[i] := by
      rw [List.getElem?_eq_getElem h1']
      simp
    rw [g1] at hw
    rw [Option.some.inj hw]
    have eb : (bs[i]?).getD false = bs[i] := by rw [List.getElem?_eq_getElem k2]; rfl
    refine wpAny_mono (h X.A.in1 pins s' σ H1 _ _ w v bs[i] sb.in1 I1 rw' rx (hD _ _ _ _ _ e1 (hd i _ _ (List.getElem?_eq_getElem k1) (List.getElem?_eq_getElem k2)))) (fun t s2 q2 => ?_) fun _ _ x => x
    obtain ⟨rfl, H2, I2, e2⟩ := q2
    exact ⟨eb.symm, H2, I2, e1.trans e2⟩
  · obtain ⟨H1, I1, e1⟩ := z
    have : bs.any id = true := by
      rw [List.any_eq_true]
      have k2 : i < bs.length := by omega
      have eb : (bs[i]?).getD false = bs[i] := by rw [List.getElem?_eq_getElem k2]; rfl
      exact ⟨bs[i], List.getElem_mem k2, by rw [← eb]; exact hB⟩
    refine ⟨.bl true, H1, I1, rfl, ?_⟩
    have q1 := q H1 e1
    rw [this] at q1
    exact q1
  · obtain ⟨H1, I1, e1⟩ := z
    have : bs.any id = false := by
      rw [List.any_eq_false]
      intro b hb
      obtain ⟨i, hi, rfl⟩ := List.getElem_of_mem hb
      have eb : (bs[i]?).getD false = bs[i] := by rw [List.getElem?_eq_getElem hi]; rfl
      have hz : (bs[i]?).getD false = false := hn i (by omega)
      rw [eb] at hz
      simp [hz]
    refine ⟨.bl false, H1, I1, rfl, ?_⟩
    have q1 := q H1 e1
    rw [this] at q1
    exact q1
end
end L2

set_option Elab.async false
set_option linter.all false
set_option maxRecDepth 100000
set_option maxHeartbeats 2000000
namespace Fo
open PySem L2
/-! ### the text by places -/
def top (i : Nat) : Stmt := PySem.Challenge.pw_filledonce_k15_triangles.main.body.getD i (.Pass ⟨0, 0, 0, 0⟩)
abbrev sWhole : Stmt := top 6
abbrev sInit : Stmt := inClass (top 8) 0
abbrev sAdd : Stmt := inClass (top 8) 3
abbrev sSub : Stmt := inClass (top 8) 5
abbrev sCross : Stmt := inClass (top 8) 9
abbrev sMul : Stmt := inClass (top 8) 7
abbrev sEq : Stmt := inClass (top 8) 2
abbrev sPairM : Stmt := inClass (top 8) 10
abbrev sIsPoint : Stmt := top 9
abbrev sAsPoint : Stmt := top 10
abbrev sOperand : Stmt := top 11
abbrev sSide : Stmt := top 12
/-! ### data -/
theorem xy_ : ¬ (("x" : Str) = "y") := by decide +kernel
theorem yx_ : ¬ (("y" : Str) = "x") := by decide +kernel
def ptF (x y : Int) : List (Str × V) := putF "y" (.int y) (putF "x" (.int x) [])
theorem ptF_x (x y : Int) : (ptF x y).lookup ("x" : Str) = some (.int x) := by
  unfold ptF
  rw [lookup_putF, if_neg xy_, lookup_putF, if_pos rfl]
theorem ptF_y (x y : Int) : (ptF x y).lookup ("y" : Str) = some (.int y) := by
  unfold ptF
  rw [lookup_putF, if_pos rfl]
theorem ptF_no (x y : Int) {m : Str} (h1 : ¬ m = "y") (h2 : ¬ m = "x") : (ptF x y).lookup m = none := by
  unfold ptF
  rw [lookup_putF, if_neg h1, lookup_putF, if_neg h2]
  all_goals rfl
/-- an instance of Point with these numbers -/
def IsP (C : Addr) (v : V) (x y : Int) (H : Hp) : Prop := ∃ a dx, v = .ref a ∧ H a = some (.ins C dx (ptF x y))
/-- it, or a pair that stands for it -/
def IsPt (C : Addr) (v : V) (x y : Int) (H : Hp) : Prop := ∃ a, v = .ref a ∧ ((∃ dx, H a = some (.ins C dx (ptF x y))) ∨ H a = some (.tup [.int x, .int y]))
theorem IsP.ex {C : Addr} {v : V} {x y : Int} {H H' : Hp} (e : Same H H') (h : IsP C v x y H) : IsP C v x y H' := by
  obtain ⟨a, dx, rfl, h⟩ := h
  exact ⟨a, dx, rfl, e _ _ h⟩
theorem IsPt.ex {C : Addr} {v : V} {x y : Int} {H H' : Hp} (e : Same H H') (h : IsPt C v x y H) : IsPt C v x y H' := by
  obtain ⟨a, rfl, h⟩ := h
  rcases h with ⟨dx, h⟩ | h
  · exact ⟨a, rfl, .inl ⟨dx, e _ _ h⟩⟩
  · exact ⟨a, rfl, .inr (e _ _ h)⟩
theorem IsP.pt {C : Addr} {v : V} {x y : Int} {H : Hp} (h : IsP C v x y H) : IsPt C v x y H := by
  obtain ⟨a, dx, rfl, h⟩ := h
  exact ⟨a, rfl, .inl ⟨dx, h⟩⟩
theorem same_new {H : Hp} {p : Addr} {o : HO} (h : H p = none) : Same H (upd H p o) := fun a u e => by
  rw [upd_ne (ne_of_none e h)]
  exact e
def Sm (n : Nat) (x : Int) : Prop := x.natAbs < 2 ^ n
theorem Sm.mul {n : Nat} {x y : Int} (hx : Sm n x) (hy : Sm n y) (h0 : 0 < n) (h1 : n ≤ 1000) : CMulW x y := wide_mul hx hy h0 h0 (by omega)
theorem Sm.sub {n : Nat} {x y : Int} (hx : Sm n x) (hy : Sm n y) : Sm (n + 1) (x - y) := by
  unfold Sm at *
  rw [Nat.pow_succ]
  omega
theorem Sm.up {n m : Nat} {x : Int} (hx : Sm n x) (h : n ≤ m) : Sm m x := Nat.lt_of_lt_of_le hx (Nat.pow_le_pow_right (by decide) h)
/-! ### promises -/
def spWhole : Sp := fun vs H Q _ => ∃ i : Int, vs = [.int i] ∧ Q (.bl true) H
def spInit (C : Addr) : Sp := fun vs H Q _ => ∃ (p dx : Addr) (x y : Int), vs = [.ref p, .int x, .int y] ∧ H p = some (.ins C dx []) ∧ Q .non (upd (upd H p (.ins C dx (putF "x" (.int x) []))) p (.ins C dx (ptF x y)))
def spIsPoint (C : Addr) : Sp := fun vs H Q _ => ∃ (v : V) (x y : Int), vs = [v] ∧ IsPt C v x y H ∧ Q (.bl true) H
def spAsPoint (C : Addr) : Sp := fun vs H Q _ => ∃ (v : V) (x y : Int), vs = [v] ∧ IsPt C v x y H ∧ ∀ w H', Same H H' → IsP C w x y H' → (IsP C v x y H → w = v) → Q w H'
def spBin (C : Addr) (g : Int → Int → Int) : Sp := fun vs H Q _ => ∃ (v u : V) (x y z t : Int), vs = [v, u] ∧ IsP C v x y H ∧ IsPt C u z t H ∧ ∀ w H', Same H H' → IsP C w (g x z) (g y t) H' → Q w H'
def spCross (C : Addr) : Sp := fun vs H Q _ => ∃ (n : Nat) (v u : V) (x y z t : Int), vs = [v, u] ∧ IsP C v x y H ∧ IsPt C u z t H ∧ 0 < n ∧ n ≤ 1000 ∧ Sm n x ∧ Sm n y ∧ Sm n z ∧ Sm n t ∧ ∀ H', Same H H' → Q (.int (x * t - y * z)) H'
def sideI (ax ay bx by' px py : Int) : Int := (bx - ax) * (py - ay) - (by' - ay) * (px - ax)
def spSide (C : Addr) : Sp := fun vs H Q _ => ∃ (n : Nat) (a b p : V) (ax ay bx by' px py : Int), vs = [a, b, p] ∧ IsPt C a ax ay H ∧ IsPt C b bx by' H ∧ IsPt C p px py H ∧ n < 1000 ∧
  Sm n ax ∧ Sm n ay ∧ Sm n bx ∧ Sm n by' ∧ Sm n px ∧ Sm n py ∧ ∀ H', Same H H' → Q (.int (sideI ax ay bx by' px py)) H'
def spQuarter (C : Addr) : Sp := fun vs H Q _ => ∃ (v : V) (x y : Int), vs = [v] ∧ IsPt C v x y H ∧ ∀ w H', Same H H' → IsP C w (-y) x H' → Q w H'
/-- what the top has written of Point -/
structure Txt (K : PySem.W.Frag) (mg : Str → Option Value) (C : Addr) : Prop where
  cl : Cls K C
  nX : NoAttr K C "x"
  nY : NoAttr K C "y"
  mgC : mg "Point" = some (.ref C)
  isi : mg "isinstance" = none
  len : mg "len" = none
  int : mg "int" = none
  bool : mg "bool" = none
  tuple : mg "tuple" = none
  ha : PySem.W.findIn K (.ref C) "__class__" = some (some (.builtin "object.__class__"))
  hn : PySem.W.specialIn K (.builtin "object.__class__") "__get__" = some (some (.builtin "getset_descriptor.__get__"))
  htk : PySem.W.takesIn K (.builtin "object.__class__") = some true
  hm : PySem.W.mroIn K C (.type "object") = some true
  kTC : PySem.W.kitOne K (.type "tuple") (.ref C) = some false
  kCC : PySem.W.kitOne K (.ref C) (.ref C) = some true
section
variable {P : Program} {w : World} {K : PySem.W.Frag} {mg : Str → Option Value} {base : Heap}
theorem scWhole : FnScope ["value"] ["value"] (defScope sWhole) := ⟨rfl, rfl, rfl, by decide +kernel, rfl, by decide +kernel, by decide +kernel⟩
theorem ok_whole {f C : Addr} {fd : FuncData} (F : Fun K "is_whole" "is_whole" sWhole f fd) (T : Txt K mg C) : FnOk P w K mg base CX0 1 f fd ["value"] spWhole := by
  refine F.ok scWhole (fun vs H Q E h => ?_) (fun cdv A outer s H vs Q E hr h => ?_)
  · obtain ⟨i, rfl, _⟩ := h
    rfl
  · obtain ⟨i, rfl, k⟩ := h
    refine ⟨_, pss_one (ps_ret (pe_and (pe_callB call_isi (by rfl) T.isi (by decide +kernel) (pa_cons (pv 0) (pa_cons (pe_bltn (v := .ty "int") (by rfl) T.int (by decide +kernel) rfl) pa_nil)))
      (pe_one (pe_not (pe_callB call_isi (by rfl) T.isi (by decide +kernel) (pa_cons (pv 0) (pa_cons (pe_bltn (v := .ty "bool") (by rfl) T.bool (by decide +kernel) rfl) pa_nil))))))), ?_⟩
    refine ⟨_, rfl, _, _, _, _, true, rfl, .ty _, .base (.int i), kit_ty (by decide +kernel), true, rfl, ?_⟩
    refine iteT ?_
    exact ⟨_, rfl, _, _, _, _, false, rfl, .ty _, .base (.int i), kit_ty (by decide +kernel), false, rfl, k⟩

theorem scInit : FnScope ["self", "x", "y"] ["self", "x", "y"] (defScope sInit) := ⟨rfl, rfl, rfl, by decide +kernel, rfl, by decide +kernel, by decide +kernel⟩
theorem ok_init {f C fW : Addr} {fd fdW : FuncData} (F : Fun K "__init__" "Point.__init__" sInit f fd) (T : Txt K mg C) (FW : Fun K "is_whole" "is_whole" sWhole fW fdW) (bW : Binds K fdW ["value"] []) (mW : mg "is_whole" = some (.ref fW)) :
    FnOk P w K mg base CX0 2 f fd ["self", "x", "y"] (spInit C) := by
  have GW : FnOk P w K mg base CX0 1 fW fdW ["value"] spWhole := ok_whole FW T
  refine F.ok scInit (fun vs H Q E h => ?_) (fun cdv A outer s H vs Q E hr h => ?_)
  · obtain ⟨p, dx, x, y, rfl, _⟩ := h
    rfl
  · obtain ⟨p, dx, x, y, rfl, hp, k⟩ := h
    refine ⟨_, pss_cons (ps_if (PW.pt (pw_or (pt_not (pt_val (pe_call GW hr rfl mW FW.kp bW .nil pass0 (pa_cons (pv 1) pa_nil)))) (pw_or1 (pt_not (pt_val (pe_call GW hr rfl mW FW.kp bW .nil pass0 (pa_cons (pv 2) pa_nil))))))) (pss_one ps_never) pss_nil)
      (pss_cons (ps_fld (pv 0) (pv 1) rfl) (pss_one (ps_fld (pv 0) (pv 2) rfl))), ?_⟩
    refine ⟨_, rfl, x, rfl, true, rfl, ?_⟩
    refine iteF ?_
    refine ⟨_, rfl, y, rfl, true, rfl, ?_⟩
    refine iteF ?_
    refine ⟨_, rfl, _, rfl, p, C, dx, [], rfl, hp, T.cl, T.nX, (by show 0 < 1000; decide), ?_⟩
    refine ⟨_, rfl, _, rfl, p, C, dx, _, rfl, upd_same, T.cl, T.nY, (by show 1 < 1000; decide), ?_⟩
    exact k
theorem ty_ins {C a dx : Addr} {fs : List (Str × V)} {H : Hp} (T : Txt K mg C) (h : H a = some (.ins C dx fs)) : TyX K H (.ref a) (.ref C) := .base (.ins h T.cl T.ha T.hn T.htk T.hm)
theorem scIsPoint : FnScope ["thing"] ["thing"] (defScope sIsPoint) := ⟨rfl, rfl, rfl, by decide +kernel, rfl, by decide +kernel, by decide +kernel⟩
theorem ok_is_point {f C fW : Addr} {fd fdW : FuncData} (F : Fun K "is_point" "is_point" sIsPoint f fd) (T : Txt K mg C) (FW : Fun K "is_whole" "is_whole" sWhole fW fdW) (bW : Binds K fdW ["value"] []) (mW : mg "is_whole" = some (.ref fW)) :
    FnOk P w K mg base CX0 2 f fd ["thing"] (spIsPoint C) := by
  have GW : FnOk P w K mg base CX0 1 fW fdW ["value"] spWhole := ok_whole FW T
  refine F.ok scIsPoint (fun vs H Q E h => ?_) (fun cdv A outer s H vs Q E hr h => ?_)
  · obtain ⟨v, x, y, rfl, _⟩ := h
    rfl
  · obtain ⟨v, x, y, rfl, ⟨a, rfl, hv⟩, k⟩ := h
    refine ⟨_, pss_cons (ps_if (pt_val (pe_callB call_isi (by rfl) T.isi (by decide +kernel) (pa_cons (pv 0) (pa_cons (pe_glob (v := .ref C) rfl T.mgC rfl) pa_nil)))) (pss_one (ps_ret pe_bl)) pss_nil)
      (pss_one (ps_ret (pe_and (pe_callB call_isi (by rfl) T.isi (by decide +kernel) (pa_cons (pv 0) (pa_cons (pe_bltn (v := .ty "tuple") (by rfl) T.tuple (by decide +kernel) rfl) pa_nil)))
        (pe_and (pe_cmpR op_eq (pe_callB call_len_seq (by rfl) T.len PySem.boot_len (pa_cons (pv 0) pa_nil)) pe_int (nomark _))
        (pe_and (pe_call GW hr rfl mW FW.kp bW .nil pass0 (pa_cons (pe_ix ix_tup (pv 0) pe_int (fun _ _ => rfl)) pa_nil))
        (pe_one (pe_call GW hr rfl mW FW.kp bW .nil pass0 (pa_cons (pe_ix ix_tup (pv 0) pe_int (fun _ _ => rfl)) pa_nil)))))))), ?_⟩
    rcases hv with ⟨dx, hv⟩ | hv
    · refine ⟨_, rfl, _, _, _, _, true, rfl, .own C, ty_ins T hv, T.kCC, true, rfl, ?_⟩
      refine iteT ?_
      exact k
    · refine ⟨_, rfl, _, _, _, _, false, rfl, .own C, .base (.tup hv), T.kTC, false, rfl, ?_⟩
      refine iteF ?_
      refine ⟨_, rfl, _, _, _, _, true, rfl, .ty _, .base (.tup hv), kit_ty (by decide +kernel), true, rfl, ?_⟩
      refine iteT ?_
      refine ⟨_, rfl, a, _, rfl, .inr (SqT.of hv), rfl, true, rfl, ?_⟩
      refine iteT ?_
      refine ⟨_, rfl, a, _, _, _, rfl, rfl, SqT.of hv, atI_nat (j := 0) rfl, x, rfl, true, rfl, ?_⟩
      refine iteT ?_
      exact ⟨_, rfl, a, _, _, _, rfl, rfl, SqT.of hv, atI_nat (j := 1) rfl, y, rfl, k⟩

/-- a new Point -/
theorem made_same {C x dx : Addr} {H : Hp} {X Y : Int} (nx : H x = none) (nd : H dx = none) : Same H (upd (upd (upd (upd H dx (.own x)) x (.ins C dx [])) x (.ins C dx (putF "x" (.int X) []))) x (.ins C dx (ptF X Y))) := fun b o e => by
  have n1 : b ≠ x := ne_of_none e nx
  have n2 : b ≠ dx := ne_of_none e nd
  rw [upd_ne n1, upd_ne n1, upd_ne n1, upd_ne n2]
  exact e
theorem made_is {C x dx : Addr} {H : Hp} {X Y : Int} : IsP C (.ref x) X Y (upd (upd (upd (upd H dx (.own x)) x (.ins C dx [])) x (.ins C dx (putF "x" (.int X) []))) x (.ins C dx (ptF X Y))) := ⟨x, dx, rfl, upd_same⟩
/-- Point(a, b) of two numbers: spInit's reading at a new instance -/
theorem make_pt {C : Addr} {H : Hp} {X Y : Int} {Q : VK} {E : XK} (k : ∀ v H', Same H H' → IsP C v X Y H' → Q v H') :
    ∀ x dx, H x = none → H dx = none → dx ≠ x → spInit C (.ref x :: ([.int X, .int Y] ++ [])) (upd (upd H dx (.own x)) x (.ins C dx [])) (fun v H2 => v = .non ∧ Q (.ref x) H2) E := fun x dx nx nd _ =>
  ⟨x, dx, X, Y, rfl, upd_same, rfl, k _ _ (made_same nx nd) made_is⟩
/-- the program's defs that others call, as they stand -/
structure Defs (K : PySem.W.Frag) (mg : Str → Option Value) (C fW fI fP fA fO : Addr) (fdW fdI fdP fdA fdO : FuncData) : Prop where
  T : Txt K mg C
  FW : Fun K "is_whole" "is_whole" sWhole fW fdW
  bW : Binds K fdW ["value"] []
  mW : mg "is_whole" = some (.ref fW)
  M : Mk K C fI
  FI : Fun K "__init__" "Point.__init__" sInit fI fdI
  bI : Binds K fdI ["self", "x", "y"] []
  FP : Fun K "is_point" "is_point" sIsPoint fP fdP
  bP : Binds K fdP ["thing"] []
  mP : mg "is_point" = some (.ref fP)
  FA : Fun K "as_point" "as_point" sAsPoint fA fdA
  bA : Binds K fdA ["thing"] []
  mA : mg "as_point" = some (.ref fA)
  FO : Fun K "operand" "operand" sOperand fO fdO
  bO : Binds K fdO ["thing"] []
  mO : mg "operand" = some (.ref fO)
variable {C fW fI fP fA fO : Addr} {fdW fdI fdP fdA fdO : FuncData}
theorem Defs.GW (D : Defs K mg C fW fI fP fA fO fdW fdI fdP fdA fdO) : FnOk P w K mg base CX0 1 fW fdW ["value"] spWhole := ok_whole D.FW D.T
theorem Defs.GI (D : Defs K mg C fW fI fP fA fO fdW fdI fdP fdA fdO) : FnOk P w K mg base CX0 2 fI fdI ["self", "x", "y"] (spInit C) := ok_init D.FI D.T D.FW D.bW D.mW
theorem Defs.GP (D : Defs K mg C fW fI fP fA fO fdW fdI fdP fdA fdO) : FnOk P w K mg base CX0 2 fP fdP ["thing"] (spIsPoint C) := ok_is_point D.FP D.T D.FW D.bW D.mW
theorem scAsPoint : FnScope ["thing"] ["thing"] (defScope sAsPoint) := ⟨rfl, rfl, rfl, by decide +kernel, rfl, by decide +kernel, by decide +kernel⟩
theorem Defs.GA (D : Defs K mg C fW fI fP fA fO fdW fdI fdP fdA fdO) : FnOk P w K mg base CX0 4 fA fdA ["thing"] (spAsPoint C) := by
  have GP : FnOk P w K mg base CX0 2 fP fdP ["thing"] (spIsPoint C) := D.GP
  have GI : FnOk P w K mg base CX0 2 fI fdI ["self", "x", "y"] (spInit C) := D.GI
  have T := D.T
  refine D.FA.ok scAsPoint (fun vs H Q E h => ?_) (fun cdv A outer s H vs Q E hr h => ?_)
  · obtain ⟨v, x, y, rfl, _⟩ := h
    rfl
  · obtain ⟨v, x, y, rfl, hp, k⟩ := h
    refine ⟨_, pss_cons (ps_if (pt_not (pt_val (pe_call GP (hr.mono (by decide)) rfl D.mP D.FP.kp D.bP .nil pass0 (pa_cons (pv 0) pa_nil)))) (pss_one ps_never) pss_nil)
      (pss_cons (ps_if (pt_val (pe_callB call_isi (by rfl) T.isi (by decide +kernel) (pa_cons (pv 0) (pa_cons (pe_glob (v := .ref C) rfl T.mgC rfl) pa_nil)))) (pss_one (ps_ret (pv 0))) pss_nil)
      (pss_one (ps_ret (pe_make D.M GI hr rfl T.mgC D.bI .nil pass0 (pa_cons (pe_ix ix_tup (pv 0) pe_int (fun _ _ => rfl)) (pa_cons (pe_ix ix_tup (pv 0) pe_int (fun _ _ => rfl)) pa_nil)))))), ?_⟩
    refine ⟨_, rfl, v, x, y, rfl, hp, true, rfl, ?_⟩
    refine iteF ?_
    obtain ⟨a, rfl, hv⟩ := hp
    rcases hv with ⟨dx, hv⟩ | hv
    · refine ⟨_, rfl, _, _, _, _, true, rfl, .own C, ty_ins T hv, T.kCC, true, rfl, ?_⟩
      refine iteT ?_
      exact ⟨_, rfl, k _ _ (Same.refl _) ⟨a, dx, rfl, hv⟩ fun _ => rfl⟩
    · refine ⟨_, rfl, _, _, _, _, false, rfl, .own C, .base (.tup hv), T.kTC, false, rfl, ?_⟩
      refine iteF ?_
      refine ⟨_, rfl, a, _, _, _, rfl, rfl, SqT.of hv, atI_nat (j := 0) rfl, _, rfl, a, _, _, _, rfl, rfl, SqT.of hv, atI_nat (j := 1) rfl, ?_⟩
      refine make_pt fun v H2 e2 h2 => k v H2 e2 h2 fun hp => ?_
      obtain ⟨b, dy, q1, q2⟩ := hp
      cases q1
      rw [hv] at q2
      cases q2
theorem scOperand : FnScope ["thing"] ["thing"] (defScope sOperand) := ⟨rfl, rfl, rfl, by decide +kernel, rfl, by decide +kernel, by decide +kernel⟩
theorem Defs.GO (D : Defs K mg C fW fI fP fA fO fdW fdI fdP fdA fdO) : FnOk P w K mg base CX0 5 fO fdO ["thing"] (spAsPoint C) := by
  have GP : FnOk P w K mg base CX0 2 fP fdP ["thing"] (spIsPoint C) := D.GP
  have GA : FnOk P w K mg base CX0 4 fA fdA ["thing"] (spAsPoint C) := D.GA
  refine D.FO.ok scOperand (fun vs H Q E h => ?_) (fun cdv A outer s H vs Q E hr h => ?_)
  · obtain ⟨v, x, y, rfl, _⟩ := h
    rfl
  · obtain ⟨v, x, y, rfl, hp, k⟩ := h
    refine ⟨_, pss_cons (ps_if (pt_not (pt_val (pe_call GP (hr.mono (by decide)) rfl D.mP D.FP.kp D.bP .nil pass0 (pa_cons (pv 0) pa_nil)))) (pss_one ps_never) pss_nil)
      (pss_one (ps_ret (pe_call GA hr rfl D.mA D.FA.kp D.bA .nil pass0 (pa_cons (pv 0) pa_nil)))), ?_⟩
    refine ⟨_, rfl, v, x, y, rfl, hp, true, rfl, ?_⟩
    refine iteF ?_
    exact ⟨_, rfl, v, x, y, rfl, hp, k⟩
theorem scAdd : FnScope ["self", "other", "by"] ["self", "other"] (defScope sAdd) := ⟨rfl, rfl, rfl, by decide +kernel, rfl, by decide +kernel, by decide +kernel⟩
theorem ok_add {f : Addr} {fd : FuncData} (F : Fun K "__add__" "Point.__add__" sAdd f fd) (D : Defs K mg C fW fI fP fA fO fdW fdI fdP fdA fdO) : FnOk P w K mg base CX0 6 f fd ["self", "other"] (spBin C (· + ·)) := by
  have GO : FnOk P w K mg base CX0 5 fO fdO ["thing"] (spAsPoint C) := D.GO
  have GI : FnOk P w K mg base CX0 2 fI fdI ["self", "x", "y"] (spInit C) := D.GI
  have T := D.T
  refine F.ok scAdd (fun vs H Q E h => ?_) (fun cdv A outer s H vs Q E hr h => ?_)
  · obtain ⟨v, u, x, y, z, t, rfl, _⟩ := h
    rfl
  · obtain ⟨v, u, x, y, z, t, rfl, hv, hu, k⟩ := h
    refine ⟨_, pss_cons (ps_set (i := 2) scAdd.nd rfl (Or.inl rfl) (pe_call GO hr rfl D.mO D.FO.kp D.bO .nil pass0 (pa_cons (pv 1) pa_nil)))
      (pss_one (ps_ret (pe_make D.M GI (hr.mono (by decide)) rfl T.mgC D.bI .nil pass0 (pa_cons (pe_op op_add (pe_fld (pv 0) rfl) (pe_fld (pv 2) rfl)) (pa_cons (pe_op op_add (pe_fld (pv 0) rfl) (pe_fld (pv 2) rfl)) pa_nil))))), ?_⟩
    refine ⟨_, rfl, u, z, t, rfl, hu, fun w H' e hw _ => ?_⟩
    obtain ⟨a, dx, rfl, ha⟩ := hv.ex e
    obtain ⟨b, dy, rfl, hb⟩ := hw
    refine ⟨_, rfl, a, C, dx, _, _, rfl, ha, T.cl, T.nX, ptF_x _ _, _, rfl, b, C, dy, _, _, rfl, hb, T.cl, T.nX, ptF_x _ _, _, _, rfl, rfl, ?_⟩
    refine ⟨_, rfl, a, C, dx, _, _, rfl, ha, T.cl, T.nY, ptF_y _ _, _, rfl, b, C, dy, _, _, rfl, hb, T.cl, T.nY, ptF_y _ _, _, _, rfl, rfl, ?_⟩
    exact make_pt fun v H2 e2 h2 => k v H2 (e.trans e2) h2
theorem scSub : FnScope ["self", "other", "by"] ["self", "other"] (defScope sSub) := ⟨rfl, rfl, rfl, by decide +kernel, rfl, by decide +kernel, by decide +kernel⟩
theorem ok_sub {f : Addr} {fd : FuncData} (F : Fun K "__sub__" "Point.__sub__" sSub f fd) (D : Defs K mg C fW fI fP fA fO fdW fdI fdP fdA fdO) : FnOk P w K mg base CX0 6 f fd ["self", "other"] (spBin C (· - ·)) := by
  have GO : FnOk P w K mg base CX0 5 fO fdO ["thing"] (spAsPoint C) := D.GO
  have GI : FnOk P w K mg base CX0 2 fI fdI ["self", "x", "y"] (spInit C) := D.GI
  have T := D.T
  refine F.ok scSub (fun vs H Q E h => ?_) (fun cdv A outer s H vs Q E hr h => ?_)
  · obtain ⟨v, u, x, y, z, t, rfl, _⟩ := h
    rfl
  · obtain ⟨v, u, x, y, z, t, rfl, hv, hu, k⟩ := h
    refine ⟨_, pss_cons (ps_set (i := 2) scSub.nd rfl (Or.inl rfl) (pe_call GO hr rfl D.mO D.FO.kp D.bO .nil pass0 (pa_cons (pv 1) pa_nil)))
      (pss_one (ps_ret (pe_make D.M GI (hr.mono (by decide)) rfl T.mgC D.bI .nil pass0 (pa_cons (pe_op op_sub (pe_fld (pv 0) rfl) (pe_fld (pv 2) rfl)) (pa_cons (pe_op op_sub (pe_fld (pv 0) rfl) (pe_fld (pv 2) rfl)) pa_nil))))), ?_⟩
    refine ⟨_, rfl, u, z, t, rfl, hu, fun w H' e hw _ => ?_⟩
    obtain ⟨a, dx, rfl, ha⟩ := hv.ex e
    obtain ⟨b, dy, rfl, hb⟩ := hw
    refine ⟨_, rfl, a, C, dx, _, _, rfl, ha, T.cl, T.nX, ptF_x _ _, _, rfl, b, C, dy, _, _, rfl, hb, T.cl, T.nX, ptF_x _ _, _, _, rfl, rfl, ?_⟩
    refine ⟨_, rfl, a, C, dx, _, _, rfl, ha, T.cl, T.nY, ptF_y _ _, _, rfl, b, C, dy, _, _, rfl, hb, T.cl, T.nY, ptF_y _ _, _, _, rfl, rfl, ?_⟩
    exact make_pt fun v H2 e2 h2 => k v H2 (e.trans e2) h2
theorem IsPt.opnd {v : V} {x y : Int} {H : Hp} (h : IsPt C v x y H) : (∃ b dy gs, v = .ref b ∧ H b = some (.ins C dy gs)) ∨ ∃ b xs, v = .ref b ∧ H b = some (.tup xs) := by
  obtain ⟨a, rfl, h⟩ := h
  rcases h with ⟨dx, h⟩ | h
  · exact .inl ⟨a, dx, _, rfl, h⟩
  · exact .inr ⟨a, _, rfl, h⟩
theorem cross_no (x y : Int) : (ptF x y).lookup ("cross" : Str) = none := ptF_no _ _ (by decide +kernel) (by decide +kernel)
theorem scSide : FnScope ["a", "b", "point", "start", "end", "place"] ["a", "b", "point"] (defScope sSide) := ⟨rfl, rfl, rfl, by decide +kernel, rfl, by decide +kernel, by decide +kernel⟩
theorem ok_side {f : Addr} {fd : FuncData} (F : Fun K "side" "side" sSide f fd) (D : Defs K mg C fW fI fP fA fO fdW fdI fdP fdA fdO) : FnOk P w K mg base CX0 7 f fd ["a", "b", "point"] (spSide C) := by
  have GA : FnOk P w K mg base CX0 4 fA fdA ["thing"] (spAsPoint C) := D.GA
  have T := D.T
  refine F.ok scSide (fun vs H Q E h => ?_) (fun cdv A outer s H vs Q E hr h => ?_)
  · obtain ⟨n, a, b, p, ax, ay, bx, by', px, py, rfl, _⟩ := h
    rfl
  · obtain ⟨n, a, b, p, ax, ay, bx, by', px, py, rfl, ha, hb, hp, n1, s1, s2, s3, s4, s5, s6, k⟩ := h
    have hr4 : Room 4 _ := hr.mono (by decide)
    refine ⟨_, pss_cons (ps_set (i := 3) scSide.nd rfl (Or.inl rfl) (pe_call GA hr4 rfl D.mA D.FA.kp D.bA .nil pass0 (pa_cons (pv 0) pa_nil)))
      (pss_cons (ps_set (i := 4) scSide.nd rfl (Or.inl rfl) (pe_call GA hr4 rfl D.mA D.FA.kp D.bA .nil pass0 (pa_cons (pv 1) pa_nil)))
      (pss_cons (ps_set (i := 5) scSide.nd rfl (Or.inl rfl) (pe_call GA hr4 rfl D.mA D.FA.kp D.bA .nil pass0 (pa_cons (pv 2) pa_nil)))
      (pss_one (ps_ret (pe_op op_sub
        (pe_op op_mulW (pe_op op_sub (pe_fld (pv 4) rfl) (pe_fld (pv 3) rfl)) (pe_op op_sub (pe_fld (pv 5) rfl) (pe_fld (pv 3) rfl)))
        (pe_op op_mulW (pe_op op_sub (pe_fld (pv 4) rfl) (pe_fld (pv 3) rfl)) (pe_op op_sub (pe_fld (pv 5) rfl) (pe_fld (pv 3) rfl)))))))), ?_⟩
    refine ⟨_, rfl, a, ax, ay, rfl, ha, fun w1 H1 e1 h1 _ => ?_⟩
    refine ⟨_, rfl, b, bx, by', rfl, hb.ex e1, fun w2 H2 e2 h2 _ => ?_⟩
    refine ⟨_, rfl, p, px, py, rfl, hp.ex (e1.trans e2), fun w3 H3 e3 h3 _ => ?_⟩
    obtain ⟨a1, d1, rfl, z1⟩ := (h1.ex e2).ex e3
    obtain ⟨a2, d2, rfl, z2⟩ := h2.ex e3
    obtain ⟨a3, d3, rfl, z3⟩ := h3
    refine ⟨_, rfl, a2, C, d2, _, _, rfl, z2, T.cl, T.nX, ptF_x _ _, _, rfl, a1, C, d1, _, _, rfl, z1, T.cl, T.nX, ptF_x _ _, _, _, rfl, rfl, ?_⟩
    refine ⟨_, rfl, a3, C, d3, _, _, rfl, z3, T.cl, T.nY, ptF_y _ _, _, rfl, a1, C, d1, _, _, rfl, z1, T.cl, T.nY, ptF_y _ _, _, _, rfl, rfl, ?_⟩
    refine ⟨_, _, rfl, rfl, (s3.sub s1).mul (s6.sub s2) (Nat.succ_pos _) n1, ?_⟩
    refine ⟨_, rfl, a2, C, d2, _, _, rfl, z2, T.cl, T.nY, ptF_y _ _, _, rfl, a1, C, d1, _, _, rfl, z1, T.cl, T.nY, ptF_y _ _, _, _, rfl, rfl, ?_⟩
    refine ⟨_, rfl, a3, C, d3, _, _, rfl, z3, T.cl, T.nX, ptF_x _ _, _, rfl, a1, C, d1, _, _, rfl, z1, T.cl, T.nX, ptF_x _ _, _, _, rfl, rfl, ?_⟩
    refine ⟨_, _, rfl, rfl, (s4.sub s2).mul (s5.sub s1) (Nat.succ_pos _) n1, ?_⟩
    exact ⟨_, _, rfl, rfl, k _ ((e1.trans e2).trans e3)⟩
def spMul (C : Addr) : Sp := fun vs H Q _ => ∃ (v : V) (x y m : Int), vs = [v, .int m] ∧ IsP C v x y H ∧ CMulW x m ∧ CMulW y m ∧ ∀ w H', Same H H' → IsP C w (x * m) (y * m) H' → Q w H'
theorem scMul : FnScope ["self", "other"] ["self", "other"] (defScope sMul) := ⟨rfl, rfl, rfl, by decide +kernel, rfl, by decide +kernel, by decide +kernel⟩
theorem ok_mul {f : Addr} {fd : FuncData} (F : Fun K "__mul__" "Point.__mul__" sMul f fd) (D : Defs K mg C fW fI fP fA fO fdW fdI fdP fdA fdO) : FnOk P w K mg base CX0 4 f fd ["self", "other"] (spMul C) := by
  have GW : FnOk P w K mg base CX0 1 fW fdW ["value"] spWhole := D.GW
  have GI : FnOk P w K mg base CX0 2 fI fdI ["self", "x", "y"] (spInit C) := D.GI
  have T := D.T
  refine F.ok scMul (fun vs H Q E h => ?_) (fun cdv A outer s H vs Q E hr h => ?_)
  · obtain ⟨v, x, y, m, rfl, _⟩ := h
    rfl
  · obtain ⟨v, x, y, m, rfl, hv, c1, c2, k⟩ := h
    refine ⟨_, pss_cons (ps_if (pt_not (pt_val (pe_call GW (hr.mono (by decide)) rfl D.mW D.FW.kp D.bW .nil pass0 (pa_cons (pv 1) pa_nil)))) (pss_one ps_never) pss_nil)
      (pss_one (ps_ret (pe_make D.M GI hr rfl T.mgC D.bI .nil pass0 (pa_cons (pe_op op_mulW (pe_fld (pv 0) rfl) (pv 1)) (pa_cons (pe_op op_mulW (pe_fld (pv 0) rfl) (pv 1)) pa_nil))))), ?_⟩
    refine ⟨_, rfl, m, rfl, true, rfl, ?_⟩
    refine iteF ?_
    obtain ⟨a, dx, rfl, ha⟩ := hv
    refine ⟨_, rfl, a, C, dx, _, _, rfl, ha, T.cl, T.nX, ptF_x _ _, _, rfl, _, _, rfl, rfl, c1, ?_⟩
    refine ⟨_, rfl, a, C, dx, _, _, rfl, ha, T.cl, T.nY, ptF_y _ _, _, rfl, _, _, rfl, rfl, c2, ?_⟩
    exact make_pt k
def spEqP (C : Addr) : Sp := fun vs H Q _ => ∃ (v u : V) (x y z t : Int), vs = [v, u] ∧ IsP C v x y H ∧ ((IsP C u z t H ∧ Q (.bl (decide (x = z) && decide (y = t))) H) ∨ ((∃ b xs, u = .ref b ∧ H b = some (.tup xs)) ∧ Q (.bl false) H))
theorem scEq : FnScope ["self", "other"] ["self", "other"] (defScope sEq) := ⟨rfl, rfl, rfl, by decide +kernel, rfl, by decide +kernel, by decide +kernel⟩
theorem ok_eq {f : Addr} {fd : FuncData} (F : Fun K "__eq__" "Point.__eq__" sEq f fd) (T : Txt K mg C) : FnOk P w K mg base CX0 1 f fd ["self", "other"] (spEqP C) := by
  refine F.ok scEq (fun vs H Q E h => ?_) (fun cdv A outer s H vs Q E hr h => ?_)
  · obtain ⟨v, u, x, y, z, t, rfl, _⟩ := h
    rfl
  · obtain ⟨v, u, x, y, z, t, rfl, ⟨a, dx, rfl, ha⟩, hu⟩ := h
    refine ⟨_, pss_one (ps_ret (pe_and (pe_callB call_isi (by rfl) T.isi (by decide +kernel) (pa_cons (pv 1) (pa_cons (pe_glob (v := .ref C) rfl T.mgC rfl) pa_nil)))
      (pe_and (pe_cmpR op_eq (pe_fld (pv 0) rfl) (pe_fld (pv 1) rfl) (nomark _)) (pe_one (pe_cmpR op_eq (pe_fld (pv 0) rfl) (pe_fld (pv 1) rfl) (nomark _)))))), ?_⟩
    rcases hu with ⟨⟨b, dy, rfl, hb⟩, k⟩ | ⟨⟨b, xs, rfl, hb⟩, k⟩
    · refine ⟨_, rfl, _, _, _, _, true, rfl, .own C, ty_ins T hb, T.kCC, true, rfl, ?_⟩
      refine iteT ?_
      refine ⟨_, rfl, a, C, dx, _, _, rfl, ha, T.cl, T.nX, ptF_x _ _, _, rfl, b, C, dy, _, _, rfl, hb, T.cl, T.nX, ptF_x _ _, rfl, _, rfl, ?_⟩
      have ei : ∀ i j : Int, decide (V.int i = V.int j) = decide (i = j) := fun i j => by
        by_cases h : i = j
        · rw [h, decide_eq_true rfl, decide_eq_true rfl]
        · rw [decide_eq_false h, decide_eq_false (fun q => h (by cases q; rfl))]
      rw [ei x z]
      by_cases hxz : x = z
      · rw [decide_eq_true hxz] at *
        refine iteT ?_
        refine ⟨_, rfl, a, C, dx, _, _, rfl, ha, T.cl, T.nY, ptF_y _ _, _, rfl, b, C, dy, _, _, rfl, hb, T.cl, T.nY, ptF_y _ _, rfl, ?_⟩
        rw [ei y t]
        simpa using k
      · rw [decide_eq_false hxz] at *
        refine iteF ?_
        simpa using k
    · refine ⟨_, rfl, _, _, _, _, false, rfl, .own C, .base (.tup hb), T.kTC, false, rfl, ?_⟩
      refine iteF ?_
      exact k
def spPairM (C : Addr) : Sp := fun vs H Q _ => ∃ (v : V) (x y : Int), vs = [v] ∧ IsP C v x y H ∧ ∀ q H', H q = none → Same H H' → H' q = some (.tup [.int x, .int y]) → Q (.ref q) H'
theorem scPairM : FnScope ["self"] ["self"] (defScope sPairM) := ⟨rfl, rfl, rfl, by decide +kernel, rfl, by decide +kernel, by decide +kernel⟩
theorem ok_pairM {f : Addr} {fd : FuncData} (F : Fun K "pair" "Point.pair" sPairM f fd) (T : Txt K mg C) : FnOk P w K mg base CX0 1 f fd ["self"] (spPairM C) := by
  refine F.ok scPairM (fun vs H Q E h => ?_) (fun cdv A outer s H vs Q E hr h => ?_)
  · obtain ⟨v, x, y, rfl, _⟩ := h
    rfl
  · obtain ⟨v, x, y, rfl, ⟨a, dx, rfl, ha⟩, k⟩ := h
    refine ⟨_, pss_one (ps_ret (pe_tup (pa_cons (pe_fld (pv 0) rfl) (pa_cons (pe_fld (pv 0) rfl) pa_nil)))), ?_⟩
    refine ⟨_, rfl, a, C, dx, _, _, rfl, ha, T.cl, T.nX, ptF_x _ _, _, rfl, a, C, dx, _, _, rfl, ha, T.cl, T.nY, ptF_y _ _, (by show 2 ≤ sizeLine; decide), fun t nt => ?_⟩
    exact k t _ nt (same_new nt) upd_same
end
end Fo

set_option Elab.async false
set_option linter.all false
set_option maxRecDepth 100000
set_option maxHeartbeats 2000000
namespace Fo
open PySem L2
/-! ### filledonce.points where it raises -/
def Scal : V → Prop
  | .non => True
  | .bl _ => True
  | .int _ => True
  | .str _ => True
  | _ => False
def wholeV : V → Bool
  | .int _ => true
  | _ => false
/-- what is no point: one of some kinds -/
inductive Bad (H : Hp) : V → Prop
  | non : Bad H .non
  | bl (b : Bool) : Bad H (.bl b)
  | int (i : Int) : Bad H (.int i)
  | str (z : Str) : Bad H (.str z)
  | lst {a : Addr} {xs : List V} (h : H a = some (.lst xs)) : Bad H (.ref a)
  | tup {a : Addr} {xs : List V} (h : H a = some (.tup xs)) (n : xs.length ≠ 2) : Bad H (.ref a)
  | two {a : Addr} {u v : V} (h : H a = some (.tup [u, v])) (su : Scal u) (sv : Scal v) (n : (wholeV u && wholeV v) = false) : Bad H (.ref a)
theorem Bad.ex {H H' : Hp} {v : V} (e : Same H H') (h : Bad H v) : Bad H' v := by
  cases h with
  | non => exact .non
  | bl b => exact .bl b
  | int i => exact .int i
  | str z => exact .str z
  | lst h => exact .lst (e _ _ h)
  | tup h n => exact .tup (e _ _ h) n
  | two h su sv n => exact .two (e _ _ h) su sv n
/-- what the top says besides of Point and of the error InvalidPoint at CI -/
structure TxtX (P : Program) (K : PySem.W.Frag) (mg : Str → Option Value) (C CI fII : Addr) : Prop where
  kNC : PySem.W.kitOne K (.type "NoneType") (.ref C) = some false
  kBC : PySem.W.kitOne K (.type "bool") (.ref C) = some false
  kIC : PySem.W.kitOne K (.type "int") (.ref C) = some false
  kSC : PySem.W.kitOne K (.type "str") (.ref C) = some false
  kLC : PySem.W.kitOne K (.type "list") (.ref C) = some false
  xI : FoX_thing.XTxt P K mg CI fII
  gI : mg "InvalidPoint" = some (.ref CI)
def XD (v : V) : HO := .xd [((Str.ofString "thing"), v)]
def spWholeX : Sp := fun vs H Q _ => ∃ v : V, vs = [v] ∧ Scal v ∧ Q (.bl (wholeV v)) H
def spIsPointX (C : Addr) : Sp := fun vs H Q _ => ∃ v : V, vs = [v] ∧ Bad H v ∧ Q (.bl false) H
def spInitX (C CI : Addr) : Sp := fun vs H _ E => ∃ (p : Addr) (u v : V), vs = [.ref p, u, v] ∧ Scal u ∧ Scal v ∧ (wholeV u && wholeV v) = false ∧ ∀ t d H', Same H H' → H' t = some (.tup [u, v]) → H' d = some (XD (.ref t)) → E (.ref CI) (some d) H'
def spBadX (CI : Addr) : Sp := fun vs H _ E => ∃ v : V, vs = [v] ∧ Bad H v ∧ ∀ d H', Same H H' → H' d = some (XD v) → E (.ref CI) (some d) H'
section
variable {P : Program} {w : World} {K : PySem.W.Frag} {mg : Str → Option Value} {base : Heap} {C fW fI fP fA fO CI fII : Addr} {fdW fdI fdP fdA fdO : FuncData}
theorem ok_wholeX {f : Addr} {fd : FuncData} (F : Fun K "is_whole" "is_whole" sWhole f fd) (T : Txt K mg C) : FnOk P w K mg base CX0 1 f fd ["value"] spWholeX := by
  refine F.ok scWhole (fun vs H Q E h => ?_) (fun cdv A outer s H vs Q E hr h => ?_)
  · obtain ⟨v, rfl, _⟩ := h
    rfl
  · obtain ⟨v, rfl, sv, k⟩ := h
    refine ⟨_, pss_one (ps_ret (pe_and (pe_callB call_isi (by rfl) T.isi (by decide +kernel) (pa_cons (pv 0) (pa_cons (pe_bltn (v := .ty "int") (by rfl) T.int (by decide +kernel) rfl) pa_nil)))
      (pe_one (pe_not (pe_callB call_isi (by rfl) T.isi (by decide +kernel) (pa_cons (pv 0) (pa_cons (pe_bltn (v := .ty "bool") (by rfl) T.bool (by decide +kernel) rfl) pa_nil))))))), ?_⟩
    cases v with
    | non =>
      refine ⟨_, rfl, _, _, _, _, false, rfl, .ty _, .base .non, kit_ty (by decide +kernel), false, rfl, ?_⟩
      exact iteF k
    | bl b =>
      refine ⟨_, rfl, _, _, _, _, true, rfl, .ty _, .base (.bl b), kit_ty (by decide +kernel), true, rfl, ?_⟩
      refine iteT ?_
      exact ⟨_, rfl, _, _, _, _, true, rfl, .ty _, .base (.bl b), kit_ty (by decide +kernel), true, rfl, k⟩
    | int i =>
      refine ⟨_, rfl, _, _, _, _, true, rfl, .ty _, .base (.int i), kit_ty (by decide +kernel), true, rfl, ?_⟩
      refine iteT ?_
      exact ⟨_, rfl, _, _, _, _, false, rfl, .ty _, .base (.int i), kit_ty (by decide +kernel), false, rfl, k⟩
    | str z =>
      refine ⟨_, rfl, _, _, _, _, false, rfl, .ty _, .base (.str z), kit_ty (by decide +kernel), false, rfl, ?_⟩
      exact iteF k
    | _ => exact sv.elim
theorem ok_is_pointX (D : Defs K mg C fW fI fP fA fO fdW fdI fdP fdA fdO) (TX : TxtX P K mg C CI fII) : FnOk P w K mg base CX0 2 fP fdP ["thing"] (spIsPointX C) := by
  have GW : FnOk P w K mg base CX0 1 fW fdW ["value"] spWholeX := ok_wholeX D.FW D.T
  have T := D.T
  refine D.FP.ok scIsPoint (fun vs H Q E h => ?_) (fun cdv A outer s H vs Q E hr h => ?_)
  · obtain ⟨v, rfl, _⟩ := h
    rfl
  · obtain ⟨v, rfl, bad, k⟩ := h
    refine ⟨_, pss_cons (ps_if (pt_val (pe_callB call_isi (by rfl) T.isi (by decide +kernel) (pa_cons (pv 0) (pa_cons (pe_glob (v := .ref C) rfl T.mgC rfl) pa_nil)))) (pss_one (ps_ret pe_bl)) pss_nil)
      (pss_one (ps_ret (pe_and (pe_callB call_isi (by rfl) T.isi (by decide +kernel) (pa_cons (pv 0) (pa_cons (pe_bltn (v := .ty "tuple") (by rfl) T.tuple (by decide +kernel) rfl) pa_nil)))
        (pe_and (pe_cmpR op_eq (pe_callB call_len_seq (by rfl) T.len PySem.boot_len (pa_cons (pv 0) pa_nil)) pe_int (nomark _))
        (pe_and (pe_call GW hr rfl D.mW D.FW.kp D.bW .nil pass0 (pa_cons (pe_ix ix_tup (pv 0) pe_int (fun _ _ => rfl)) pa_nil))
        (pe_one (pe_call GW hr rfl D.mW D.FW.kp D.bW .nil pass0 (pa_cons (pe_ix ix_tup (pv 0) pe_int (fun _ _ => rfl)) pa_nil)))))))), ?_⟩
    cases bad with
    | non =>
      refine ⟨_, rfl, _, _, _, _, false, rfl, .own C, .base .non, TX.kNC, false, rfl, ?_⟩
      refine iteF ?_
      refine ⟨_, rfl, _, _, _, _, false, rfl, .ty _, .base .non, kit_ty (by decide +kernel), false, rfl, ?_⟩
      exact iteF k
    | bl b =>
      refine ⟨_, rfl, _, _, _, _, false, rfl, .own C, .base (.bl b), TX.kBC, false, rfl, ?_⟩
      refine iteF ?_
      refine ⟨_, rfl, _, _, _, _, false, rfl, .ty _, .base (.bl b), kit_ty (by decide +kernel), false, rfl, ?_⟩
      exact iteF k
    | int i =>
      refine ⟨_, rfl, _, _, _, _, false, rfl, .own C, .base (.int i), TX.kIC, false, rfl, ?_⟩
      refine iteF ?_
      refine ⟨_, rfl, _, _, _, _, false, rfl, .ty _, .base (.int i), kit_ty (by decide +kernel), false, rfl, ?_⟩
      exact iteF k
    | str z =>
      refine ⟨_, rfl, _, _, _, _, false, rfl, .own C, .base (.str z), TX.kSC, false, rfl, ?_⟩
      refine iteF ?_
      refine ⟨_, rfl, _, _, _, _, false, rfl, .ty _, .base (.str z), kit_ty (by decide +kernel), false, rfl, ?_⟩
      exact iteF k
    | lst h =>
      refine ⟨_, rfl, _, _, _, _, false, rfl, .own C, .base (.lst h), TX.kLC, false, rfl, ?_⟩
      refine iteF ?_
      refine ⟨_, rfl, _, _, _, _, false, rfl, .ty _, .base (.lst h), kit_ty (by decide +kernel), false, rfl, ?_⟩
      exact iteF k
    | @tup a xs h n =>
      refine ⟨_, rfl, _, _, _, _, false, rfl, .own C, .base (.tup h), T.kTC, false, rfl, ?_⟩
      refine iteF ?_
      refine ⟨_, rfl, _, _, _, _, true, rfl, .ty _, .base (.tup h), kit_ty (by decide +kernel), true, rfl, ?_⟩
      refine iteT ?_
      refine ⟨_, rfl, a, _, rfl, .inr (SqT.of h), rfl, _, rfl, ?_⟩
      have e : decide (V.int (xs.length : Int) = V.int 2) = false := decide_eq_false (fun q => n (by injection q with q; omega))
      rw [e]
      exact iteF k
    | @two a u v h su sv n =>
      refine ⟨_, rfl, _, _, _, _, false, rfl, .own C, .base (.tup h), T.kTC, false, rfl, ?_⟩
      refine iteF ?_
      refine ⟨_, rfl, _, _, _, _, true, rfl, .ty _, .base (.tup h), kit_ty (by decide +kernel), true, rfl, ?_⟩
      refine iteT ?_
      refine ⟨_, rfl, a, _, rfl, .inr (SqT.of h), rfl, true, rfl, ?_⟩
      refine iteT ?_
      refine ⟨_, rfl, a, _, _, _, rfl, rfl, SqT.of h, atI_nat (j := 0) rfl, u, rfl, su, _, rfl, ?_⟩
      cases hw : wholeV u with
      | false => exact iteF k
      | true =>
        rw [hw, Bool.true_and] at n
        refine iteT ?_
        refine ⟨_, rfl, a, _, _, _, rfl, rfl, SqT.of h, atI_nat (j := 1) rfl, v, rfl, sv, ?_⟩
        rw [n]
        exact k
/-- Point(u, v) of two that are not both integers -/
theorem ok_initX (D : Defs K mg C fW fI fP fA fO fdW fdI fdP fdA fdO) (TX : TxtX P K mg C CI fII) : FnOk P w K mg base (L2.CX P w) 3 fI fdI ["self", "x", "y"] (spInitX C CI) := by
  have GW : FnOk P w K mg base CX0 1 fW fdW ["value"] spWholeX := ok_wholeX D.FW D.T
  refine D.FI.okX scInit (fun vs H Q E h => ?_) (fun cdv A outer s H vs Q E hr h => ?_)
  · obtain ⟨p, u, v, rfl, _⟩ := h
    rfl
  · obtain ⟨p, u, v, rfl, su, sv, n, k⟩ := h
    have hr1 : Room 1 _ := hr.mono (by decide)
    refine ⟨_, pss_cons (ps_if (PW.pt (pw_or (pt_not (pt_val (pe_call GW hr1 rfl D.mW D.FW.kp D.bW .nil pass0 (pa_cons (pv 1) pa_nil)))) (pw_or1 (pt_not (pt_val (pe_call GW hr1 rfl D.mW D.FW.kp D.bW .nil pass0 (pa_cons (pv 2) pa_nil)))))))
        (pss_one (ps_raise_thing (W := fun cls d _ H => E cls d H) rfl TX.xI TX.gI hr (takes_of rfl rfl rfl rfl) (pa_cons (pe_tup (pa_cons (pv 1) (pa_cons (pv 2) pa_nil))) pa_nil))) pss_nil)
      (pss_cons ps_never (pss_one ps_never)), ?_⟩
    have fin : ∀ (t : Addr), H t = none → ∀ d, (upd H t (.tup [u, v])) d = none → E (.ref CI) (some d) (upd (upd H t (.tup [u, v])) d (XD (.ref t))) := fun t nt d nd => by
      refine k t d _ ((same_new nt).trans (same_new nd)) ?_ upd_same
      exact same_new nd _ _ upd_same
    refine ⟨_, rfl, u, rfl, su, _, rfl, ?_⟩
    cases hw : wholeV u with
    | false =>
      refine iteT ?_
      refine iteT ?_
      exact ⟨_, rfl, _, rfl, (by show 2 ≤ sizeLine; decide), fun t nt => ⟨_, rfl, fun d nd => fin t nt d nd⟩⟩
    | true =>
      rw [hw, Bool.true_and] at n
      refine iteF ?_
      refine ⟨_, rfl, v, rfl, sv, _, rfl, ?_⟩
      rw [n]
      refine iteT ?_
      exact ⟨_, rfl, _, rfl, (by show 2 ≤ sizeLine; decide), fun t nt => ⟨_, rfl, fun d nd => fin t nt d nd⟩⟩
theorem ok_as_pointX (D : Defs K mg C fW fI fP fA fO fdW fdI fdP fdA fdO) (TX : TxtX P K mg C CI fII) : FnOk P w K mg base (L2.CX P w) 3 fA fdA ["thing"] (spBadX CI) := by
  have GP : FnOk P w K mg base CX0 2 fP fdP ["thing"] (spIsPointX C) := ok_is_pointX D TX
  refine D.FA.okX scAsPoint (fun vs H Q E h => ?_) (fun cdv A outer s H vs Q E hr h => ?_)
  · obtain ⟨v, rfl, _⟩ := h
    rfl
  · obtain ⟨v, rfl, bad, k⟩ := h
    refine ⟨_, pss_cons (ps_if (pt_not (pt_val (pe_call GP hr rfl D.mP D.FP.kp D.bP .nil pass0 (pa_cons (pv 0) pa_nil))))
        (pss_one (ps_raise_thing (W := fun cls d _ H => E cls d H) rfl TX.xI TX.gI hr (takes_of rfl rfl rfl rfl) (pa_cons (pv 0) pa_nil))) pss_nil)
      (pss_cons ps_never (pss_one ps_never)), ?_⟩
    refine ⟨_, rfl, v, rfl, bad, false, rfl, ?_⟩
    refine iteT ?_
    exact ⟨_, rfl, _, rfl, fun d nd => k d _ (same_new nd) upd_same⟩
end
end Fo

set_option Elab.async false
set_option linter.all false
set_option maxRecDepth 100000
set_option maxHeartbeats 2000000
namespace Fo
open PySem L2
/-! ### the law's own helpers: the pool and its draws -/
abbrev sHand : Stmt := top 16
abbrev sDraw : Stmt := top 17
/-- what stands but at p stands -/
def But (p : Addr) (H H' : Hp) : Prop := ∀ b o, b ≠ p → H b = some o → H' b = some o
theorem But.refl (p : Addr) (H : Hp) : But p H H := fun _ _ _ h => h
theorem But.trans {p : Addr} {H H1 H2 : Hp} (a : But p H H1) (b : But p H1 H2) : But p H H2 := fun c o n h => b c o n (a c o n h)
theorem But.upd {p : Addr} {H : Hp} {o : HO} : But p H (upd H p o) := fun b u n h => by
  rw [upd_ne n]
  exact h
theorem But.of {p : Addr} {H H' : Hp} (e : Same H H') : But p H H' := fun b o _ h => e b o h
/-- from a heap that does not know p -/
theorem But.same {p : Addr} {H0 H H' : Hp} (h0 : H0 p = none) (e : Same H0 H) (b : But p H H') : Same H0 H' := fun c o h => b c o (ne_of_none h h0) (e c o h)
def PoolAt (p : Addr) (H : Hp) : Prop := ∃ i j : Int, H p = some (.lst [.int i, .int j]) ∧ 0 ≤ i ∧ 0 ≤ j ∧ j < 2147483647
theorem PoolAt.ex {p : Addr} {H H' : Hp} (e : Same H H') (h : PoolAt p H) : PoolAt p H' := by
  obtain ⟨i, j, h, r⟩ := h
  exact ⟨i, j, e _ _ h, r⟩
def spHand (K : PySem.W.Frag) : Sp := fun vs H Q _ => ∃ (a : Addr) (ns : List Int) (k : Int), vs = [.ref a, .int k] ∧ SqL K H a (ns.map V.int) ∧ ns.length ≤ 63 ∧ 0 ≤ k ∧ k ≤ 100 ∧
  ∀ p H', H p = none → Same H H' → PoolAt p H' → Q (.ref p) H'
def spDraw : Sp := fun vs H Q _ => ∃ (p : Addr) (m : Int), vs = [.ref p, .int m] ∧ PoolAt p H ∧ 0 < m ∧ m < 1073741824 ∧
  ∀ r H', 0 ≤ r → r < m → But p H H' → PoolAt p H' → Q (.int r) H'
structure TxtL (mg : Str → Option Value) : Prop where
  int : mg "int" = none
  range : mg "range" = none
  max : mg "max" = none
  min : mg "min" = none
  len : mg "len" = none
theorem head_int {ns : List Int} {lo hi : Option Int} : ∃ c : Int, atI (cutV (ns.map V.int) lo hi ++ [V.int 0]) 0 = some (V.int c) := by
  have e : cutV (ns.map V.int) lo hi = ((ns.drop (HT.sIx (ns.map V.int).length 0 lo)).take (HT.sIx (ns.map V.int).length (ns.map V.int).length hi - HT.sIx (ns.map V.int).length 0 lo)).map V.int := by
    unfold cutV
    rw [← List.map_drop, ← List.map_take]
  rw [e]
  cases (ns.drop (HT.sIx (ns.map V.int).length 0 lo)).take (HT.sIx (ns.map V.int).length (ns.map V.int).length hi - HT.sIx (ns.map V.int).length 0 lo) with
  | nil => exact ⟨0, atI_nat (j := 0) rfl⟩
  | cons c r => exact ⟨c, atI_nat (j := 0) rfl⟩
section
variable {P : Program} {w : World} {K : PySem.W.Frag} {mg : Str → Option Value} {base : Heap}
theorem scHand : FnScope ["script", "k", "cell", "seed"] ["script", "k"] (defScope sHand) := ⟨rfl, rfl, rfl, by decide +kernel, rfl, by decide +kernel, by decide +kernel⟩
theorem ok_hand {f : Addr} {fd : FuncData} (F : Fun K "_law_hand" "_law_hand" sHand f fd) (T : TxtL mg) : FnOk P w K mg base CX0 1 f fd ["script", "k"] (spHand K) := by
  refine F.ok scHand (fun vs H Q E h => ?_) (fun cdv A outer s H vs Q E hr h => ?_)
  · obtain ⟨a, ns, k, rfl, _⟩ := h
    rfl
  · obtain ⟨a, ns, k, rfl, hS, hl, k0, k1, q⟩ := h
    refine ⟨_, pss_cons (ps_set (i := 2) scHand.nd rfl (Or.inl rfl) (pe_ix ix_list (pe_op op_cat (pe_slice sl_list (pv 0) (po_some (pv 1)) (po_some (pe_op op_add (pv 1) pe_int))) (pe_lst (pa_cons pe_int pa_nil))) pe_int (fun _ _ => rfl)))
      (pss_cons (ps_set (i := 3) scHand.nd rfl (Or.inl rfl) (pe_op op_mod (pe_op op_mul (pe_op op_add (pe_op op_add (pe_op op_mod (pe_callTy call_int1 (by rfl) T.int (by decide +kernel) (pa_cons (pv 2) pa_nil)) pe_int) (pe_op op_mul pe_int (pv 1))) pe_int) pe_int) pe_int))
      (pss_one (ps_ret (pe_lst (pa_cons (pe_op op_mul (pe_callTy call_int1 (by rfl) T.int (by decide +kernel) (pa_cons (pe_cmpR op_ge (pv 2) (pe_op op_pow pe_int pe_int) (nomark _)) pa_nil)) (pv 2)) (pa_cons (pv 3) pa_nil)))))), ?_⟩
    obtain ⟨c, hc⟩ := head_int (ns := ns) (lo := some k) (hi := some (k + 1))
    -- cell
    refine ⟨_, rfl, _, rfl, _, rfl, _, rfl, _, _, rfl, rfl, _, rfl, a, _, rfl, hS, fun p1 n1 => ?_⟩
    refine ⟨(by show 1 ≤ sizeLine; decide), fun p2 n2 => ?_⟩
    have ne12 : p1 ≠ p2 := fun q => by rw [← q, upd_same] at n2; cases n2
    refine ⟨p1, p2, _, _, rfl, rfl, (by rw [upd_ne ne12, upd_same]), upd_same, ?_, fun p3 n3 => ?_⟩
    · have := cutV_length (ns.map V.int) (some k) (some (k + 1))
      rw [List.length_map] at this
      show _ + 1 ≤ sizeLine
      exact Nat.le_trans (Nat.add_le_add_right this 1) (Nat.le_trans (Nat.add_le_add_right hl 1) (by decide))
    refine ⟨p3, _, _, _, rfl, rfl, SqL.of upd_same, hc, ?_⟩
    have e1 : Same H (upd H p1 (.lst (cutV (ns.map V.int) (some k) (some (k + 1))))) := same_new n1
    have e2 := e1.trans (same_new (o := .lst [V.int 0]) n2)
    have e3 := e2.trans (same_new (o := .lst (cutV (ns.map V.int) (some k) (some (k + 1)) ++ [V.int 0])) n3)
    -- seed
    refine ⟨_, rfl, .inl ⟨_, rfl, ?_⟩⟩
    refine ⟨_, _, rfl, rfl, (by show (0 : Int) < 2147483647; decide), _, rfl, _, _, rfl, rfl, .inl ⟨by decide, by decide⟩, _, _, rfl, rfl, _, _, rfl, rfl, _, _, rfl, rfl, .inr ⟨by decide, by decide⟩, _, _, rfl, rfl, (by show (0 : Int) < 2147483629; decide), ?_⟩
    -- the list
    refine ⟨_, rfl, _, _, rfl, rfl, ⟨by decide, by decide, by decide⟩, _, _, rfl, rfl, .inr ⟨_, rfl, ?_⟩⟩
    refine ⟨_, rfl, _, _, rfl, rfl, .inl ?_, _, rfl, (by show 2 ≤ sizeLine; decide), fun p4 n4 => ?_⟩
    · split <;> exact ⟨by decide, by decide⟩
    · refine q p4 _ (Same.free e3 n4) (e3.trans (same_new n4)) ⟨_, _, upd_same, ?_, ?_, ?_⟩
      · by_cases hb : (10 : Int) ^ (18 : Int).toNat ≤ c
        · have h0 : (0 : Int) ≤ (10 : Int) ^ (18 : Int).toNat := by decide
          rw [decide_eq_true hb]
          show 0 ≤ 1 * c
          omega
        · rw [decide_eq_false hb]
          show 0 ≤ 0 * c
          omega
      · exact Int.emod_nonneg _ (by decide)
      · exact Int.lt_trans (Int.emod_lt_of_pos _ (by decide)) (by decide)
theorem scDraw : FnScope ["pool", "many", "found"] ["pool", "many"] (defScope sDraw) := ⟨rfl, rfl, rfl, by decide +kernel, rfl, by decide +kernel, by decide +kernel⟩
theorem ok_draw {f : Addr} {fd : FuncData} (F : Fun K "_law_draw" "_law_draw" sDraw f fd) (T : TxtL mg) : FnOk P w K mg base CX0 1 f fd ["pool", "many"] spDraw := by
  refine F.ok scDraw (fun vs H Q E h => ?_) (fun cdv A outer s H vs Q E hr h => ?_)
  · obtain ⟨p, m, rfl, _⟩ := h
    rfl
  · obtain ⟨p, m, rfl, ⟨i, j, hp, i0, j0, j1⟩, m0, m1, q⟩ := h
    refine ⟨_, pss_cons (ps_if (pt_cmpR op_gt (pe_ix ix_list (pv 0) pe_int (fun _ _ => rfl)) pe_int (nomark _))
        (pss_cons (ps_set (i := 2) scDraw.nd rfl (Or.inl rfl) (pe_op op_mod (pe_callTy call_int1 (by rfl) T.int (by decide +kernel) (pa_cons (pe_ix ix_list (pv 0) pe_int (fun _ _ => rfl)) pa_nil)) (pv 1)))
        (pss_cons (ps_asg (pe_op op_fdiv (pe_ix ix_list (pv 0) pe_int (fun _ _ => rfl)) (pv 1)) (pg_sub (pv 0) pe_int set_list))
        (pss_one (ps_ret (pv 2))))) pss_nil)
      (pss_cons (ps_asg (pe_op op_mod (pe_callTy call_int1 (by rfl) T.int (by decide +kernel) (pa_cons (pe_op op_add (pe_op op_mul (pe_ix ix_list (pv 0) pe_int (fun _ _ => rfl)) pe_int) pe_int) pa_nil)) pe_int) (pg_sub (pv 0) pe_int set_list))
      (pss_one (ps_ret (pe_op op_mod (pe_op op_fdiv (pe_op op_mod (pe_callTy call_int1 (by rfl) T.int (by decide +kernel) (pa_cons (pe_op op_mul (pe_ix ix_list (pv 0) pe_int (fun _ _ => rfl)) (pe_ix ix_list (pv 0) pe_int (fun _ _ => rfl))) pa_nil)) pe_int) pe_int) (pv 1))))), ?_⟩
    refine ⟨_, rfl, p, _, _, _, rfl, rfl, SqL.of hp, atI_nat (j := 0) rfl, _, _, rfl, rfl, _, rfl, ?_⟩
    refine ite2 (fun hi => ?_) (fun hi => ?_)
    · refine ⟨_, rfl, p, _, _, _, rfl, rfl, SqL.of hp, atI_nat (j := 0) rfl, .inl ⟨_, rfl, ?_⟩⟩
      refine ⟨_, rfl, _, _, rfl, rfl, m0, ?_⟩
      refine ⟨_, rfl, p, _, _, _, rfl, rfl, SqL.of hp, atI_nat (j := 0) rfl, _, rfl, _, _, rfl, rfl, ⟨m0, m1⟩, ?_⟩
      refine ⟨_, rfl, p, _, _, 0, rfl, rfl, hp, rfl, ?_⟩
      refine ⟨_, rfl, ?_⟩
      refine q _ _ (Int.emod_nonneg _ (by omega)) (Int.emod_lt_of_pos _ m0) But.upd ⟨_, _, upd_same, Int.ediv_nonneg i0 (by omega), j0, j1⟩
    · refine ⟨_, rfl, p, _, _, _, rfl, rfl, SqL.of hp, atI_nat (j := 1) rfl, _, _, rfl, rfl, .inr ⟨by decide, by decide⟩, _, _, rfl, rfl, .inl ⟨_, rfl, ?_⟩⟩
      refine ⟨_, _, rfl, rfl, (by show (0 : Int) < 2147483647; decide), ?_⟩
      refine ⟨_, rfl, p, _, _, 1, rfl, rfl, hp, rfl, ?_⟩
      have a0 : (0 : Int) ≤ (j * 48271 + 11) % 2147483647 := Int.emod_nonneg _ (by decide)
      have a1 : (j * 48271 + 11) % 2147483647 < (2147483647 : Int) := Int.emod_lt_of_pos _ (by decide)
      refine ⟨_, rfl, p, _, _, _, rfl, rfl, SqL.of upd_same, atI_nat (j := 1) rfl, _, rfl, p, _, _, _, rfl, rfl, SqL.of upd_same, atI_nat (j := 1) rfl, _, _, rfl, rfl, .inl ⟨by omega, by omega⟩, .inl ⟨_, rfl, ?_⟩⟩
      refine ⟨_, _, rfl, rfl, (by show (0 : Int) < 2147483629; decide), _, _, rfl, rfl, ⟨by decide, by decide⟩, _, rfl, _, _, rfl, rfl, m0, ?_⟩
      exact q _ _ (Int.emod_nonneg _ (by omega)) (Int.emod_lt_of_pos _ m0) But.upd ⟨_, _, upd_same, i0, a0, a1⟩
end
end Fo

set_option Elab.async false
set_option linter.all false
set_option maxRecDepth 100000
set_option maxHeartbeats 2000000
namespace Fo
open PySem L2
abbrev sPair : Stmt := top 18
def spPair : Sp := fun vs H Q _ => ∃ (p : Addr) (n : Int), vs = [.ref p, .int n] ∧ PoolAt p H ∧ 0 < n ∧ n < 1000 ∧
  ∀ q x y H', But p H H' → PoolAt p H' → H' q = some (.tup [.int x, .int y]) → -n ≤ x → x ≤ n → -n ≤ y → y ≤ n → Q (.ref q) H'
section
variable {P : Program} {w : World} {K : PySem.W.Frag} {mg : Str → Option Value} {base : Heap}
theorem scPair : FnScope ["pool", "size_here"] ["pool", "size_here"] (defScope sPair) := ⟨rfl, rfl, rfl, by decide +kernel, rfl, by decide +kernel, by decide +kernel⟩
theorem ok_pair {f fD : Addr} {fd fdD : FuncData} (F : Fun K "_law_pair" "_law_pair" sPair f fd) (T : TxtL mg) (FD : Fun K "_law_draw" "_law_draw" sDraw fD fdD) (bD : Binds K fdD ["pool", "many"] []) (mD : mg "_law_draw" = some (.ref fD)) :
    FnOk P w K mg base CX0 2 f fd ["pool", "size_here"] spPair := by
  have GD : FnOk P w K mg base CX0 1 fD fdD ["pool", "many"] spDraw := ok_draw FD T
  refine F.ok scPair (fun vs H Q E h => ?_) (fun cdv A outer s H vs Q E hr h => ?_)
  · obtain ⟨p, n, rfl, _⟩ := h
    rfl
  · obtain ⟨p, n, rfl, hp, n0, n1, q⟩ := h
    refine ⟨_, pss_one (ps_ret (pe_tup (pa_cons (pe_op op_sub (pe_call GD hr rfl mD FD.kp bD .nil pass0 (pa_cons (pv 0) (pa_cons (pe_op op_add (pe_op op_mul pe_int (pv 1)) pe_int) pa_nil))) (pv 1))
      (pa_cons (pe_op op_sub (pe_call GD hr rfl mD FD.kp bD .nil pass0 (pa_cons (pv 0) (pa_cons (pe_op op_add (pe_op op_mul pe_int (pv 1)) pe_int) pa_nil))) (pv 1)) pa_nil)))), ?_⟩
    refine ⟨_, rfl, _, rfl, _, _, rfl, rfl, .inl ⟨by decide, by decide⟩, _, _, rfl, rfl, p, _, rfl, hp, by omega, by omega, fun r1 H1 r10 r11 b1 p1 => ?_⟩
    refine ⟨_, rfl, _, _, rfl, rfl, ?_⟩
    refine ⟨_, rfl, _, rfl, _, _, rfl, rfl, .inl ⟨by decide, by decide⟩, _, _, rfl, rfl, p, _, rfl, p1, by omega, by omega, fun r2 H2 r20 r21 b2 p2 => ?_⟩
    refine ⟨_, rfl, _, _, rfl, rfl, (by show 2 ≤ sizeLine; decide), fun t ht => ?_⟩
    exact q t _ _ _ ((b1.trans b2).trans (But.of (same_new ht))) (p2.ex (same_new ht)) upd_same (by omega) (by omega) (by omega) (by omega)
end
end Fo

set_option Elab.async false
set_option linter.all false
set_option maxRecDepth 100000
set_option maxHeartbeats 2000000
namespace Fo
open PySem L2
/-! ### what raises, and the law's own door to it -/
theorem SqT.ex {K : PySem.W.Frag} {H H' : Hp} {a : Addr} {xs : List V} (e : Same H H') (h : SqT K H a xs) : SqT K H' a xs := by
  rcases h with (h | ⟨o, h⟩) | h
  · exact .inl (.inl (e _ _ h))
  · exact .inl (.inr ⟨o, e _ _ h⟩)
  · exact .inr h
mutual
theorem Dp.ex {K : PySem.W.Frag} {H H' : Hp} (e : Same H H') : ∀ (d : PyData) (v : V), Dp K H v d → Dp K H' v d
  | .none, _, h => by
    cases h
    exact .non
  | .bool b, _, h => by
    cases h
    exact .bl b
  | .int i, _, h => by
    cases h
    exact .int i
  | .str x, _, h => by
    cases h
    exact .str x
  | .list ds, _, h => by
    cases h with
    | lst hs ha => exact .lst (e.seq hs) (DpAll.ex e ds _ ha)
  | .tuple ds, _, h => by
    cases h with
    | tup hs ha => exact .tup (SqT.ex e hs) (DpAll.ex e ds _ ha)
  | .dict _, _, h => by cases h
theorem DpAll.ex {K : PySem.W.Frag} {H H' : Hp} (e : Same H H') : ∀ (ds : List PyData) (vs : List V), DpAll K H vs ds → DpAll K H' vs ds
  | [], _, h => by
    cases h
    exact .nil
  | d :: ds, _, h => by
    cases h with
    | cons h1 h2 => exact .cons (Dp.ex e d _ h1) (DpAll.ex e ds _ h2)
end
structure ShowsOk (d : PyData) : Prop where
  s : d.showable = true
  nd : d.hasDict = false
  dp : d.depth ≤ 60
  z : d.shown.length ≤ sizeLine
/-- what a call lets out is taken, whatever the slots -/
def EW (W : WX) (n : Nat) : XK := fun cls d H => ∀ σ : L2.St, σ.length = n → W cls d σ H
theorem passesW {X : Cx} {W : WX} {n : Nat} (tk : Takes X W) (hn : X.N.length = n) : Passes (L2.CX X.prog X.w) X (EW W n) := fun _ σ _ _ e s' I c => tk e s' (XE.of_call I (fun _ _ _ h => h σ (I.len.trans hn)) c)
theorem ix_tupK {X : Cx} {K : PySem.W.Frag} (h : X.K = K) : IxR X (rIxT K) := by
  subst h
  exact ix_tup
theorem int_eqT {i j : Int} (h : i = j) : decide (V.int i = V.int j) = true := decide_eq_true (by rw [h])
theorem int_eqF {i j : Int} (h : i ≠ j) : decide (V.int i = V.int j) = false := decide_eq_false (fun q => h (by injection q))
end Fo

set_option Elab.async false
set_option linter.all false
set_option maxRecDepth 100000
set_option maxHeartbeats 2000000
namespace Fo
open PySem L2
/-! ### lists of pairs -/
/-- a list of pairs -/
inductive TL (H : Hp) : List V → List (Int × Int) → Prop
  | nil : TL H [] []
  | cons {q : Addr} {p : Int × Int} {xs : List V} {ps : List (Int × Int)} : H q = some (.tup [.int p.1, .int p.2]) → TL H xs ps → TL H (.ref q :: xs) (p :: ps)
theorem TL.ex {H H' : Hp} {xs : List V} {ps : List (Int × Int)} (e : Same H H') (h : TL H xs ps) : TL H' xs ps := by
  induction h with
  | nil => exact .nil
  | cons h _ ih => exact .cons (e _ _ h) ih
theorem TL.but {H H' : Hp} {D : Addr} {ys : List V} {xs : List V} {ps : List (Int × Int)} (hD : H D = some (.lst ys)) (b : But D H H') (h : TL H xs ps) : TL H' xs ps := by
  induction h with
  | nil => exact .nil
  | cons h _ ih => exact .cons (b _ _ (ne_of h hD (by intro z; cases z)) h) ih
theorem TL.length {H : Hp} {xs : List V} {ps : List (Int × Int)} (h : TL H xs ps) : xs.length = ps.length := by
  induction h with
  | nil => rfl
  | cons h _ ih => rw [List.length_cons, List.length_cons, ih]
theorem TL.append {H : Hp} {xs ys : List V} {ps qs : List (Int × Int)} (h : TL H xs ps) (h2 : TL H ys qs) : TL H (xs ++ ys) (ps ++ qs) := by
  induction h with
  | nil => exact h2
  | cons h _ ih => exact .cons h ih
theorem TL.take {H : Hp} {xs : List V} {ps : List (Int × Int)} (h : TL H xs ps) : ∀ n, TL H (xs.take n) (ps.take n) := by
  induction h with
  | nil =>
    intro n
    rw [List.take_nil, List.take_nil]
    exact .nil
  | cons h _ ih =>
    intro n
    cases n with
    | zero => exact .nil
    | succ n => exact .cons h (ih n)
theorem TL.drop {H : Hp} {xs : List V} {ps : List (Int × Int)} (h : TL H xs ps) : ∀ n, TL H (xs.drop n) (ps.drop n) := by
  induction h with
  | nil =>
    intro n
    rw [List.drop_nil, List.drop_nil]
    exact .nil
  | cons h t ih =>
    intro n
    cases n with
    | zero => exact .cons h t
    | succ n => exact ih n
theorem TL.get {H : Hp} {xs : List V} {ps : List (Int × Int)} (h : TL H xs ps) : ∀ {i : Nat} {x : V}, xs[i]? = some x → ∃ q p, x = V.ref q ∧ ps[i]? = some p ∧ H q = some (.tup [.int p.1, .int p.2]) := by
  induction h with
  | nil =>
    intro i x hx
    simp at hx
  | @cons q p _ _ h _ ih =>
    intro i x hx
    cases i with
    | zero =>
      simp at hx
      exact ⟨q, p, hx.symm, rfl, h⟩
    | succ i =>
      simp at hx
      obtain ⟨q2, p2, e1, e2, e3⟩ := ih hx
      exact ⟨q2, p2, e1, by simpa using e2, e3⟩
def pD (p : Int × Int) : PyData := .tuple [.int p.1, .int p.2]
theorem TL.dp {K : PySem.W.Frag} {H : Hp} {xs : List V} {ps : List (Int × Int)} (h : TL H xs ps) : DpAll K H xs (ps.map pD) := by
  induction h with
  | nil => exact .nil
  | cons h _ ih => exact .cons (.tup (SqT.of h) (.cons (.int _) (.cons (.int _) .nil))) ih
theorem pDs_lay : ∀ ps : List (Int × Int), PyData.canLayAll0 (ps.map pD) = true
  | [] => by simp [PyData.canLayAll0]
  | p :: ps => by simp [PyData.canLayAll0, PyData.canLay0, pD, pDs_lay ps]
theorem pDs_depth : ∀ ps : List (Int × Int), PyData.depthAll (ps.map pD) ≤ 2
  | [] => by simp [PyData.depthAll]
  | p :: ps => by
    have h1 := pDs_depth ps
    have h2 : (pD p).depth ≤ 2 := by simp [pD, PyData.depth, PyData.depthAll]
    simp only [List.map_cons, PyData.depthAll]
    omega
theorem pDs_shaped (ps : List (Int × Int)) : SeqAt.shaped (.list (ps.map pD)) = true := by
  have h1 := pDs_depth ps
  have h2 : PyData.depth (.list (ps.map pD)) ≤ 64 := by
    simp only [PyData.depth]
    omega
  show (PyData.canLay0 (.list (ps.map pD)) && decide (PyData.depth (.list (ps.map pD)) ≤ 64)) = true
  rw [Bool.and_eq_true]
  exact ⟨by simp only [PyData.canLay0]; exact pDs_lay ps, decide_eq_true h2⟩
theorem pDs_refl (ps : List (Int × Int)) : PyData.eqv (.list (ps.map pD)) (.list (ps.map pD)) = true := SeqAt.eqv_refl _ (by simp only [PyData.canLay0]; exact pDs_lay ps)
theorem TL.of_get {H : Hp} : ∀ {xs : List V} {ps : List (Int × Int)}, xs.length = ps.length → (∀ (i : Nat) x, xs[i]? = some x → ∃ q p, x = V.ref q ∧ ps[i]? = some p ∧ H q = some (.tup [.int p.1, .int p.2])) → TL H xs ps
  | [], [], _, _ => .nil
  | [], p :: ps, h, _ => by simp at h
  | x :: xs, [], h, _ => by simp at h
  | x :: xs, p :: ps, h, hg => by
    obtain ⟨q, p', rfl, hp, hq⟩ := hg 0 x rfl
    cases hp
    exact .cons hq (TL.of_get (by simpa using h) fun i y hy => hg (i + 1) y (by simpa using hy))
theorem tup_ne {pl q : Addr} {H : Hp} {xs : List V} (hp : PoolAt pl H) (h : H q = some (.tup xs)) : q ≠ pl := by
  obtain ⟨i, j, hp, _⟩ := hp
  exact ne_of h hp (by intro z; cases z)
theorem pair_no (x y : Int) : (ptF x y).lookup ("pair" : Str) = none := ptF_no _ _ (by decide +kernel) (by decide +kernel)
end Fo

set_option Elab.async false
set_option linter.all false
set_option maxRecDepth 100000
set_option maxHeartbeats 2000000
namespace Fo
open PySem L2
/-! ### filledonce.triangles -/
abbrev sTInit : Stmt := inClass (top 14) 0
abbrev sCorners : Stmt := inClass (top 14) 1
abbrev sEdges : Stmt := inClass (top 14) 2
abbrev sArea : Stmt := inClass (top 14) 3
abbrev sMoved : Stmt := inClass (top 14) 4
abbrev sTIn : Stmt := inClass (top 14) 5
abbrev sTEq : Stmt := inClass (top 14) 6
abbrev I2 := Int × Int
def sd (a b p : I2) : Int := sideI a.1 a.2 b.1 b.2 p.1 p.2
def Sm2 (n : Nat) (p : I2) : Prop := Sm n p.1 ∧ Sm n p.2
theorem Sm2.up {n m : Nat} {p : I2} (h : Sm2 n p) (l : n ≤ m) : Sm2 m p := ⟨h.1.up l, h.2.up l⟩
def tipF (l : Addr) : List (Str × V) := putF "tips" (.ref l) []
theorem tipF_tips (l : Addr) : (tipF l).lookup ("tips" : Str) = some (.ref l) := by
  unfold tipF
  rw [lookup_putF, if_pos rfl]
theorem tipF_no (l : Addr) {m : Str} (h : ¬ m = "tips") : (tipF l).lookup m = none := by
  unfold tipF
  rw [lookup_putF, if_neg h]
  rfl
/-- three Points -/
def Three (C : Addr) (v1 v2 v3 : V) (a b c : I2) (H : Hp) : Prop := IsP C v1 a.1 a.2 H ∧ IsP C v2 b.1 b.2 H ∧ IsP C v3 c.1 c.2 H
theorem Three.ex {C : Addr} {v1 v2 v3 : V} {a b c : I2} {H H' : Hp} (e : Same H H') (h : Three C v1 v2 v3 a b c H) : Three C v1 v2 v3 a b c H' := ⟨h.1.ex e, h.2.1.ex e, h.2.2.ex e⟩
/-- a Triangle with these corners -/
def IsT (C CT : Addr) (v : V) (a b c : I2) (H : Hp) : Prop := ∃ t dx l v1 v2 v3, v = .ref t ∧ H t = some (.ins CT dx (tipF l)) ∧ H l = some (.lst [v1, v2, v3]) ∧ Three C v1 v2 v3 a b c H
theorem IsT.ex {C CT : Addr} {v : V} {a b c : I2} {H H' : Hp} (e : Same H H') (h : IsT C CT v a b c H) : IsT C CT v a b c H' := by
  obtain ⟨t, dx, l, v1, v2, v3, rfl, h1, h2, h3⟩ := h
  exact ⟨t, dx, l, v1, v2, v3, rfl, e _ _ h1, e _ _ h2, h3.ex e⟩
def IsPt2 (C : Addr) (v : V) (p : I2) (H : Hp) : Prop := IsPt C v p.1 p.2 H
theorem IsPt2.ex {C : Addr} {v : V} {p : I2} {H H' : Hp} (e : Same H H') (h : IsPt2 C v p H) : IsPt2 C v p H' := IsPt.ex e h
/-- b and c, turned against the clock -/
def onB (a b c : I2) : I2 := if 0 < sd a b c then b else c
def onC (a b c : I2) : I2 := if 0 < sd a b c then c else b
def spTInit (C CT : Addr) : Sp := fun vs H Q _ => ∃ (n : Nat) (p dx : Addr) (u v w : V) (a b c : I2), vs = [.ref p, u, v, w] ∧ H p = some (.ins CT dx []) ∧ IsPt2 C u a H ∧ IsPt2 C v b H ∧ IsPt2 C w c H ∧ n < 1000 ∧ Sm2 n a ∧ Sm2 n b ∧ Sm2 n c ∧ sd a b c ≠ 0 ∧
  ∀ l v1 v2 v3 H', But p H H' → H' p = some (.ins CT dx (tipF l)) → H' l = some (.lst [v1, v2, v3]) → Three C v1 v2 v3 a (onB a b c) (onC a b c) H' → Q .non H'
def spCorners (C CT : Addr) : Sp := fun vs H Q _ => ∃ (t : V) (a b c : I2), vs = [t] ∧ IsT C CT t a b c H ∧ ∀ l v1 v2 v3 H', H l = none → Same H H' → H' l = some (.lst [v1, v2, v3]) → Three C v1 v2 v3 a b c H' → Q (.ref l) H'
/-- the list of the edges -/
def IsE (C : Addr) (v : V) (a b c : I2) (H : Hp) : Prop := ∃ l e1 e2 e3 v1 v2 v3, v = .ref l ∧ H l = some (.lst [.ref e1, .ref e2, .ref e3]) ∧ H e1 = some (.tup [v1, v2]) ∧ H e2 = some (.tup [v2, v3]) ∧ H e3 = some (.tup [v3, v1]) ∧ Three C v1 v2 v3 a b c H
theorem IsE.ex {C : Addr} {v : V} {a b c : I2} {H H' : Hp} (e : Same H H') (h : IsE C v a b c H) : IsE C v a b c H' := by
  obtain ⟨l, e1, e2, e3, v1, v2, v3, rfl, h1, h2, h3, h4, h5⟩ := h
  exact ⟨l, e1, e2, e3, v1, v2, v3, rfl, e _ _ h1, e _ _ h2, e _ _ h3, e _ _ h4, h5.ex e⟩
def spEdges (C CT : Addr) : Sp := fun vs H Q _ => ∃ (t : V) (a b c : I2), vs = [t] ∧ IsT C CT t a b c H ∧ ∀ v H', Same H H' → IsE C v a b c H' → Q v H'
def spArea (C CT : Addr) : Sp := fun vs H Q _ => ∃ (n : Nat) (t : V) (a b c : I2), vs = [t] ∧ IsT C CT t a b c H ∧ n < 1000 ∧ Sm2 n a ∧ Sm2 n b ∧ Sm2 n c ∧ ∀ H', Same H H' → Q (.int (sd a b c)) H'
def mv (p q : I2) : I2 := (p.1 + q.1, p.2 + q.2)
def spMoved (C CT : Addr) : Sp := fun vs H Q _ => ∃ (n : Nat) (t u : V) (a b c by' : I2), vs = [t, u] ∧ IsT C CT t a b c H ∧ IsPt2 C u by' H ∧ n < 999 ∧ Sm2 n a ∧ Sm2 n b ∧ Sm2 n c ∧ Sm2 n by' ∧ 0 < sd a b c ∧ ∀ v H', Same H H' → IsT C CT v (mv a by') (mv b by') (mv c by') H' → Q v H'
def inT (a b c p : I2) : Bool := decide (0 ≤ sd a b p) && (decide (0 ≤ sd b c p) && decide (0 ≤ sd c a p))
def spTIn (C CT : Addr) : Sp := fun vs H Q _ => ∃ (t u : V), vs = [t, u] ∧ ((∃ (n : Nat) (a b c p : I2), IsT C CT t a b c H ∧ IsPt2 C u p H ∧ n < 1000 ∧ Sm2 n a ∧ Sm2 n b ∧ Sm2 n c ∧ Sm2 n p ∧ ∀ H', Same H H' → Q (.bl (inT a b c p)) H') ∨ (Bad H u ∧ Q (.bl false) H))
/-- the edge (a, b) is one of d e f -/
def hasE (a b d e f : I2) : Bool := (decide (d = a) && decide (e = b)) || ((decide (e = a) && decide (f = b)) || (decide (f = a) && decide (d = b)))
def eqT (a b c d e f : I2) : Bool := hasE a b d e f && hasE b c d e f
def spTEq (C CT : Addr) : Sp := fun vs H Q _ => ∃ (t u : V) (a b c : I2), vs = [t, u] ∧ IsT C CT t a b c H ∧ ((∃ d e f : I2, IsT C CT u d e f H ∧ ∀ H', Same H H' → Q (.bl (eqT a b c d e f)) H') ∨ ((∃ q xs, u = .ref q ∧ H q = some (.lst xs)) ∧ Q (.bl false) H))
/-- what the top has written of Triangle -/
structure TxtT (K : PySem.W.Frag) (mg : Str → Option Value) (CT : Addr) : Prop where
  cl : Cls K CT
  nT : NoAttr K CT "tips"
  mgT : mg "Triangle" = some (.ref CT)
  list : mg "list" = none
  all : mg "all" = none
  ha : PySem.W.findIn K (.ref CT) "__class__" = some (some (.builtin "object.__class__"))
  hm : PySem.W.mroIn K CT (.type "object") = some true
  kLT : PySem.W.kitOne K (.type "list") (.ref CT) = some false
  kTT : PySem.W.kitOne K (.ref CT) (.ref CT) = some true
/-- the defs of Triangle -/
structure TDefs (K : PySem.W.Frag) (mg : Str → Option Value) (C CT fS fTI fCo fEd fAr fEq fAd pAr : Addr) (fdS fdTI fdCo fdEd fdAr fdEq fdAd : FuncData) : Prop where
  TT : TxtT K mg CT
  FS : Fun K "side" "side" sSide fS fdS
  bS : Binds K fdS ["a", "b", "point"] []
  mS : mg "side" = some (.ref fS)
  MT : Mk K CT fTI
  FTI : Fun K "__init__" "Triangle.__init__" sTInit fTI fdTI
  bTI : Binds K fdTI ["self", "a", "b", "c"] []
  FCo : Fun K "corners" "Triangle.corners" sCorners fCo fdCo
  bCo : Binds K fdCo ["self"] []
  mCo : Meth K CT "corners" fCo
  FEd : Fun K "edges" "Triangle.edges" sEdges fEd fdEd
  bEd : Binds K fdEd ["self"] []
  mEd : Meth K CT "edges" fEd
  FAr : Fun K "area2" "Triangle.area2" sArea fAr fdAr
  bAr : Binds K fdAr ["self"] []
  pAr : PropOf K CT "area2" pAr fAr
  FEq : Fun K "__eq__" "Point.__eq__" sEq fEq fdEq
  bEq : Binds K fdEq ["self", "other"] []
  oEq : PySem.W.findIn K (.ref C) "__eq__" = some (some (.ref fEq))
  iEq : PySem.W.isFn K (.ref fEq) = true
  FAd : Fun K "__add__" "Point.__add__" sAdd fAd fdAd
  bAd : Binds K fdAd ["self", "other"] []
  oAd : OwnOp K C .Add fAd
section
variable {P : Program} {w : World} {K : PySem.W.Frag} {mg : Str → Option Value} {base : Heap}
variable {C fW fI fP fA fO CT fS fTI fCo fEd fAr fEq fAd pAr : Addr} {fdW fdI fdP fdA fdO fdS fdTI fdCo fdEd fdAr fdEq fdAd : FuncData}
theorem scTInit : FnScope ["self", "a", "b", "c", "first", "second", "third", "turn"] ["self", "a", "b", "c"] (defScope sTInit) := ⟨rfl, rfl, rfl, by decide +kernel, rfl, by decide +kernel, by decide +kernel⟩
theorem TDefs.GTI (d : TDefs K mg C CT fS fTI fCo fEd fAr fEq fAd pAr fdS fdTI fdCo fdEd fdAr fdEq fdAd) (D : Defs K mg C fW fI fP fA fO fdW fdI fdP fdA fdO) : FnOk P w K mg base CX0 8 fTI fdTI ["self", "a", "b", "c"] (spTInit C CT) := by
  have GA : FnOk P w K mg base CX0 4 fA fdA ["thing"] (spAsPoint C) := D.GA
  have GS : FnOk P w K mg base CX0 7 fS fdS ["a", "b", "point"] (spSide C) := ok_side d.FS D
  refine d.FTI.ok scTInit (fun vs H Q E h => ?_) (fun cdv A outer s H vs Q E hr h => ?_)
  · obtain ⟨n, p, dx, u, v, w, a, b, c, rfl, _⟩ := h
    rfl
  · obtain ⟨n, p, dx, u, v, w, a, b, c, rfl, hp, hu, hv, hw, n1, sa, sb, sc, ne, k⟩ := h
    have hr4 : Room 4 _ := hr.mono (by decide)
    refine ⟨_, pss_cons (ps_set (i := 4) scTInit.nd rfl (Or.inl rfl) (pe_call GA hr4 rfl D.mA D.FA.kp D.bA .nil pass0 (pa_cons (pv 1) pa_nil)))
      (pss_cons (ps_set (i := 5) scTInit.nd rfl (Or.inl rfl) (pe_call GA hr4 rfl D.mA D.FA.kp D.bA .nil pass0 (pa_cons (pv 2) pa_nil)))
      (pss_cons (ps_set (i := 6) scTInit.nd rfl (Or.inl rfl) (pe_call GA hr4 rfl D.mA D.FA.kp D.bA .nil pass0 (pa_cons (pv 3) pa_nil)))
      (pss_cons (ps_set (i := 7) scTInit.nd rfl (Or.inl rfl) (pe_call GS (hr.mono (by decide)) rfl d.mS d.FS.kp d.bS .nil pass0 (pa_cons (pv 4) (pa_cons (pv 5) (pa_cons (pv 6) pa_nil)))))
      (pss_cons (ps_if (pt_cmpR op_eq (pv 7) pe_int (nomark _)) (pss_one ps_never) pss_nil)
      (pss_one (ps_if (pt_cmpR op_gt (pv 7) pe_int (nomark _)) (pss_one (ps_fld (pv 0) (pe_lst (pa_cons (pv 4) (pa_cons (pv 5) (pa_cons (pv 6) pa_nil)))) rfl)) (pss_one (ps_fld (pv 0) (pe_lst (pa_cons (pv 4) (pa_cons (pv 6) (pa_cons (pv 5) pa_nil)))) rfl)))))))), ?_⟩
    refine ⟨_, rfl, u, a.1, a.2, rfl, hu, fun w1 H1 e1 h1 _ => ?_⟩
    refine ⟨_, rfl, v, b.1, b.2, rfl, hv.ex e1, fun w2 H2 e2 h2 _ => ?_⟩
    refine ⟨_, rfl, w, c.1, c.2, rfl, (hw.ex e1).ex e2, fun w3 H3 e3 h3 _ => ?_⟩
    have t1 := (h1.ex e2).ex e3
    have t2 := h2.ex e3
    refine ⟨_, rfl, _, rfl, _, rfl, n, w1, w2, w3, a.1, a.2, b.1, b.2, c.1, c.2, rfl, t1.pt, t2.pt, h3.pt, n1, sa.1, sa.2, sb.1, sb.2, sc.1, sc.2, fun H4 e4 => ?_⟩
    have e := ((e1.trans e2).trans e3).trans e4
    refine ⟨_, rfl, rfl, _, rfl, ?_⟩
    have nz : decide (V.int (sideI a.1 a.2 b.1 b.2 c.1 c.2) = V.int 0) = false := decide_eq_false (fun q => ne (by injection q))
    rw [nz]
    refine iteF ?_
    refine ⟨_, rfl, _, _, rfl, rfl, _, rfl, ?_⟩
    have fin : ∀ (l : Addr) (y z : V) (qb qc : I2), H4 l = none → IsP C y qb.1 qb.2 H4 → IsP C z qc.1 qc.2 H4 → qb = onB a b c → qc = onC a b c → Q .non (upd (upd H4 l (.lst [w1, y, z])) p (.ins CT dx (tipF l))) := fun l y z qb qc nl hy hz e5 e6 => by
      subst e5 e6
      have g := same_new (o := .lst [w1, y, z]) nl
      have pl : (upd H4 l (.lst [w1, y, z])) p = some (.ins CT dx []) := g _ _ (e _ _ hp)
      have np : l ≠ p := fun q => by
        rw [q, e _ _ hp] at nl
        cases nl
      have one : ∀ (v : V) (x y' : Int), IsP C v x y' H4 → IsP C v x y' (upd (upd H4 l (.lst [w1, y, z])) p (.ins CT dx (tipF l))) := fun v x y' hv => by
        obtain ⟨q, dq, rfl, hq⟩ := hv
        refine ⟨q, dq, rfl, ?_⟩
        have nq : q ≠ p := fun z => by
          rw [z, e _ _ hp] at hq
          injection hq with hq
          injection hq with _ _ h3
          have h4 := congrArg (List.lookup ("x" : Str)) h3
          rw [ptF_x] at h4
          cases h4
        rw [upd_ne nq]
        exact g _ _ hq
      refine k l w1 y z _ ((But.of (e.trans g)).trans But.upd) upd_same ?_ ⟨one _ _ _ ((t1.ex e4)), one _ _ _ hy, one _ _ _ hz⟩
      rw [upd_ne np]
      exact upd_same
    have hb4 := t2.ex e4
    have hc4 := h3.ex e4
    by_cases hs : 0 < sd a b c
    · have hd : decide ((0 : Int) < sideI a.1 a.2 b.1 b.2 c.1 c.2) = true := decide_eq_true hs
      rw [hd]
      refine iteT ?_
      refine ⟨_, rfl, _, rfl, _, rfl, (by show 3 ≤ sizeLine; decide), fun l nl => ?_⟩
      refine ⟨_, rfl, p, CT, dx, [], rfl, same_new nl _ _ (e _ _ hp), d.TT.cl, d.TT.nT, (by show 0 < 1000; decide), ?_⟩
      exact fin l w2 w3 b c nl hb4 hc4 (by unfold onB; rw [if_pos hs]) (by unfold onC; rw [if_pos hs])
    · have hd : decide ((0 : Int) < sideI a.1 a.2 b.1 b.2 c.1 c.2) = false := decide_eq_false hs
      rw [hd]
      refine iteF ?_
      refine ⟨_, rfl, _, rfl, _, rfl, (by show 3 ≤ sizeLine; decide), fun l nl => ?_⟩
      refine ⟨_, rfl, p, CT, dx, [], rfl, same_new nl _ _ (e _ _ hp), d.TT.cl, d.TT.nT, (by show 0 < 1000; decide), ?_⟩
      exact fin l w3 w2 c b nl hc4 hb4 (by unfold onB; rw [if_neg hs]) (by unfold onC; rw [if_neg hs])
end
end Fo

set_option Elab.async false
set_option linter.all false
set_option maxRecDepth 100000
set_option maxHeartbeats 2000000
namespace Fo
open PySem L2
/-! ### the methods of Triangle -/
section
variable {P : Program} {w : World} {K : PySem.W.Frag} {mg : Str → Option Value} {base : Heap}
variable {C fW fI fP fA fO CT fS fTI fCo fEd fAr fEq fAd pAr : Addr} {fdW fdI fdP fdA fdO fdS fdTI fdCo fdEd fdAr fdEq fdAd : FuncData}
/-- Triangle(u, v, w): spTInit's reading at a new instance -/
theorem make_tri {H : Hp} {u v w : V} {a b c : I2} {n : Nat} {Q : VK} {E : XK} (hu : IsPt2 C u a H) (hv : IsPt2 C v b H) (hw : IsPt2 C w c H) (n1 : n < 1000) (sa : Sm2 n a) (sb : Sm2 n b) (sc : Sm2 n c) (ne : sd a b c ≠ 0)
    (k : ∀ t H', Same H H' → IsT C CT t a (onB a b c) (onC a b c) H' → Q t H') :
    ∀ x dx, H x = none → H dx = none → dx ≠ x → spTInit C CT (.ref x :: ([u, v, w] ++ [])) (upd (upd H dx (.own x)) x (.ins CT dx [])) (fun v H2 => v = .non ∧ Q (.ref x) H2) E := fun x dx nx nd ndx => by
  have g1 : Same H (upd (upd H dx (.own x)) x (.ins CT dx [])) := (same_new nd).trans (same_new (by rw [upd_ne ndx.symm]; exact nx))
  refine ⟨n, x, dx, u, v, w, a, b, c, rfl, upd_same, hu.ex g1, hv.ex g1, hw.ex g1, n1, sa, sb, sc, ne, fun l v1 v2 v3 H' bt hx hl ht => ⟨rfl, ?_⟩⟩
  exact k _ H' (bt.same nx g1) ⟨x, dx, l, v1, v2, v3, rfl, hx, hl, ht⟩
theorem scCorners : FnScope ["self"] ["self"] (defScope sCorners) := ⟨rfl, rfl, rfl, by decide +kernel, rfl, by decide +kernel, by decide +kernel⟩
theorem TDefs.GCo (d : TDefs K mg C CT fS fTI fCo fEd fAr fEq fAd pAr fdS fdTI fdCo fdEd fdAr fdEq fdAd) : FnOk P w K mg base CX0 1 fCo fdCo ["self"] (spCorners C CT) := by
  refine d.FCo.ok scCorners (fun vs H Q E h => ?_) (fun cdv A outer s H vs Q E hr h => ?_)
  · obtain ⟨t, a, b, c, rfl, _⟩ := h
    rfl
  · obtain ⟨t, a, b, c, rfl, ⟨q, dx, l, v1, v2, v3, rfl, h1, h2, h3⟩, k⟩ := h
    refine ⟨_, pss_one (ps_ret (pe_callTy call_list_of (by rfl) d.TT.list (by decide +kernel) (pa_cons (pe_fld (pv 0) rfl) pa_nil))), ?_⟩
    refine ⟨_, rfl, q, CT, dx, _, _, rfl, h1, d.TT.cl, d.TT.nT, tipF_tips _, l, _, rfl, .inl (SqL.of h2), fun m nm => ?_⟩
    exact k m v1 v2 v3 _ nm (same_new nm) upd_same (h3.ex (same_new nm))
theorem scEdges : FnScope ["self"] ["self"] (defScope sEdges) := ⟨rfl, rfl, rfl, by decide +kernel, rfl, by decide +kernel, by decide +kernel⟩
theorem TDefs.GEd (d : TDefs K mg C CT fS fTI fCo fEd fAr fEq fAd pAr fdS fdTI fdCo fdEd fdAr fdEq fdAd) : FnOk P w K mg base CX0 1 fEd fdEd ["self"] (spEdges C CT) := by
  refine d.FEd.ok scEdges (fun vs H Q E h => ?_) (fun cdv A outer s H vs Q E hr h => ?_)
  · obtain ⟨t, a, b, c, rfl, _⟩ := h
    rfl
  · obtain ⟨t, a, b, c, rfl, ⟨q, dx, l, v1, v2, v3, rfl, h1, h2, h3⟩, k⟩ := h
    refine ⟨_, pss_one (ps_ret (pe_lst (pa_cons (pe_tup (pa_cons (pe_ix ix_list (pe_fld (pv 0) rfl) pe_int (fun _ _ => rfl)) (pa_cons (pe_ix ix_list (pe_fld (pv 0) rfl) pe_int (fun _ _ => rfl)) pa_nil)))
      (pa_cons (pe_tup (pa_cons (pe_ix ix_list (pe_fld (pv 0) rfl) pe_int (fun _ _ => rfl)) (pa_cons (pe_ix ix_list (pe_fld (pv 0) rfl) pe_int (fun _ _ => rfl)) pa_nil)))
      (pa_cons (pe_tup (pa_cons (pe_ix ix_list (pe_fld (pv 0) rfl) pe_int (fun _ _ => rfl)) (pa_cons (pe_ix ix_list (pe_fld (pv 0) rfl) pe_int (fun _ _ => rfl)) pa_nil))) pa_nil))))), ?_⟩
    have Z : 2 ≤ sizeLine := by decide
    have T := d.TT
    refine ⟨_, rfl, q, CT, dx, _, _, rfl, h1, T.cl, T.nT, tipF_tips _, l, _, _, _, rfl, rfl, SqL.of h2, atI_nat (j := 0) rfl, ?_⟩
    refine ⟨_, rfl, q, CT, dx, _, _, rfl, h1, T.cl, T.nT, tipF_tips _, l, _, _, _, rfl, rfl, SqL.of h2, atI_nat (j := 1) rfl, Z, fun t1 n1 => ?_⟩
    have g1 := same_new (o := .tup [v1, v2]) n1
    have a1 := g1 _ _ h1
    have a2 := g1 _ _ h2
    refine ⟨_, rfl, q, CT, dx, _, _, rfl, a1, T.cl, T.nT, tipF_tips _, l, _, _, _, rfl, rfl, SqL.of a2, atI_nat (j := 1) rfl, ?_⟩
    refine ⟨_, rfl, q, CT, dx, _, _, rfl, a1, T.cl, T.nT, tipF_tips _, l, _, _, _, rfl, rfl, SqL.of a2, atI_nat (j := 2) rfl, Z, fun t2 n2 => ?_⟩
    have g2 := same_new (o := .tup [v2, v3]) n2
    have b1 := g2 _ _ a1
    have b2 := g2 _ _ a2
    refine ⟨_, rfl, q, CT, dx, _, _, rfl, b1, T.cl, T.nT, tipF_tips _, l, _, _, _, rfl, rfl, SqL.of b2, atI_nat (j := 2) rfl, ?_⟩
    refine ⟨_, rfl, q, CT, dx, _, _, rfl, b1, T.cl, T.nT, tipF_tips _, l, _, _, _, rfl, rfl, SqL.of b2, atI_nat (j := 0) rfl, Z, fun t3 n3 => ?_⟩
    have g3 := same_new (o := .tup [v3, v1]) n3
    refine ⟨(by show 3 ≤ sizeLine; decide), fun m nm => ?_⟩
    have g4 := same_new (o := .lst [.ref t1, .ref t2, .ref t3]) nm
    have g := ((g1.trans g2).trans g3).trans g4
    exact k _ _ g ⟨m, t1, t2, t3, v1, v2, v3, rfl, upd_same, (g2.trans (g3.trans g4)) _ _ upd_same, (g3.trans g4) _ _ upd_same, g4 _ _ upd_same, h3.ex g⟩
theorem scArea : FnScope ["self"] ["self"] (defScope sArea) := ⟨rfl, rfl, rfl, by decide +kernel, rfl, by decide +kernel, by decide +kernel⟩
theorem TDefs.GAr (d : TDefs K mg C CT fS fTI fCo fEd fAr fEq fAd pAr fdS fdTI fdCo fdEd fdAr fdEq fdAd) (D : Defs K mg C fW fI fP fA fO fdW fdI fdP fdA fdO) : FnOk P w K mg base CX0 8 fAr fdAr ["self"] (spArea C CT) := by
  have GS : FnOk P w K mg base CX0 7 fS fdS ["a", "b", "point"] (spSide C) := ok_side d.FS D
  refine d.FAr.ok scArea (fun vs H Q E h => ?_) (fun cdv A outer s H vs Q E hr h => ?_)
  · obtain ⟨n, t, a, b, c, rfl, _⟩ := h
    rfl
  · obtain ⟨n, t, a, b, c, rfl, ⟨q, dx, l, v1, v2, v3, rfl, h1, h2, h3⟩, n1, sa, sb, sc, k⟩ := h
    refine ⟨_, pss_one (ps_ret (pe_call GS hr rfl d.mS d.FS.kp d.bS .nil pass0 (pa_cons (pe_ix ix_list (pe_fld (pv 0) rfl) pe_int (fun _ _ => rfl)) (pa_cons (pe_ix ix_list (pe_fld (pv 0) rfl) pe_int (fun _ _ => rfl)) (pa_cons (pe_ix ix_list (pe_fld (pv 0) rfl) pe_int (fun _ _ => rfl)) pa_nil))))), ?_⟩
    have T := d.TT
    refine ⟨_, rfl, q, CT, dx, _, _, rfl, h1, T.cl, T.nT, tipF_tips _, l, _, _, _, rfl, rfl, SqL.of h2, atI_nat (j := 0) rfl, ?_⟩
    refine ⟨_, rfl, q, CT, dx, _, _, rfl, h1, T.cl, T.nT, tipF_tips _, l, _, _, _, rfl, rfl, SqL.of h2, atI_nat (j := 1) rfl, ?_⟩
    refine ⟨_, rfl, q, CT, dx, _, _, rfl, h1, T.cl, T.nT, tipF_tips _, l, _, _, _, rfl, rfl, SqL.of h2, atI_nat (j := 2) rfl, ?_⟩
    exact ⟨n, v1, v2, v3, a.1, a.2, b.1, b.2, c.1, c.2, rfl, h3.1.pt, h3.2.1.pt, h3.2.2.pt, n1, sa.1, sa.2, sb.1, sb.2, sc.1, sc.2, k⟩
theorem sd_mv (a b c q : I2) : sd (mv a q) (mv b q) (mv c q) = sd a b c := by
  unfold sd sideI mv
  grind
theorem Sm.add {n : Nat} {x y : Int} (hx : Sm n x) (hy : Sm n y) : Sm (n + 1) (x + y) := by
  unfold Sm at *
  rw [Nat.pow_succ]
  omega
theorem Sm2.mv {n : Nat} {p q : I2} (hp : Sm2 n p) (hq : Sm2 n q) : Sm2 (n + 1) (mv p q) := ⟨hp.1.add hq.1, hp.2.add hq.2⟩
theorem scMoved : FnScope ["self", "by", "step"] ["self", "by"] (defScope sMoved) := ⟨rfl, rfl, rfl, by decide +kernel, rfl, by decide +kernel, by decide +kernel⟩
theorem ok_moved {f : Addr} {fd : FuncData} (F : Fun K "moved" "Triangle.moved" sMoved f fd) (d : TDefs K mg C CT fS fTI fCo fEd fAr fEq fAd pAr fdS fdTI fdCo fdEd fdAr fdEq fdAd) (D : Defs K mg C fW fI fP fA fO fdW fdI fdP fdA fdO) : FnOk P w K mg base CX0 10 f fd ["self", "by"] (spMoved C CT) := by
  have GA : FnOk P w K mg base CX0 4 fA fdA ["thing"] (spAsPoint C) := D.GA
  have GAd : FnOk P w K mg base CX0 6 fAd fdAd ["self", "other"] (spBin C (· + ·)) := ok_add d.FAd D
  have GTI : FnOk P w K mg base CX0 8 fTI fdTI ["self", "a", "b", "c"] (spTInit C CT) := d.GTI D
  refine F.ok scMoved (fun vs H Q E h => ?_) (fun cdv A outer s H vs Q E hr h => ?_)
  · obtain ⟨n, t, u, a, b, c, q, rfl, _⟩ := h
    rfl
  · obtain ⟨n, t, u, a, b, c, by', rfl, ⟨q, dx, l, v1, v2, v3, rfl, h1, h2, h3⟩, hu, n1, sa, sb, sc, sy, pos, k⟩ := h
    have hr6 : Room 6 _ := hr.mono (by decide)
    refine ⟨_, pss_cons (ps_set (i := 2) scMoved.nd rfl (Or.inl rfl) (pe_call GA (hr.mono (by decide)) rfl D.mA D.FA.kp D.bA .nil pass0 (pa_cons (pv 1) pa_nil)))
      (pss_one (ps_ret (pe_make d.MT GTI hr rfl d.TT.mgT d.bTI .nil pass0
        (pa_cons (pe_op (op_own d.oAd FoOps.tup_add GAd hr6 d.bAd pass0) (pe_ix ix_list (pe_fld (pv 0) rfl) pe_int (fun _ _ => rfl)) (pv 2))
        (pa_cons (pe_op (op_own d.oAd FoOps.tup_add GAd hr6 d.bAd pass0) (pe_ix ix_list (pe_fld (pv 0) rfl) pe_int (fun _ _ => rfl)) (pv 2))
        (pa_cons (pe_op (op_own d.oAd FoOps.tup_add GAd hr6 d.bAd pass0) (pe_ix ix_list (pe_fld (pv 0) rfl) pe_int (fun _ _ => rfl)) (pv 2)) pa_nil)))))), ?_⟩
    have T := d.TT
    refine ⟨_, rfl, u, by'.1, by'.2, rfl, hu, fun w0 H0 e0 h0 _ => ?_⟩
    have p1 := e0 _ _ h1
    have p2 := e0 _ _ h2
    have t3 := h3.ex e0
    obtain ⟨q1, d1, r1, z1⟩ := id t3.1
    refine ⟨_, rfl, q, CT, dx, _, _, rfl, p1, T.cl, T.nT, tipF_tips _, l, _, _, _, rfl, rfl, SqL.of p2, atI_nat (j := 0) rfl, ?_⟩
    refine ⟨_, rfl, q1, d1, _, r1, z1, h0.pt.opnd, v1, w0, _, _, _, _, rfl, t3.1, h0.pt, fun x1 H1 e1 m1 => ?_⟩
    have t4 := t3.ex e1
    have k0 := h0.ex e1
    obtain ⟨q2, d2, r2, z2⟩ := id t4.2.1
    refine ⟨_, rfl, q, CT, dx, _, _, rfl, e1 _ _ p1, T.cl, T.nT, tipF_tips _, l, _, _, _, rfl, rfl, SqL.of (e1 _ _ p2), atI_nat (j := 1) rfl, ?_⟩
    refine ⟨_, rfl, q2, d2, _, r2, z2, k0.pt.opnd, v2, w0, _, _, _, _, rfl, t4.2.1, k0.pt, fun x2 H2 e2 m2 => ?_⟩
    have t5 := t4.ex e2
    have k1 := k0.ex e2
    obtain ⟨q3, d3, r3, z3⟩ := id t5.2.2
    refine ⟨_, rfl, q, CT, dx, _, _, rfl, e2 _ _ (e1 _ _ p1), T.cl, T.nT, tipF_tips _, l, _, _, _, rfl, rfl, SqL.of (e2 _ _ (e1 _ _ p2)), atI_nat (j := 2) rfl, ?_⟩
    refine ⟨_, rfl, q3, d3, _, r3, z3, k1.pt.opnd, v3, w0, _, _, _, _, rfl, t5.2.2, k1.pt, fun x3 H3 e3 m3 => ?_⟩
    have pos' : 0 < sd (mv a by') (mv b by') (mv c by') := by rw [sd_mv]; exact pos
    refine make_tri (n := n + 1) (a := mv a by') (b := mv b by') (c := mv c by') ((m1.ex e2).ex e3).pt (m2.ex e3).pt m3.pt (by omega) (sa.mv sy) (sb.mv sy) (sc.mv sy) (by omega) fun v H4 e4 h4 => ?_
    have e5 : onB (mv a by') (mv b by') (mv c by') = mv b by' := by unfold onB; rw [if_pos pos']
    have e6 : onC (mv a by') (mv b by') (mv c by') = mv c by' := by unfold onC; rw [if_pos pos']
    rw [e5, e6] at h4
    exact k v H4 (e0.trans (e1.trans (e2.trans (e3.trans e4)))) h4
end
end Fo

set_option Elab.async false
set_option linter.all false
set_option maxRecDepth 100000
set_option maxHeartbeats 2000000
namespace Fo
open PySem L2
/-! ### list comprehensions with any target -/
/-- [te for g in l] -/
theorem lc_all {K : PySem.W.Frag} {l D : Addr} {g : TG} {te : TE} {sl : List Nat} {σ : L2.St} {H1 : Hp} {xs : List V} {Qd : Hp → Prop} (R : Nat → V → Hp → Prop) (rex : ∀ i v H H', Same H H' → R i v H → R i v H') (rbut : ∀ i v H H' D ys, H D = some (HO.lst ys) → But D H H' → R i v H → R i v H')
    (hl : SqL K H1 l xs) (hn : xs.length ≤ 1000)
    (step : ∀ i x H', xs[i]? = some x → Same H1 H' → ∀ Q' : VK, (∀ v H'', Same H' H'' → R i v H'' → Q' v H'') → g x (wipe σ sl) H' fun σ2 H2 => wipe σ2 sl = wipe σ sl ∧ te σ2 H2 Q')
    (hd : ∀ H' vs, Same H1 H' → H' D = some (.lst vs) → vs.length = xs.length → (∀ i v, vs[i]? = some v → R i v H') → Qd H') (hD : H1 D = none) :
    ∃ W : Nat → Nat → Hp → Prop, (∃ m, W 0 m (upd H1 D (.lst []))) ∧ ∀ i m H, W i m H → ((Itl K l).stop i H ∧ Qd H) ∨
      ((Itl K l).go i H ∧ ∃ Nx : Hp → Prop, (∀ H', Nx H' → ∃ m', m' < m ∧ W (i + 1) m' H') ∧ ∀ x H', (Itl K l).yld i H x H' → g x (wipe σ sl) H' fun σ2 H2 => wipe σ2 sl = wipe σ sl ∧ tYes σ2 H2 fun b H3 =>
      if b = true then te σ2 H3 fun y H4 => ∃ acc, H4 D = some (.lst acc) ∧ acc.length < sizeLine ∧ Nx (upd H4 D (.lst (acc ++ [y]))) else Nx H3) := by
  refine lc_list (K := K) (a := l) (xs := xs) (fun i H' => Same H1 H' ∧ ∃ vs : List V, H' D = some (.lst vs) ∧ vs.length = i ∧ ∀ j v, vs[j]? = some v → R j v H') ?_ ?_ ?_ ?_
  · exact ⟨same_new hD, [], upd_same, rfl, fun j v h => by simp at h⟩
  · rintro i H' _ ⟨e, _⟩
    exact e.seq hl
  · rintro i x H' hx ⟨e, vs, hv, hlen, hp⟩
    have hi : i < xs.length := (List.getElem?_eq_some_iff.mp hx).1
    refine step i x H' hx e (fun y H4 => ∃ acc, H4 D = some (.lst acc) ∧ acc.length < sizeLine ∧ Same H1 (upd H4 D (.lst (acc ++ [y]))) ∧ ∃ vs : List V, (upd H4 D (.lst (acc ++ [y]))) D = some (.lst vs) ∧ vs.length = i + 1 ∧ ∀ j v, vs[j]? = some v → R j v (upd H4 D (.lst (acc ++ [y])))) fun v H'' e2 h2 => ?_
    have hv2 := e2 _ _ hv
    refine ⟨vs, hv2, Nat.lt_of_lt_of_le (by omega : vs.length < 1001) (by decide), (But.upd.same hD (e.trans e2)), vs ++ [v], upd_same, by rw [List.length_append, hlen]; rfl, fun j u hu => ?_⟩
    by_cases hj : j < vs.length
    · rw [List.getElem?_append_left hj] at hu
      exact rbut _ _ _ _ _ _ hv2 But.upd (rex _ _ _ _ e2 (hp j u hu))
    · have hj2 : j = vs.length := by
        have := (List.getElem?_eq_some_iff.mp hu).1
        rw [List.length_append] at this
        simp at this
        omega
      subst hj2
      rw [List.getElem?_append_right (Nat.le_refl _)] at hu
      simp at hu
      subst hu
      rw [hlen]
      exact rbut _ _ _ _ _ _ hv2 But.upd h2
  · rintro H' ⟨e, vs, hv, hlen, hp⟩
    exact hd H' vs e hv hlen hp
/-- how many of the first i are kept -/
def kept (keep : Nat → Bool) : Nat → Nat
  | 0 => 0
  | i + 1 => kept keep i + (if keep i = true then 1 else 0)
theorem kept_zero {keep : Nat → Bool} : ∀ {n : Nat}, kept keep n = 0 ↔ ∀ j, j < n → keep j = false
  | 0 => ⟨fun _ j hj => absurd hj (Nat.not_lt_zero _), fun _ => rfl⟩
  | n + 1 => by
    have ih := kept_zero (keep := keep) (n := n)
    show kept keep n + (if keep n = true then 1 else 0) = 0 ↔ _
    constructor
    · intro h j hj
      cases hk : keep n with
      | true =>
        rw [hk, if_pos rfl] at h
        omega
      | false =>
        rw [hk] at h
        by_cases q : j = n
        · rw [q]; exact hk
        · exact ih.mp (by simpa using h) j (by omega)
    · intro h
      rw [h n (Nat.lt_succ_self _), ih.mpr fun j hj => h j (by omega)]
      rfl
/-- [c for g in l if tt] -/
theorem lc_filt {K : PySem.W.Frag} {l D : Addr} {g : TG} {tt : TT} {te : TE} {sl : List Nat} {σ : L2.St} {H1 : Hp} {xs : List V} {Qd : Hp → Prop} (keep : Nat → Bool) (c : V)
    (hl : SqL K H1 l xs) (hn : xs.length ≤ 1000)
    (step : ∀ i x H', xs[i]? = some x → Same H1 H' → ∀ Nx : Hp → Prop, ∀ Q' : VK, (keep i = false → ∀ H'', Same H' H'' → Nx H'') → (keep i = true → ∀ H'', Same H' H'' → Q' c H'') → g x (wipe σ sl) H' fun σ2 H2 => wipe σ2 sl = wipe σ sl ∧ tt σ2 H2 fun b H3 => if b = true then te σ2 H3 Q' else Nx H3)
    (hd : ∀ H', Same H1 H' → H' D = some (.lst (List.replicate (kept keep xs.length) c)) → Qd H') (hD : H1 D = none) :
    ∃ W : Nat → Nat → Hp → Prop, (∃ m, W 0 m (upd H1 D (.lst []))) ∧ ∀ i m H, W i m H → ((Itl K l).stop i H ∧ Qd H) ∨
      ((Itl K l).go i H ∧ ∃ Nx : Hp → Prop, (∀ H', Nx H' → ∃ m', m' < m ∧ W (i + 1) m' H') ∧ ∀ x H', (Itl K l).yld i H x H' → g x (wipe σ sl) H' fun σ2 H2 => wipe σ2 sl = wipe σ sl ∧ tt σ2 H2 fun b H3 =>
      if b = true then te σ2 H3 fun y H4 => ∃ acc, H4 D = some (.lst acc) ∧ acc.length < sizeLine ∧ Nx (upd H4 D (.lst (acc ++ [y]))) else Nx H3) := by
  refine lc_list (K := K) (a := l) (xs := xs) (fun i H' => Same H1 H' ∧ i ≤ xs.length ∧ H' D = some (.lst (List.replicate (kept keep i) c))) ?_ ?_ ?_ ?_
  · exact ⟨same_new hD, Nat.zero_le _, upd_same⟩
  · rintro i H' _ ⟨e, _⟩
    exact e.seq hl
  · rintro i x H' hx ⟨e, hi', hv⟩
    have hi : i < xs.length := (List.getElem?_eq_some_iff.mp hx).1
    have hk : ∀ j, kept keep j ≤ j := fun j => by
      induction j with
      | zero => exact Nat.le_refl _
      | succ j ih =>
        show kept keep j + _ ≤ j + 1
        split <;> omega
    refine step i x H' hx e _ _ (fun hf H'' e2 => ?_) fun ht H'' e2 => ?_
    · refine ⟨e.trans e2, hi, ?_⟩
      show H'' D = some (.lst (List.replicate (kept keep i + (if keep i = true then 1 else 0)) c))
      rw [hf]
      exact e2 _ _ hv
    · have := hk i
      refine ⟨_, e2 _ _ hv, Nat.lt_of_lt_of_le (by rw [List.length_replicate]; omega : _ < 1001) (by decide), (But.upd.same hD (e.trans e2)), hi, ?_⟩
      rw [upd_same]
      show some (HO.lst _) = some (.lst (List.replicate (kept keep i + (if keep i = true then 1 else 0)) c))
      rw [ht, if_pos rfl, List.replicate_succ']
  · rintro H' ⟨e, _, hv⟩
    exact hd H' e hv
/-- [te for g in range(n)] -/
theorem lc_rAll {D : Addr} {lo : Int} {n : Nat} {g : TG} {te : TE} {sl : List Nat} {σ : L2.St} {H1 : Hp} {Qd : Hp → Prop} (R : Nat → V → Hp → Prop) (rex : ∀ i v H H', Same H H' → R i v H → R i v H') (rbut : ∀ i v H H' D ys, H D = some (HO.lst ys) → But D H H' → R i v H → R i v H')
    (hn : n ≤ 1000)
    (step : ∀ i H', i < n → Same H1 H' → ∀ Q' : VK, (∀ v H'', Same H' H'' → R i v H'' → Q' v H'') → g (.int (lo + i)) (wipe σ sl) H' fun σ2 H2 => wipe σ2 sl = wipe σ sl ∧ te σ2 H2 Q')
    (hd : ∀ H' vs, Same H1 H' → H' D = some (.lst vs) → vs.length = n → (∀ i v, vs[i]? = some v → R i v H') → Qd H') (hD : H1 D = none) :
    ∃ W : Nat → Nat → Hp → Prop, (∃ m, W 0 m (upd H1 D (.lst []))) ∧ ∀ i m H, W i m H → ((Itr lo n).stop i H ∧ Qd H) ∨
      ((Itr lo n).go i H ∧ ∃ Nx : Hp → Prop, (∀ H', Nx H' → ∃ m', m' < m ∧ W (i + 1) m' H') ∧ ∀ x H', (Itr lo n).yld i H x H' → g x (wipe σ sl) H' fun σ2 H2 => wipe σ2 sl = wipe σ sl ∧ tYes σ2 H2 fun b H3 =>
      if b = true then te σ2 H3 fun y H4 => ∃ acc, H4 D = some (.lst acc) ∧ acc.length < sizeLine ∧ Nx (upd H4 D (.lst (acc ++ [y]))) else Nx H3) := by
  refine lc_range (lo := lo) (n := n) (fun i H' => Same H1 H' ∧ ∃ vs : List V, H' D = some (.lst vs) ∧ vs.length = i ∧ ∀ j v, vs[j]? = some v → R j v H') ?_ ?_ ?_
  · exact ⟨same_new hD, [], upd_same, rfl, fun j v h => by simp at h⟩
  · rintro i H' hi ⟨e, vs, hv, hlen, hp⟩
    refine step i H' hi e (fun y H4 => ∃ acc, H4 D = some (.lst acc) ∧ acc.length < sizeLine ∧ Same H1 (upd H4 D (.lst (acc ++ [y]))) ∧ ∃ vs : List V, (upd H4 D (.lst (acc ++ [y]))) D = some (.lst vs) ∧ vs.length = i + 1 ∧ ∀ j v, vs[j]? = some v → R j v (upd H4 D (.lst (acc ++ [y])))) fun v H'' e2 h2 => ?_
    have hv2 := e2 _ _ hv
    refine ⟨vs, hv2, Nat.lt_of_lt_of_le (by omega : vs.length < 1001) (by decide), (But.upd.same hD (e.trans e2)), vs ++ [v], upd_same, by rw [List.length_append, hlen]; rfl, fun j u hu => ?_⟩
    by_cases hj : j < vs.length
    · rw [List.getElem?_append_left hj] at hu
      exact rbut _ _ _ _ _ _ hv2 But.upd (rex _ _ _ _ e2 (hp j u hu))
    · have hj2 : j = vs.length := by
        have := (List.getElem?_eq_some_iff.mp hu).1
        rw [List.length_append] at this
        simp at this
        omega
      subst hj2
      rw [List.getElem?_append_right (Nat.le_refl _)] at hu
      simp at hu
      subst hu
      rw [hlen]
      exact rbut _ _ _ _ _ _ hv2 But.upd h2
  · rintro H' ⟨e, vs, hv, hlen, hp⟩
    exact hd H' vs e hv hlen hp
end Fo

set_option Elab.async false
set_option linter.all false
set_option maxRecDepth 100000
set_option maxHeartbeats 2000000
namespace Fo
open PySem L2
/-! ### in and == of Triangle -/
theorem IsP.but {C D : Addr} {v : V} {x y : Int} {H H' : Hp} {ys : List V} (hD : H D = some (.lst ys)) (b : But D H H') (h : IsP C v x y H) : IsP C v x y H' := by
  obtain ⟨a, dx, rfl, h⟩ := h
  exact ⟨a, dx, rfl, b _ _ (ne_of h hD (by intro z; cases z)) h⟩
theorem two3 {e1 e2 e3 x : V} {i : Nat} (h : [e1, e2, e3][i]? = some x) : (i = 0 ∧ x = e1) ∨ (i = 1 ∧ x = e2) ∨ (i = 2 ∧ x = e3) := by
  match i, h with
  | 0, h => exact .inl ⟨rfl, (Option.some.inj h).symm⟩
  | 1, h => exact .inr (.inl ⟨rfl, (Option.some.inj h).symm⟩)
  | 2, h => exact .inr (.inr ⟨rfl, (Option.some.inj h).symm⟩)
  | n + 3, h => simp at h
theorem len3' {vs : List V} (h : vs.length = 3) : ∃ a b c, vs = [a, b, c] := by
  match vs, h with
  | [a, b, c], _ => exact ⟨a, b, c, rfl⟩
section
variable {P : Program} {w : World} {K : PySem.W.Frag} {mg : Str → Option Value} {base : Heap}
variable {C fW fI fP fA fO CT fS fTI fCo fEd fAr fEq fAd pAr CI fII : Addr} {fdW fdI fdP fdA fdO fdS fdTI fdCo fdEd fdAr fdEq fdAd : FuncData}
theorem scTIn : FnScope ["self", "x", "a", "b"] ["self", "x"] (defScope sTIn) := ⟨rfl, rfl, rfl, by decide +kernel, rfl, by decide +kernel, by decide +kernel⟩
theorem ok_tin {f : Addr} {fd : FuncData} (F : Fun K "__contains__" "Triangle.__contains__" sTIn f fd) (d : TDefs K mg C CT fS fTI fCo fEd fAr fEq fAd pAr fdS fdTI fdCo fdEd fdAr fdEq fdAd) (D : Defs K mg C fW fI fP fA fO fdW fdI fdP fdA fdO) (TX : TxtX P K mg C CI fII) :
    FnOk P w K mg base CX0 8 f fd ["self", "x"] (spTIn C CT) := by
  have GP : FnOk P w K mg base CX0 2 fP fdP ["thing"] (fun vs H Q E => spIsPoint C vs H Q E ∨ spIsPointX C vs H Q E) := D.GP.or (ok_is_pointX D TX)
  have GS : FnOk P w K mg base CX0 7 fS fdS ["a", "b", "point"] (spSide C) := ok_side d.FS D
  have GE : FnOk P w K mg base CX0 1 fEd fdEd ["self"] (spEdges C CT) := d.GEd
  have T := d.TT
  refine F.ok scTIn (fun vs H Q E h => ?_) (fun cdv A outer s H vs Q E hr h => ?_)
  · obtain ⟨t, u, rfl, _⟩ := h
    rfl
  · obtain ⟨t, u, rfl, h⟩ := h
    refine ⟨_, pss_one (ps_ret (pe_and (pe_call GP (hr.mono (by decide)) rfl D.mP D.FP.kp D.bP .nil pass0 (pa_cons (pv 1) pa_nil))
      (pe_one (pe_callB (cr_all rfl) (by rfl) T.all (by decide +kernel) (pa_cons
        (pe_lc (own := [("a", 2), ("b", 3)]) (g := gTup K 2 (gCons (gName 2) (gCons (gName 3) gNil))) (tt := tYes) rfl scTIn.nd (pi_list (pe_meth0 (pv 0) T.cl d.mEd GE (hr.mono (by decide)) d.bEd .nil pass0))
          (blkOk_by (own := [("a", 2), ("b", 3)]) (N := ["self", "x", "a", "b"]) (sc := defScope sTIn) (by decide +kernel))
          (fun _ _ _ _ _ => pg_tup rfl (pgs_cons (pg_name (i := 2) scTIn.nd rfl (Or.inl rfl)) (pgs_cons (pg_name (i := 3) scTIn.nd rfl (Or.inl rfl)) pgs_nil)))
          (fun _ _ _ _ _ => pts_nil)
          (fun _ _ _ _ _ => pe_cmpR op_ge (pe_call GS hr rfl d.mS d.FS.kp d.bS .nil pass0 (pa_cons (pv 2) (pa_cons (pv 3) (pa_cons (pv 1) pa_nil)))) pe_int (nomark _))) pa_nil))))), ?_⟩
    rcases h with ⟨n, a, b, c, p, ht, hp, n1, sa, sb, sc, sp, k⟩ | ⟨bad, k⟩
    · refine ⟨_, rfl, .inl ⟨u, p.1, p.2, rfl, hp, true, rfl, ?_⟩⟩
      refine iteT ?_
      obtain ⟨q, dx, l, v1, v2, v3, rfl, h1, _⟩ := id ht
      refine ⟨_, rfl, q, dx, _, rfl, h1, tipF_no _ (by decide +kernel), _, a, b, c, rfl, ht, fun v H1 e1 hE => ?_⟩
      obtain ⟨m, t1, t2, t3, w1, w2, w3, rfl, g0, g1, g2, g3, th⟩ := hE
      refine ⟨m, rfl, ⟨_, SqL.of g0⟩, fun D0 nD => ?_⟩
      refine lc_all (K := K) (xs := [.ref t1, .ref t2, .ref t3]) (sl := [2, 3]) (fun i v _ => v = .bl (decide (0 ≤ (if i = 0 then sd a b p else if i = 1 then sd b c p else sd c a p)))) (fun _ _ _ _ _ h => h) (fun _ _ _ _ _ _ _ _ h => h) (SqL.of g0) (by show 3 ≤ 1000; decide) ?_ ?_ nD
      · intro i x H2 hx e2 Q' k'
        have th2 := th.ex e2
        have hp2 := hp.ex (e1.trans e2)
        rcases two3 hx with ⟨rfl, rfl⟩ | ⟨rfl, rfl⟩ | ⟨rfl, rfl⟩
        · refine ⟨t1, _, rfl, SqT.of (e2 _ _ g1), rfl, _, _, rfl, _, _, rfl, rfl, rfl, ?_⟩
          refine ⟨_, rfl, _, rfl, _, rfl, n, w1, w2, u, a.1, a.2, b.1, b.2, p.1, p.2, rfl, th2.1.pt, th2.2.1.pt, hp2, n1, sa.1, sa.2, sb.1, sb.2, sp.1, sp.2, fun H3 e3 => ?_⟩
          exact ⟨_, _, rfl, rfl, k' _ _ e3 rfl⟩
        · refine ⟨t2, _, rfl, SqT.of (e2 _ _ g2), rfl, _, _, rfl, _, _, rfl, rfl, rfl, ?_⟩
          refine ⟨_, rfl, _, rfl, _, rfl, n, w2, w3, u, b.1, b.2, c.1, c.2, p.1, p.2, rfl, th2.2.1.pt, th2.2.2.pt, hp2, n1, sb.1, sb.2, sc.1, sc.2, sp.1, sp.2, fun H3 e3 => ?_⟩
          exact ⟨_, _, rfl, rfl, k' _ _ e3 rfl⟩
        · refine ⟨t3, _, rfl, SqT.of (e2 _ _ g3), rfl, _, _, rfl, _, _, rfl, rfl, rfl, ?_⟩
          refine ⟨_, rfl, _, rfl, _, rfl, n, w3, w1, u, c.1, c.2, a.1, a.2, p.1, p.2, rfl, th2.2.2.pt, th2.1.pt, hp2, n1, sc.1, sc.2, sa.1, sa.2, sp.1, sp.2, fun H3 e3 => ?_⟩
          exact ⟨_, _, rfl, rfl, k' _ _ e3 rfl⟩
      · intro H2 vs e2 hv hlen hR
        obtain ⟨x1, x2, x3, rfl⟩ := len3' hlen
        have r1 := hR 0 x1 rfl
        have r2 := hR 1 x2 rfl
        have r3 := hR 2 x3 rfl
        subst r1 r2 r3
        refine ⟨D0, [decide (0 ≤ sd a b p), decide (0 ≤ sd b c p), decide (0 ≤ sd c a p)], rfl, SqL.of hv, ?_⟩
        have e : ([decide (0 ≤ sd a b p), decide (0 ≤ sd b c p), decide (0 ≤ sd c a p)].all id) = inT a b c p := by simp [inT]
        rw [e]
        exact k _ (e1.trans e2)
    · refine ⟨_, rfl, .inr ⟨u, rfl, bad, false, rfl, ?_⟩⟩
      exact iteF k
theorem ty_tri {t dx : Addr} {fs : List (Str × V)} {H : Hp} (T : TxtT K mg CT) (T0 : Txt K mg C) (h : H t = some (.ins CT dx fs)) : TyX K H (.ref t) (.ref CT) := .base (.ins h T.cl T.ha T0.hn T0.htk T.hm)
theorem ext_same {H H' : Hp} (e : Ext H H') : Same H H' := fun a o h => e a o h
theorem i2_dec (a b : I2) : (decide (a.1 = b.1) && decide (a.2 = b.2)) = decide (a = b) := by
  by_cases h : a = b
  · subst h
    simp
  · rw [decide_eq_false h]
    by_cases h1 : a.1 = b.1
    · have h2 : a.2 ≠ b.2 := fun q => h (Prod.ext h1 q)
      simp [h2]
    · simp [h1]
theorem dOwn_pt {x y : V} {a b : I2} {H : Hp} {E : XK} (hx : IsP C x a.1 a.2 H) (hy : IsP C y b.1 b.2 H) : DOwn C (spEqP C) E x y (decide (a = b)) H := by
  obtain ⟨p, dx, rfl, hp⟩ := id hx
  obtain ⟨q, dy, rfl, hq⟩ := id hy
  refine ⟨p, q, dx, dy, _, _, rfl, rfl, hp, hq, fun e => ?_, _, _, _, _, _, _, rfl, hx, .inl ⟨hy, ?_, Ext.rfl'⟩⟩
  · subst e
    rw [hp] at hq
    injection hq with hq
    injection hq with _ _ hq
    have e1 : a.1 = b.1 := by
      have z := congrArg (List.lookup ("x" : Str)) hq
      rw [ptF_x, ptF_x] at z
      injection z with z
      injection z
    have e2 : a.2 = b.2 := by
      have z := congrArg (List.lookup ("y" : Str)) hq
      rw [ptF_y, ptF_y] at z
      injection z with z
      injection z
    exact decide_eq_true (Prod.ext e1 e2)
  · rw [i2_dec]
theorem monB_pt : MonB (fun x y b H => ∃ a c : I2, IsP C x a.1 a.2 H ∧ IsP C y c.1 c.2 H ∧ b = decide (a = c)) := fun x y b H H' e ⟨a, c, h1, h2, h3⟩ => ⟨a, c, h1.ex (ext_same e), h2.ex (ext_same e), h3⟩
/-- two Points, as tuples and lists ask -/
def DPt (C : Addr) : EqvB := fun x y b H => ∃ a c : I2, IsP C x a.1 a.2 H ∧ IsP C y c.1 c.2 H ∧ b = decide (a = c)
theorem eqB_pt {X : Cx} (F : FnOk X.prog X.w X.K X.mg X.base CX0 1 fEq fdEq ["self", "other"] (spEqP C)) (hs : PySem.W.findIn X.K (.ref C) "__eq__" = some (some (.ref fEq))) (hf : PySem.W.isFn X.K (.ref fEq) = true) (hb : Binds X.K fdEq ["self", "other"] []) : EqB X 1 (DPt C) := by
  intro A pins s σ H x y u v b sb I rx ry d
  obtain ⟨a, c, h1, h2, rfl⟩ := d
  exact eqB_own (E := fun _ _ _ => False) F hs hf hb pass0 A pins s σ H x y u v _ sb I rx ry (dOwn_pt h1 h2)
theorem pair_eq {e q : Addr} {x1 x2 y1 y2 : V} {a b c d : I2} {H : Hp} (he : H e = some (.tup [x1, x2])) (hq : H q = some (.tup [y1, y2])) (h1 : IsP C x1 a.1 a.2 H) (h2 : IsP C x2 b.1 b.2 H) (h3 : IsP C y1 c.1 c.2 H) (h4 : IsP C y2 d.1 d.2 H) :
    DPair K (DPt C) (.ref e) (.ref q) (decide (a = c) && decide (b = d)) H := by
  refine ⟨e, q, x1, x2, y1, y2, _, _, rfl, rfl, SqT.of he, SqT.of hq, fun z => ?_, ⟨a, c, h1, h3, rfl⟩, ⟨b, d, h2, h4, rfl⟩, rfl⟩
  subst z
  rw [he] at hq
  injection hq with hq
  injection hq with hq
  injection hq with e1 hq
  injection hq with e2 _
  subst e1 e2
  have same : ∀ {v : V} {a c : I2}, IsP C v a.1 a.2 H → IsP C v c.1 c.2 H → a = c := fun {v a c} h h' => by
    obtain ⟨p, dx, rfl, hp⟩ := h
    obtain ⟨p', dx', e, hp'⟩ := h'
    cases e
    rw [hp] at hp'
    injection hp' with z
    injection z with _ _ z
    have e1 : a.1 = c.1 := by
      have z := congrArg (List.lookup ("x" : Str)) z
      rw [ptF_x, ptF_x] at z
      injection z with z
      injection z
    have e2 : a.2 = c.2 := by
      have z := congrArg (List.lookup ("y" : Str)) z
      rw [ptF_y, ptF_y] at z
      injection z with z
      injection z
    exact Prod.ext e1 e2
  rw [decide_eq_true (same h1 h3), decide_eq_true (same h2 h4)]
  rfl
theorem scTEq : FnScope ["self", "other"] ["self", "other"] (defScope sTEq) := ⟨rfl, rfl, rfl, by decide +kernel, rfl, by decide +kernel, by decide +kernel⟩
theorem ok_teq {f : Addr} {fd : FuncData} (F : Fun K "__eq__" "Triangle.__eq__" sTEq f fd) (d : TDefs K mg C CT fS fTI fCo fEd fAr fEq fAd pAr fdS fdTI fdCo fdEd fdAr fdEq fdAd) (D : Defs K mg C fW fI fP fA fO fdW fdI fdP fdA fdO) : FnOk P w K mg base CX0 4 f fd ["self", "other"] (spTEq C CT) := by
  have GE : FnOk P w K mg base CX0 1 fEd fdEd ["self"] (spEdges C CT) := d.GEd
  have GQ : FnOk P w K mg base CX0 1 fEq fdEq ["self", "other"] (spEqP C) := ok_eq d.FEq D.T
  have T := d.TT
  refine F.ok scTEq (fun vs H Q E h => ?_) (fun cdv A outer s H vs Q E hr h => ?_)
  · obtain ⟨t, u, a, b, c, rfl, _⟩ := h
    rfl
  · obtain ⟨t, u, a, b, c, rfl, ht, h⟩ := h
    have hr1 : Room 1 _ := hr.mono (by decide)
    refine ⟨_, pss_one (ps_ret (pe_and (pe_callB call_isi (by rfl) D.T.isi (by decide +kernel) (pa_cons (pv 1) (pa_cons (pe_glob (v := .ref CT) rfl T.mgT rfl) pa_nil)))
      (pe_and (pe_cmpR (op_inG (monB_pair (K := K) monB_pt) (eqB_pair (monB_pt) (eqB_pt GQ d.oEq d.iEq d.bEq)) (hr.mono (by decide))) (pe_ix ix_list (pe_meth0 (pv 0) T.cl d.mEd GE hr1 d.bEd .nil pass0) pe_int (fun _ _ => rfl)) (pe_meth0 (pv 1) T.cl d.mEd GE hr1 d.bEd .nil pass0) (by rfl))
      (pe_one (pe_cmpR (op_inG (monB_pair (K := K) monB_pt) (eqB_pair (monB_pt) (eqB_pt GQ d.oEq d.iEq d.bEq)) (hr.mono (by decide))) (pe_ix ix_list (pe_meth0 (pv 0) T.cl d.mEd GE hr1 d.bEd .nil pass0) pe_int (fun _ _ => rfl)) (pe_meth0 (pv 1) T.cl d.mEd GE hr1 d.bEd .nil pass0) (by rfl)))))), ?_⟩
    rcases h with ⟨d', e', f', hu, k⟩ | ⟨⟨q, xs, rfl, hq⟩, k⟩
    · obtain ⟨t1, dx1, l1, x1, x2, x3, rfl, p1, _⟩ := id ht
      obtain ⟨t2, dx2, l2, y1, y2, y3, rfl, p2, _⟩ := id hu
      refine ⟨_, rfl, _, _, _, _, true, rfl, .own CT, ty_tri T D.T p2, T.kTT, true, rfl, ?_⟩
      refine iteT ?_
      refine ⟨_, rfl, t1, dx1, _, rfl, p1, tipF_no _ (by decide +kernel), _, a, b, c, rfl, ht, fun v H1 e1 hE => ?_⟩
      obtain ⟨m, g1, g2, g3, w1, w2, w3, rfl, z0, z1, z2, z3, th⟩ := hE
      refine ⟨m, _, _, _, rfl, rfl, SqL.of z0, atI_nat (j := 0) rfl, ?_⟩
      have hu1 := hu.ex e1
      refine ⟨_, rfl, t2, dx2, _, rfl, e1 _ _ p2, tipF_no _ (by decide +kernel), _, d', e', f', rfl, hu1, fun v H2 e2 hE2 => ?_⟩
      obtain ⟨m', s1, s2, s3, w1', w2', w3', rfl, c0, c1, c2, c3, th'⟩ := hE2
      have th2 := th.ex e2
      refine ⟨m', _, [decide (d' = a) && decide (e' = b), decide (e' = a) && decide (f' = b), decide (f' = a) && decide (d' = b)], rfl, c0, rfl, ?_, fun H3 e3 => ?_⟩
      · intro i z bb hz hb
        rcases two3 hz with ⟨rfl, rfl⟩ | ⟨rfl, rfl⟩ | ⟨rfl, rfl⟩
        · cases hb
          exact pair_eq c1 (e2 _ _ z1) th'.1 th'.2.1 th2.1 th2.2.1
        · cases hb
          exact pair_eq c2 (e2 _ _ z1) th'.2.1 th'.2.2 th2.1 th2.2.1
        · cases hb
          exact pair_eq c3 (e2 _ _ z1) th'.2.2 th'.1 th2.1 th2.2.1
      have h1e : ([decide (d' = a) && decide (e' = b), decide (e' = a) && decide (f' = b), decide (f' = a) && decide (d' = b)].any id) = hasE a b d' e' f' := by simp [hasE]
      rw [h1e]
      refine ⟨_, rfl, ?_⟩
      have E3 := (e1.trans e2).trans (ext_same e3)
      cases hh : hasE a b d' e' f' with
      | false =>
        refine iteF ?_
        have z := k H3 E3
        unfold eqT at z
        rw [hh, Bool.false_and] at z
        exact z
      | true =>
        refine iteT ?_
        have ht3 := ht.ex E3
        have hu3 := hu.ex E3
        refine ⟨_, rfl, t1, dx1, _, rfl, E3 _ _ p1, tipF_no _ (by decide +kernel), _, a, b, c, rfl, ht3, fun v H4 e4 hE => ?_⟩
        obtain ⟨m, g1, g2, g3, w1, w2, w3, rfl, z0, z1, z2, z3, th⟩ := hE
        refine ⟨m, _, _, _, rfl, rfl, SqL.of z0, atI_nat (j := 1) rfl, ?_⟩
        refine ⟨_, rfl, t2, dx2, _, rfl, e4 _ _ (E3 _ _ p2), tipF_no _ (by decide +kernel), _, d', e', f', rfl, hu3.ex e4, fun v H5 e5 hE2 => ?_⟩
        obtain ⟨m', s1, s2, s3, w1', w2', w3', rfl, c0, c1, c2, c3, th'⟩ := hE2
        have th5 := th.ex e5
        refine ⟨m', _, [decide (d' = b) && decide (e' = c), decide (e' = b) && decide (f' = c), decide (f' = b) && decide (d' = c)], rfl, c0, rfl, ?_, fun H6 e6 => ?_⟩
        · intro i z bb hz hb
          rcases two3 hz with ⟨rfl, rfl⟩ | ⟨rfl, rfl⟩ | ⟨rfl, rfl⟩
          · cases hb
            exact pair_eq c1 (e5 _ _ z2) th'.1 th'.2.1 th5.2.1 th5.2.2
          · cases hb
            exact pair_eq c2 (e5 _ _ z2) th'.2.1 th'.2.2 th5.2.1 th5.2.2
          · cases hb
            exact pair_eq c3 (e5 _ _ z2) th'.2.2 th'.1 th5.2.1 th5.2.2
        have h2e : ([decide (d' = b) && decide (e' = c), decide (e' = b) && decide (f' = c), decide (f' = b) && decide (d' = c)].any id) = hasE b c d' e' f' := by simp [hasE]
        rw [h2e]
        have z := k H6 (E3.trans (e4.trans (e5.trans (ext_same e6))))
        unfold eqT at z
        rw [hh, Bool.true_and] at z
        exact z
    · refine ⟨_, rfl, _, _, _, _, false, rfl, .own CT, .base (.lst hq), T.kLT, false, rfl, ?_⟩
      exact iteF k
end
end Fo

set_option Elab.async false
set_option linter.all false
set_option maxRecDepth 100000
set_option maxHeartbeats 2000000
namespace Fo
open PySem L2
/-! ### the law's own words of triangles -/
abbrev sLSide : Stmt := top 19
abbrev sCorn : Stmt := top 20
abbrev sWays : Stmt := top 21
abbrev sWithin : Stmt := top 23
def rLenK (K : PySem.W.Frag) : List V → Hp → VK → Prop := fun xs H Q => ∃ p ys, xs = [V.ref p] ∧ (SqL K H p ys ∨ SqT K H p ys) ∧ Q (V.int ys.length) H
abbrev Tp (H : Hp) (q : Addr) (p : I2) : Prop := H q = some (.tup [.int p.1, .int p.2])
theorem seq_gen {t1 t2 : TS} {D : Ends} {σ : L2.St} {H : Hp} (cond : L2.St → Hp → Prop) (h1 : ∀ N : L2.St → Hp → Prop, (∀ σ' H', cond σ' H' → N σ' H') → t1 { D with nx := N } σ H) (h2 : ∀ σ' H', cond σ' H' → t2 D σ' H') : tSeq t1 t2 D σ H := h1 _ h2
/-- three tuples of numbers -/
structure T3 (H : Hp) (qa qb qc : Addr) (a b c : I2) : Prop where
  a : Tp H qa a
  b : Tp H qb b
  c : Tp H qc c
theorem T3.ex {H H' : Hp} {qa qb qc : Addr} {a b c : I2} (e : Same H H') (h : T3 H qa qb qc a b c) : T3 H' qa qb qc a b c := ⟨e _ _ h.a, e _ _ h.b, e _ _ h.c⟩
def spLSide : Sp := fun vs H Q _ => ∃ (n : Nat) (qa qb qp : Addr) (a b p : I2), vs = [.ref qa, .ref qb, .ref qp] ∧ T3 H qa qb qp a b p ∧ n < 1000 ∧ Sm2 n a ∧ Sm2 n b ∧ Sm2 n p ∧ Q (.int (sd a b p)) H
def spCorn : Sp := fun vs H Q _ => ∃ p : Addr, vs = [.ref p, .int 5] ∧ PoolAt p H ∧ ∀ l qa qb qc a b c H', But p H H' → PoolAt p H' → H' l = some (.lst [.ref qa, .ref qb, .ref qc]) → T3 H' qa qb qc a b c → 0 < sd a b c → Sm2 5 a → Sm2 5 b → Sm2 5 c → Q (.ref l) H'
def spWays (K : PySem.W.Frag) : Sp := fun vs H Q _ => ∃ (l : Addr) (x y z : V), vs = [.ref l] ∧ SqL K H l [x, y, z] ∧ ∀ m e1 e2 e3 H', H m = none → Same H H' → H' m = some (.lst [.ref e1, .ref e2, .ref e3]) → H' e1 = some (.tup [x, y]) → H' e2 = some (.tup [y, z]) → H' e3 = some (.tup [z, x]) → Q (.ref m) H'
def spWithin (K : PySem.W.Frag) : Sp := fun vs H Q _ => ∃ (n : Nat) (l qa qb qc qp : Addr) (a b c p : I2), vs = [.ref l, .ref qp] ∧ SqL K H l [.ref qa, .ref qb, .ref qc] ∧ T3 H qa qb qc a b c ∧ Tp H qp p ∧ n < 1000 ∧ Sm2 n a ∧ Sm2 n b ∧ Sm2 n c ∧ Sm2 n p ∧ ∀ H', Same H H' → Q (.bl (inT a b c p)) H'
section
variable {P : Program} {w : World} {K : PySem.W.Frag} {mg : Str → Option Value} {base : Heap}
theorem scLSide : FnScope ["a", "b", "p"] ["a", "b", "p"] (defScope sLSide) := ⟨rfl, rfl, rfl, by decide +kernel, rfl, by decide +kernel, by decide +kernel⟩
theorem ok_lside {f : Addr} {fd : FuncData} (F : Fun K "_law_side" "_law_side" sLSide f fd) : FnOk P w K mg base CX0 1 f fd ["a", "b", "p"] spLSide := by
  refine F.ok scLSide (fun vs H Q E h => ?_) (fun cdv A outer s H vs Q E hr h => ?_)
  · obtain ⟨n, qa, qb, qp, a, b, p, rfl, _⟩ := h
    rfl
  · obtain ⟨n, qa, qb, qp, a, b, p, rfl, t, n1, sa, sb, sp, k⟩ := h
    refine ⟨_, pss_one (ps_ret (pe_op op_sub
      (pe_op op_mulW (pe_op op_sub (pe_ix ix_tup (pv 1) pe_int (fun _ _ => rfl)) (pe_ix ix_tup (pv 0) pe_int (fun _ _ => rfl))) (pe_op op_sub (pe_ix ix_tup (pv 2) pe_int (fun _ _ => rfl)) (pe_ix ix_tup (pv 0) pe_int (fun _ _ => rfl))))
      (pe_op op_mulW (pe_op op_sub (pe_ix ix_tup (pv 1) pe_int (fun _ _ => rfl)) (pe_ix ix_tup (pv 0) pe_int (fun _ _ => rfl))) (pe_op op_sub (pe_ix ix_tup (pv 2) pe_int (fun _ _ => rfl)) (pe_ix ix_tup (pv 0) pe_int (fun _ _ => rfl)))))), ?_⟩
    refine ⟨_, rfl, qb, _, _, _, rfl, rfl, SqT.of t.b, atI_nat (j := 0) rfl, _, rfl, qa, _, _, _, rfl, rfl, SqT.of t.a, atI_nat (j := 0) rfl, _, _, rfl, rfl, ?_⟩
    refine ⟨_, rfl, qp, _, _, _, rfl, rfl, SqT.of t.c, atI_nat (j := 1) rfl, _, rfl, qa, _, _, _, rfl, rfl, SqT.of t.a, atI_nat (j := 1) rfl, _, _, rfl, rfl, ?_⟩
    refine ⟨_, _, rfl, rfl, (sb.1.sub sa.1).mul (sp.2.sub sa.2) (Nat.succ_pos _) n1, ?_⟩
    refine ⟨_, rfl, qb, _, _, _, rfl, rfl, SqT.of t.b, atI_nat (j := 1) rfl, _, rfl, qa, _, _, _, rfl, rfl, SqT.of t.a, atI_nat (j := 1) rfl, _, _, rfl, rfl, ?_⟩
    refine ⟨_, rfl, qp, _, _, _, rfl, rfl, SqT.of t.c, atI_nat (j := 0) rfl, _, rfl, qa, _, _, _, rfl, rfl, SqT.of t.a, atI_nat (j := 0) rfl, _, _, rfl, rfl, ?_⟩
    refine ⟨_, _, rfl, rfl, (sb.2.sub sa.2).mul (sp.1.sub sa.1) (Nat.succ_pos _) n1, ?_⟩
    exact ⟨_, _, rfl, rfl, k⟩
theorem scWays : FnScope ["corners_here", "k"] ["corners_here"] (defScope sWays) := ⟨rfl, rfl, rfl, by decide +kernel, rfl, by decide +kernel, by decide +kernel⟩
theorem ok_ways {f : Addr} {fd : FuncData} (F : Fun K "_law_ways" "_law_ways" sWays f fd) (T : TxtL mg) : FnOk P w K mg base CX0 1 f fd ["corners_here"] (spWays K) := by
  refine F.ok scWays (fun vs H Q E h => ?_) (fun cdv A outer s H vs Q E hr h => ?_)
  · obtain ⟨l, x, y, z, rfl, _⟩ := h
    rfl
  · obtain ⟨l, x, y, z, rfl, hl, k⟩ := h
    refine ⟨_, pss_one (ps_ret (pe_lc (own := [("k", 1)]) (g := gName 1) (tt := tYes) rfl scWays.nd (pi_range1 rfl T.range (pa_cons (pe_callB call_len_seq (by rfl) T.len PySem.boot_len (pa_cons (pv 0) pa_nil)) pa_nil))
      (blkOk_by (own := [("k", 1)]) (N := ["corners_here", "k"]) (sc := defScope sWays) (by decide +kernel)) (fun _ _ _ _ _ => pg_name (i := 1) scWays.nd rfl (Or.inl rfl)) (fun _ _ _ _ _ => pts_nil)
      (fun _ _ _ _ _ => pe_tup (pa_cons (pe_ix (r := rIxL K) ix_list (pv 0) (pv 1) (fun _ _ => rfl)) (pa_cons (pe_ix (r := rIxL K) ix_list (pv 0) (pe_op op_mod (pe_op op_add (pv 1) pe_int) (pe_callB (r := rLenK K) call_len_seq (by rfl) T.len PySem.boot_len (pa_cons (pv 0) pa_nil))) (fun _ _ => rfl)) pa_nil))))), ?_⟩
    refine ⟨_, rfl, l, _, rfl, .inl hl, 3, rfl, by decide, by decide, fun D0 nD => ?_⟩
    refine lc_rAll (lo := 0) (n := 3) (sl := [1]) (fun i v H' => ∃ e, v = .ref e ∧ H' e = some (.tup (if i = 0 then [x, y] else if i = 1 then [y, z] else [z, x]))) (fun i v H H' e h => by obtain ⟨q, h1, h2⟩ := h; exact ⟨q, h1, e _ _ h2⟩)
      (fun i v H H' D ys hD b h => by obtain ⟨q, h1, h2⟩ := h; exact ⟨q, h1, b _ _ (ne_of h2 hD (by intro z; cases z)) h2⟩) (by decide) ?_ ?_ nD
    · intro i H2 hi e2 Q' k'
      have hl2 := e2.seq hl
      have : i = 0 ∨ i = 1 ∨ i = 2 := by omega
      refine ⟨rfl, ?_⟩
      rcases this with rfl | rfl | rfl
      · refine ⟨_, rfl, _, rfl, l, _, _, _, rfl, rfl, hl2, atI_nat (j := 0) rfl, _, rfl, _, rfl, _, _, rfl, rfl, _, rfl, l, _, rfl, .inl hl2, _, _, rfl, rfl, (by show (0 : Int) < 3; decide), l, _, _, _, rfl, rfl, hl2, (show atI [x, y, z] (1 : Int) = some y from atI_nat (j := 1) rfl), (by show 2 ≤ sizeLine; decide), fun t nt => ?_⟩
        exact k' _ _ (same_new nt) ⟨t, rfl, upd_same⟩
      · refine ⟨_, rfl, _, rfl, l, _, _, _, rfl, rfl, hl2, atI_nat (j := 1) rfl, _, rfl, _, rfl, _, _, rfl, rfl, _, rfl, l, _, rfl, .inl hl2, _, _, rfl, rfl, (by show (0 : Int) < 3; decide), l, _, _, _, rfl, rfl, hl2, (show atI [x, y, z] (2 : Int) = some z from atI_nat (j := 2) rfl), (by show 2 ≤ sizeLine; decide), fun t nt => ?_⟩
        exact k' _ _ (same_new nt) ⟨t, rfl, upd_same⟩
      · refine ⟨_, rfl, _, rfl, l, _, _, _, rfl, rfl, hl2, atI_nat (j := 2) rfl, _, rfl, _, rfl, _, _, rfl, rfl, _, rfl, l, _, rfl, .inl hl2, _, _, rfl, rfl, (by show (0 : Int) < 3; decide), l, _, _, _, rfl, rfl, hl2, (by rw [show ((0 + ((2 : Nat) : Int) + 1) % (([x, y, z] : List V).length : Int)) = ((0 : Nat) : Int) from by simp]; exact atI_nat (j := 0) rfl), (by show 2 ≤ sizeLine; decide), fun t nt => ?_⟩
        exact k' _ _ (same_new nt) ⟨t, rfl, upd_same⟩
    · intro H2 vs e2 hv hlen hR
      obtain ⟨x1, x2, x3, rfl⟩ := len3' hlen
      obtain ⟨t1, rfl, r1⟩ := hR 0 x1 rfl
      obtain ⟨t2, rfl, r2⟩ := hR 1 x2 rfl
      obtain ⟨t3, rfl, r3⟩ := hR 2 x3 rfl
      exact k D0 t1 t2 t3 H2 nD e2 hv r1 r2 r3
theorem scCorn : FnScope ["pool", "size_here", "a", "b", "c"] ["pool", "size_here"] (defScope sCorn) := ⟨rfl, rfl, rfl, by decide +kernel, rfl, by decide +kernel, by decide +kernel⟩
theorem sm5 {x : Int} (h0 : -31 ≤ x) (h1 : x ≤ 31) : Sm 5 x := by
  unfold Sm
  omega
theorem ok_corn {f fD fPr fLs : Addr} {fd fdD fdPr fdLs : FuncData} (F : Fun K "_law_corners" "_law_corners" sCorn f fd) (T : TxtL mg) (FD : Fun K "_law_draw" "_law_draw" sDraw fD fdD) (bD : Binds K fdD ["pool", "many"] []) (mD : mg "_law_draw" = some (.ref fD))
    (FPr : Fun K "_law_pair" "_law_pair" sPair fPr fdPr) (bPr : Binds K fdPr ["pool", "size_here"] []) (mPr : mg "_law_pair" = some (.ref fPr)) (FLs : Fun K "_law_side" "_law_side" sLSide fLs fdLs) (bLs : Binds K fdLs ["a", "b", "p"] []) (mLs : mg "_law_side" = some (.ref fLs)) :
    FnOk P w K mg base CX0 3 f fd ["pool", "size_here"] spCorn := by
  have GD : FnOk P w K mg base CX0 1 fD fdD ["pool", "many"] spDraw := ok_draw FD T
  have GP : FnOk P w K mg base CX0 2 fPr fdPr ["pool", "size_here"] spPair := ok_pair FPr T FD bD mD
  have GL : FnOk P w K mg base CX0 1 fLs fdLs ["a", "b", "p"] spLSide := ok_lside FLs
  refine F.ok scCorn (fun vs H Q E h => ?_) (fun cdv A outer s H vs Q E hr h => ?_)
  · obtain ⟨p, rfl, _⟩ := h
    rfl
  · obtain ⟨p, rfl, hp, k⟩ := h
    have hr1 : Room 1 _ := hr.mono (by decide)
    refine ⟨_, pss_cons (ps_par3 (i := 2) (j := 3) (l := 4) (by rfl) scCorn.nd rfl rfl rfl (by decide) (by decide) (by decide) rfl rfl rfl (pa_cons (pe_call GP hr rfl mPr FPr.kp bPr .nil pass0 (pa_cons (pv 0) (pa_cons (pv 1) pa_nil))) (pa_cons (pe_call GP hr rfl mPr FPr.kp bPr .nil pass0 (pa_cons (pv 0) (pa_cons (pv 1) pa_nil))) (pa_cons (pe_call GP hr rfl mPr FPr.kp bPr .nil pass0 (pa_cons (pv 0) (pa_cons (pv 1) pa_nil))) pa_nil))) (by rfl))
      (pss_cons (ps_if (pt_cmpR op_eq (pe_call GL hr1 rfl mLs FLs.kp bLs .nil pass0 (pa_cons (pv 2) (pa_cons (pv 3) (pa_cons (pv 4) pa_nil)))) pe_int (nomark _))
        (pss_one (ps_par (i := 3) (j := 4) (by rfl) scCorn.nd rfl rfl (by decide) rfl rfl (pa_cons (pe_tup (pa_cons (pe_op op_add (pe_op op_add (pe_ix ix_tup (pv 2) pe_int (fun _ _ => rfl)) pe_int) (pe_call GD hr1 rfl mD FD.kp bD .nil pass0 (pa_cons (pv 0) (pa_cons pe_int pa_nil)))) (pa_cons (pe_ix ix_tup (pv 2) pe_int (fun _ _ => rfl)) pa_nil)))
          (pa_cons (pe_tup (pa_cons (pe_op op_add (pe_ix ix_tup (pv 2) pe_int (fun _ _ => rfl)) (pe_call GD hr1 rfl mD FD.kp bD .nil pass0 (pa_cons (pv 0) (pa_cons pe_int pa_nil)))) (pa_cons (pe_op op_add (pe_ix ix_tup (pv 2) pe_int (fun _ _ => rfl)) pe_int) pa_nil))) pa_nil)) (by rfl))) pss_nil)
      (pss_one (ps_ret (pe_ifExp (pt_cmpR op_gt (pe_call GL hr1 rfl mLs FLs.kp bLs .nil pass0 (pa_cons (pv 2) (pa_cons (pv 3) (pa_cons (pv 4) pa_nil)))) pe_int (nomark _)) (pe_lst (pa_cons (pv 2) (pa_cons (pv 3) (pa_cons (pv 4) pa_nil)))) (pe_lst (pa_cons (pv 2) (pa_cons (pv 4) (pa_cons (pv 3) pa_nil)))))))), ?_⟩
    refine seq_gen (fun σ' H' => ∃ qa qb qc a b c, σ' = [some (.ref p), some (.int 5), some (.ref qa), some (.ref qb), some (.ref qc)] ∧ But p H H' ∧ PoolAt p H' ∧ T3 H' qa qb qc a b c ∧ (-5 ≤ a.1 ∧ a.1 ≤ 5 ∧ -5 ≤ a.2 ∧ a.2 ≤ 5) ∧ (-5 ≤ b.1 ∧ b.1 ≤ 5 ∧ -5 ≤ b.2 ∧ b.2 ≤ 5) ∧ (-5 ≤ c.1 ∧ c.1 ≤ 5 ∧ -5 ≤ c.2 ∧ c.2 ≤ 5)) (fun N hN => ?_) ?_
    · refine ⟨_, rfl, _, rfl, p, 5, rfl, hp, by decide, by decide, fun q1 x1 y1 H1 b1 p1 h1 c1 c2 c3 c4 => ?_⟩
      refine ⟨_, rfl, _, rfl, p, 5, rfl, p1, by decide, by decide, fun q2 x2 y2 H2 b2 p2 h2 d1 d2 d3 d4 => ?_⟩
      refine ⟨_, rfl, _, rfl, p, 5, rfl, p2, by decide, by decide, fun q3 x3 y3 H3 b3 p3 h3 e1 e2 e3 e4 => ?_⟩
      refine ⟨_, _, _, rfl, ?_⟩
      exact hN _ _ ⟨q1, q2, q3, (x1, y1), (x2, y2), (x3, y3), rfl, (b1.trans b2).trans b3, p3, ⟨b3 _ _ (tup_ne p2 (b2 _ _ (tup_ne p1 h1) h1)) (b2 _ _ (tup_ne p1 h1) h1), b3 _ _ (tup_ne p2 h2) h2, h3⟩, ⟨c1, c2, c3, c4⟩, ⟨d1, d2, d3, d4⟩, ⟨e1, e2, e3, e4⟩⟩
    rintro σ H2 ⟨qa, qb, qc, a, b, c, rfl, b2, p2, t2, ra, rb, rc⟩
    refine seq_gen (fun σ' H' => ∃ qb qc b c, σ' = [some (.ref p), some (.int 5), some (.ref qa), some (.ref qb), some (.ref qc)] ∧ But p H H' ∧ PoolAt p H' ∧ T3 H' qa qb qc a b c ∧ sd a b c ≠ 0 ∧ Sm2 5 b ∧ Sm2 5 c) (fun N hN => ?_) ?_
    · refine ⟨_, rfl, _, rfl, _, rfl, 5, qa, qb, qc, a, b, c, rfl, t2, by decide, ⟨sm5 (by omega) (by omega), sm5 (by omega) (by omega)⟩, ⟨sm5 (by omega) (by omega), sm5 (by omega) (by omega)⟩, ⟨sm5 (by omega) (by omega), sm5 (by omega) (by omega)⟩, rfl, _, rfl, ?_⟩
      by_cases hz : sd a b c = 0
      · rw [int_eqT hz]
        refine iteT ?_
        refine ⟨_, rfl, qa, _, _, _, rfl, rfl, SqT.of t2.a, atI_nat (j := 0) rfl, _, _, rfl, rfl, _, rfl, p, 3, rfl, p2, by decide, by decide, fun r1 H3 r10 r11 b3 p3 => ?_⟩
        have a3 := b3 _ _ (tup_ne p2 t2.a) t2.a
        refine ⟨_, _, rfl, rfl, _, rfl, qa, _, _, _, rfl, rfl, SqT.of a3, atI_nat (j := 1) rfl, (by show 2 ≤ sizeLine; decide), fun s1 ns1 => ?_⟩
        have g1 := same_new (o := .tup [.int (a.1 + 1 + r1), .int a.2]) ns1
        have a4 := g1 _ _ a3
        have p4 := p3.ex g1
        refine ⟨_, rfl, qa, _, _, _, rfl, rfl, SqT.of a4, atI_nat (j := 0) rfl, _, rfl, p, 3, rfl, p4, by decide, by decide, fun r2 H5 r20 r21 b5 p5 => ?_⟩
        have a5 := b5 _ _ (tup_ne p4 a4) a4
        have s5 := b5 _ _ (tup_ne p4 (upd_same (H := H3) (a := s1) (o := .tup [.int (a.1 + 1 + r1), .int a.2]))) upd_same
        refine ⟨_, _, rfl, rfl, _, rfl, qa, _, _, _, rfl, rfl, SqT.of a5, atI_nat (j := 1) rfl, _, _, rfl, rfl, (by show 2 ≤ sizeLine; decide), fun s2 ns2 => ?_⟩
        have g2 := same_new (o := .tup [.int (a.1 + r2), .int (a.2 + 2)]) ns2
        refine ⟨_, _, rfl, ?_⟩
        have g23 := g2
        refine hN _ _ ⟨s1, s2, (a.1 + 1 + r1, a.2), (a.1 + r2, a.2 + 2), rfl, (((b2.trans b3).trans (But.of g1)).trans b5).trans (But.of g23), p5.ex g23, ⟨g23 _ _ a5, g23 _ _ s5, upd_same⟩, ?_, ⟨sm5 (by show -31 ≤ a.1 + 1 + r1; omega) (by show a.1 + 1 + r1 ≤ 31; omega), sm5 (by show -31 ≤ a.2; omega) (by show a.2 ≤ 31; omega)⟩, ⟨sm5 (by show -31 ≤ a.1 + r2; omega) (by show a.1 + r2 ≤ 31; omega), sm5 (by show -31 ≤ a.2 + 2; omega) (by show a.2 + 2 ≤ 31; omega)⟩⟩
        have e : sd a (a.1 + 1 + r1, a.2) (a.1 + r2, a.2 + 2) = 2 * (1 + r1) := by
          unfold sd sideI
          grind
        rw [e]
        omega
      · rw [int_eqF hz]
        refine iteF ?_
        exact hN _ _ ⟨qb, qc, b, c, rfl, b2, p2, t2, hz, ⟨sm5 (by omega) (by omega), sm5 (by omega) (by omega)⟩, ⟨sm5 (by omega) (by omega), sm5 (by omega) (by omega)⟩⟩
    rintro σ H3 ⟨qb, qc, b, c, rfl, b3, p3, t3, nz, sb, sc⟩
    have sa : Sm2 5 a := ⟨sm5 (by omega) (by omega), sm5 (by omega) (by omega)⟩
    refine ⟨_, rfl, _, rfl, _, rfl, 5, qa, qb, qc, a, b, c, rfl, t3, by decide, sa, sb, sc, _, _, rfl, rfl, _, rfl, ?_⟩
    by_cases hs : 0 < sd a b c
    · rw [decide_eq_true hs]
      refine iteT ?_
      refine ⟨_, rfl, _, rfl, _, rfl, (by show 3 ≤ sizeLine; decide), fun l nl => ?_⟩
      have g := same_new (o := .lst [.ref qa, .ref qb, .ref qc]) nl
      exact k l qa qb qc a b c _ (b3.trans (But.of g)) (p3.ex g) upd_same (t3.ex g) hs sa sb sc
    · rw [decide_eq_false hs]
      refine iteF ?_
      refine ⟨_, rfl, _, rfl, _, rfl, (by show 3 ≤ sizeLine; decide), fun l nl => ?_⟩
      have g := same_new (o := .lst [.ref qa, .ref qc, .ref qb]) nl
      have t4 := t3.ex g
      have e : sd a c b = - sd a b c := by
        unfold sd sideI
        grind
      exact k l qa qc qb a c b _ (b3.trans (But.of g)) (p3.ex g) upd_same ⟨t4.a, t4.c, t4.b⟩ (by omega) sa sc sb
end
end Fo

set_option Elab.async false
set_option linter.all false
set_option maxRecDepth 100000
set_option maxHeartbeats 2000000
namespace Fo
open PySem L2
/-! ### _law_within; the triangles that are refused -/
theorem ones_dp {K : PySem.W.Frag} {H : Hp} : ∀ n : Nat, DpAll K H (List.replicate n (V.int 1)) (List.replicate n (PyData.int 1))
  | 0 => .nil
  | n + 1 => .cons (.int 1) (ones_dp n)
theorem ones_lay : ∀ n : Nat, PyData.canLayAll0 (List.replicate n (PyData.int 1)) = true
  | 0 => by simp [PyData.canLayAll0]
  | n + 1 => by simp [List.replicate_succ, PyData.canLayAll0, PyData.canLay0, ones_lay n]
theorem ones_depth : ∀ n : Nat, PyData.depthAll (List.replicate n (PyData.int 1)) ≤ 2
  | 0 => by simp [PyData.depthAll]
  | n + 1 => by
    have h1 := ones_depth n
    have h2 : (PyData.int 1).depth ≤ 2 := by simp [PyData.depth]
    simp only [List.replicate_succ, PyData.depthAll]
    omega
theorem ones_shaped (n : Nat) : SeqAt.shaped (.list (List.replicate n (PyData.int 1))) = true := by
  have h1 := ones_depth n
  have h2 : PyData.depth (.list (List.replicate n (PyData.int 1))) ≤ 64 := by
    simp only [PyData.depth]
    omega
  show (PyData.canLay0 (.list (List.replicate n (PyData.int 1))) && decide (PyData.depth (.list (List.replicate n (PyData.int 1))) ≤ 64)) = true
  rw [Bool.and_eq_true]
  exact ⟨by simp only [PyData.canLay0]; exact ones_lay n, decide_eq_true h2⟩
theorem ones_eqv (n : Nat) : PyData.eqv (.list (List.replicate n (PyData.int 1))) (.list []) = decide (n = 0) := by
  cases n with
  | zero => simp [PyData.eqv, PyData.eqvAll]
  | succ n => simp [List.replicate_succ, PyData.eqv, PyData.eqvAll]
section
variable {P : Program} {w : World} {K : PySem.W.Frag} {mg : Str → Option Value} {base : Heap}
theorem scWithin : FnScope ["corners_here", "p", "a", "b"] ["corners_here", "p"] (defScope sWithin) := ⟨rfl, rfl, rfl, by decide +kernel, rfl, by decide +kernel, by decide +kernel⟩
def keepE (x y z : Int) : Nat → Bool
  | 0 => decide (x < 0)
  | 1 => decide (y < 0)
  | _ => decide (z < 0)
theorem kept_inT (a b c p : I2) : decide (kept (keepE (sd a b p) (sd b c p) (sd c a p)) 3 = 0) = inT a b c p := by
  unfold inT
  by_cases h1 : sd a b p < 0 <;> by_cases h2 : sd b c p < 0 <;> by_cases h3 : sd c a p < 0 <;> simp [kept, keepE, h1, h2, h3, Int.not_lt.mp] <;> omega
theorem ok_within {f fWy fLs : Addr} {fd fdWy fdLs : FuncData} (F : Fun K "_law_within" "_law_within" sWithin f fd) (T : TxtL mg)
    (FWy : Fun K "_law_ways" "_law_ways" sWays fWy fdWy) (bWy : Binds K fdWy ["corners_here"] []) (mWy : mg "_law_ways" = some (.ref fWy)) (FLs : Fun K "_law_side" "_law_side" sLSide fLs fdLs) (bLs : Binds K fdLs ["a", "b", "p"] []) (mLs : mg "_law_side" = some (.ref fLs)) :
    FnOk P w K mg base CX0 2 f fd ["corners_here", "p"] (spWithin K) := by
  have GW : FnOk P w K mg base CX0 1 fWy fdWy ["corners_here"] (spWays K) := ok_ways FWy T
  have GL : FnOk P w K mg base CX0 1 fLs fdLs ["a", "b", "p"] spLSide := ok_lside FLs
  refine F.ok scWithin (fun vs H Q E h => ?_) (fun cdv A outer s H vs Q E hr h => ?_)
  · obtain ⟨n, l, qa, qb, qc, qp, a, b, c, p, rfl, _⟩ := h
    rfl
  · obtain ⟨n, l, qa, qb, qc, qp, a, b, c, p, rfl, hl, t, hp, n1, sa, sb, sc, sp, k⟩ := h
    refine ⟨_, pss_one (ps_ret (pe_cmpR (op_eqD hr.units) (pe_lc (own := [("a", 2), ("b", 3)]) (g := gTup K 2 (gCons (gName 2) (gCons (gName 3) gNil))) rfl scWithin.nd (pi_list (pe_call GW hr rfl mWy FWy.kp bWy .nil pass0 (pa_cons (pv 0) pa_nil)))
      (blkOk_by (own := [("a", 2), ("b", 3)]) (N := ["corners_here", "p", "a", "b"]) (sc := defScope sWithin) (by decide +kernel))
      (fun _ _ _ _ _ => pg_tup rfl (pgs_cons (pg_name (i := 2) scWithin.nd rfl (Or.inl rfl)) (pgs_cons (pg_name (i := 3) scWithin.nd rfl (Or.inl rfl)) pgs_nil)))
      (fun _ _ _ _ _ => pts_one (pt_cmpR op_lt (pe_call GL hr rfl mLs FLs.kp bLs .nil pass0 (pa_cons (pv 2) (pa_cons (pv 3) (pa_cons (pv 1) pa_nil)))) pe_int (nomark _)))
      (fun _ _ _ _ _ => pe_int)) (pe_lst pa_nil) (nomark _))), ?_⟩
    refine ⟨_, rfl, l, _, _, _, rfl, hl, fun m e1 e2 e3 H1 nm g1 hm h1 h2 h3 => ?_⟩
    refine ⟨m, rfl, ⟨_, SqL.of hm⟩, fun D0 nD => ?_⟩
    refine lc_filt (K := K) (xs := [.ref e1, .ref e2, .ref e3]) (sl := [2, 3]) (keepE (sd a b p) (sd b c p) (sd c a p)) (.int 1) (SqL.of hm) (by show 3 ≤ 1000; decide) ?_ ?_ nD
    · intro i x H2 hx g2 Nx Q' kF kT
      have t2 := (t.ex g1).ex g2
      have p2 := g2 _ _ (g1 _ _ hp)
      have go : ∀ (z : Int), keepE (sd a b p) (sd b c p) (sd c a p) i = decide (z < 0) → (if decide (z < 0) = true then Q' (.int 1) H2 else Nx H2) := fun z hz => by
        by_cases hq : z < 0
        · rw [decide_eq_true hq] at hz ⊢
          exact kT hz _ (Same.refl _)
        · rw [decide_eq_false hq] at hz ⊢
          exact kF hz _ (Same.refl _)
      rcases two3 hx with ⟨rfl, rfl⟩ | ⟨rfl, rfl⟩ | ⟨rfl, rfl⟩
      · refine ⟨e1, _, rfl, SqT.of (g2 _ _ h1), rfl, _, _, rfl, _, _, rfl, rfl, rfl, ?_⟩
        refine ⟨_, rfl, _, rfl, _, rfl, n, qa, qb, qp, a, b, p, rfl, ⟨t2.a, t2.b, p2⟩, n1, sa, sb, sp, _, _, rfl, rfl, _, rfl, ?_⟩
        exact go _ rfl
      · refine ⟨e2, _, rfl, SqT.of (g2 _ _ h2), rfl, _, _, rfl, _, _, rfl, rfl, rfl, ?_⟩
        refine ⟨_, rfl, _, rfl, _, rfl, n, qb, qc, qp, b, c, p, rfl, ⟨t2.b, t2.c, p2⟩, n1, sb, sc, sp, _, _, rfl, rfl, _, rfl, ?_⟩
        exact go _ rfl
      · refine ⟨e3, _, rfl, SqT.of (g2 _ _ h3), rfl, _, _, rfl, _, _, rfl, rfl, rfl, ?_⟩
        refine ⟨_, rfl, _, rfl, _, rfl, n, qc, qa, qp, c, a, p, rfl, ⟨t2.c, t2.a, p2⟩, n1, sc, sa, sp, _, _, rfl, rfl, _, rfl, ?_⟩
        exact go _ rfl
    · intro H2 g2 hD
      refine ⟨(by show 0 ≤ sizeLine; decide), fun z nz => ?_⟩
      have g3 := same_new (o := .lst []) nz
      refine ⟨_, _, .lst (SqL.of (g3 _ _ hD)) (ones_dp _), .lst (SqL.of upd_same) .nil, ones_shaped _, (by decide +kernel), ?_⟩
      rw [ones_eqv, show ([V.ref e1, V.ref e2, V.ref e3] : List V).length = 3 from rfl, kept_inT]
      exact k _ ((g1.trans g2).trans g3)
end
/-! ### Triangle(..) where it raises -/
def XD3 (v : V) : HO := .xd [((Str.ofString "three"), v)]
structure TxtF (P : Program) (K : PySem.W.Frag) (mg : Str → Option Value) (CL fLI : Addr) : Prop where
  xL : FoX_three.XTxt P K mg CL fLI
  gL : mg "Flat" = some (.ref CL)
def spTInitX (C CT CI CL : Addr) : Sp := fun vs H _ E => ∃ (p dx : Addr) (u v w : V), vs = [.ref p, u, v, w] ∧ H p = some (.ins CT dx []) ∧
  ((∃ (n : Nat) (a b c : I2), IsPt2 C u a H ∧ IsPt2 C v b H ∧ IsPt2 C w c H ∧ n < 1000 ∧ Sm2 n a ∧ Sm2 n b ∧ Sm2 n c ∧ sd a b c = 0 ∧ ∀ d t v1 v2 v3 H', Same H H' → H' d = some (XD3 (.ref t)) → H' t = some (.tup [v1, v2, v3]) → Three C v1 v2 v3 a b c H' → E (.ref CL) (some d) H') ∨
   ((Bad H u ∧ ∀ d H', Same H H' → H' d = some (XD u) → E (.ref CI) (some d) H') ∨ (∃ a : I2, IsPt2 C u a H ∧ Bad H v ∧ ∀ d H', Same H H' → H' d = some (XD v) → E (.ref CI) (some d) H')))
end Fo

set_option Elab.async false
set_option linter.all false
set_option maxRecDepth 100000
set_option maxHeartbeats 2000000
namespace Fo
open PySem L2
/-! ### what raises where nothing is handled; the law's own door to it -/
abbrev sRef : Stmt := top 22
theorem passesWN {X : Cx} {W : WX} {n : Nat} (tk : L2N.Takes X W) (hn : X.N.length = n) : Passes (L2N.CX X.prog X.w) X (EW W n) := fun _ σ _ _ e s' I c => tk e s' (L2N.XE.of_call I (fun _ _ _ h => h σ (I.len.trans hn)) c)
theorem pe_methH0 {X : Cx} {CX : CXT} {k : Nat} {f C : Addr} {fd : FuncData} {ps : List Str} {sp : Sp} {E : L2.St → XK} {m : Str} {pos apos : Pos} {o : Expr} {ta : TE} {pl : Sem Bool} (he : PE X o ta) (c : Cls X.K C) (hm : Meth X.K C m f) (F : L2H.FnH X.prog X.w X.K X.mg X.base CX k f fd ps sp) (hr : L2H.RoomH k X.A) (hc : L2H.HotC X) (hb : Binds X.K fd ps []) (hx : ∀ σ, PassesAt CX X σ (E σ))
    (ht : eval (.Call (.Attribute o m apos) [] [] pos) X.env = (do
      let ov ← eval o X.env
      standAt apos.atName
      let (f, first) ← holding [ov] (getMethod ov m pl)
      callWith pos f first (backTo pos (starEach [] X.env)) (backToKw pos (keywordEach [] X.env))) := by rfl) :
    PE X (.Call (.Attribute o m apos) [] [] pos) (L2H.tMethH C m sp E ta tNil) := by
  refine ⟨fun pins s σ H Q I h => ?_⟩
  refine PySem.W.methodCall_KW (pl := pl) (thn (he.run pins s σ H _ I h) fun u s1 hh => ?_) ht
  obtain ⟨x, H1, I1, rx, a, dx, fs, ex, ea, l, q⟩ := hh
  subst ex
  obtain rfl : u = Value.ref a := rx
  exact getmeth_ok I1 ea c hm l (PySem.W.callWith_K0 (first := [.ref a]) I1.kIn hm.kp (L2H.run_fnH (us := [.ref a]) (vs := [.ref a]) F hr hc hb (hx σ) I1 (.cons rfl .nil) q))
section
variable {P : Program} {w : World} {K : PySem.W.Frag} {mg : Str → Option Value} {base : Heap}
theorem _root_.L2.Fun.okN {x qual : Str} {st : Stmt} {f : Addr} {fd : FuncData} {N ps : List Str} {k : Nat} {sp : Sp} (F : Fun K x qual st f fd) (S : FnScope N ps (defScope st)) (len : ∀ vs H Q E, sp vs H Q E → vs.length = ps.length)
    (walk : ∀ (cdv : Value) (A : Around) (outer : List Env) (s : Shared) (H : Hp) (vs : List V) (Q : VK) (E : XK), Room k (A.deeper (PyProof.Rows.envOfC qual (defScope st) s.heap.objs.size f cdv)) → sp vs H Q E →
      ∃ t, PSs (cxOf (L2N.CX P w) P w K mg base N qual (defScope st) f cdv A outer s H E) (defBody st) t ∧ t { nx := fun _ H' => Q .non H', rt := Q } (start N vs) H) : FnOk P w K mg base (L2N.CX P w) (k + 1) f fd ps sp := by
  obtain ⟨oc, od, kV, doc, pm, an, cdv, ct, osl, rfl, lk, hcd⟩ := F.ex
  exact fn_of lk hcd S len fun A outer s H vs Q E hr => walk cdv A outer s H vs Q E hr
theorem _root_.L2.Fun.okH {x qual : Str} {st : Stmt} {f : Addr} {fd : FuncData} {N ps : List Str} {k : Nat} {sp : Sp} (F : Fun K x qual st f fd) (S : FnScope N ps (defScope st)) (len : ∀ vs H Q E, sp vs H Q E → vs.length = ps.length)
    (walk : ∀ (cdv : Value) (A : Around) (outer : List Env) (s : Shared) (H : Hp) (vs : List V) (Q : VK) (E : XK) (p : Addr × Obj), L2H.RoomH k (A.deeper (PyProof.Rows.envOfC qual (defScope st) s.heap.objs.size f cdv)) → sp vs H Q E →
      ∃ t, PSs (L2H.cxH CX0 P w K mg base N qual (defScope st) f cdv A outer s H E p) (defBody st) t ∧ t { nx := fun _ H' => Q .non H', rt := Q } (start N vs) H) : L2H.FnH P w K mg base CX0 (k + 1) f fd ps sp := by
  obtain ⟨oc, od, kV, doc, pm, an, cdv, ct, osl, rfl, lk, hcd⟩ := F.ex
  exact L2H.fn_ofH lk hcd S len fun A outer s H vs Q E p _ hr => walk cdv A outer s H vs Q E p hr
variable {C fW fI fP fA fO CT fS fTI fCo fEd fAr fEq fAd pAr CI fII CL fLI CF : Addr} {fdW fdI fdP fdA fdO fdS fdTI fdCo fdEd fdAr fdEq fdAd : FuncData}
theorem ok_pairH {f : Addr} {fd : FuncData} (F : Fun K "pair" "Point.pair" sPairM f fd) (T : Txt K mg C) : L2H.FnH P w K mg base CX0 1 f fd ["self"] (spPairM C) := by
  refine F.okH scPairM (fun vs H Q E h => ?_) (fun cdv A outer s H vs Q E p hr h => ?_)
  · obtain ⟨v, x, y, rfl, _⟩ := h
    rfl
  · obtain ⟨v, x, y, rfl, ⟨a, dx, rfl, ha⟩, k⟩ := h
    refine ⟨_, pss_one (ps_ret (pe_tup (pa_cons (pe_fld (pv 0) rfl) (pa_cons (pe_fld (pv 0) rfl) pa_nil)))), ?_⟩
    refine ⟨_, rfl, a, C, dx, _, _, rfl, ha, T.cl, T.nX, ptF_x _ _, _, rfl, a, C, dx, _, _, rfl, ha, T.cl, T.nY, ptF_y _ _, (by show 2 ≤ sizeLine; decide), fun t nt => ?_⟩
    exact k t _ nt (same_new nt) upd_same
theorem ok_as_pointN (D : Defs K mg C fW fI fP fA fO fdW fdI fdP fdA fdO) (TX : TxtX P K mg C CI fII) : FnOk P w K mg base (L2N.CX P w) 3 fA fdA ["thing"] (spBadX CI) := by
  have GP : FnOk P w K mg base CX0 2 fP fdP ["thing"] (spIsPointX C) := ok_is_pointX D TX
  refine D.FA.okN scAsPoint (fun vs H Q E h => ?_) (fun cdv A outer s H vs Q E hr h => ?_)
  · obtain ⟨v, rfl, _⟩ := h
    rfl
  · obtain ⟨v, rfl, bad, k⟩ := h
    refine ⟨_, pss_cons (ps_if (pt_not (pt_val (pe_call GP hr rfl D.mP D.FP.kp D.bP .nil pass0 (pa_cons (pv 0) pa_nil))))
        (pss_one (ps_raiseN_thing (W := fun cls d _ H => E cls d H) rfl TX.xI TX.gI hr (L2N.takes_of rfl rfl rfl rfl) (pa_cons (pv 0) pa_nil))) pss_nil)
      (pss_cons ps_never (pss_one ps_never)), ?_⟩
    refine ⟨_, rfl, v, rfl, bad, false, rfl, ?_⟩
    refine iteT ?_
    exact ⟨_, rfl, _, rfl, fun d nd => k d _ (same_new nd) upd_same⟩
theorem ok_tinitN (d : TDefs K mg C CT fS fTI fCo fEd fAr fEq fAd pAr fdS fdTI fdCo fdEd fdAr fdEq fdAd) (D : Defs K mg C fW fI fP fA fO fdW fdI fdP fdA fdO) (TX : TxtX P K mg C CI fII) (TF : TxtF P K mg CL fLI) :
    FnOk P w K mg base (L2N.CX P w) 8 fTI fdTI ["self", "a", "b", "c"] (spTInitX C CT CI CL) := by
  have GA : FnOk P w K mg base (L2N.CX P w) 4 fA fdA ["thing"] (fun vs H Q E => spAsPoint C vs H Q E ∨ spBadX CI vs H Q E) := (FnOk.up D.GA).or (FnOk.lift (ok_as_pointN D TX) (by decide))
  have GS : FnOk P w K mg base CX0 7 fS fdS ["a", "b", "point"] (spSide C) := ok_side d.FS D
  refine d.FTI.okN scTInit (fun vs H Q E h => ?_) (fun cdv A outer s H vs Q E hr h => ?_)
  · obtain ⟨p, dx, u, v, w, rfl, _⟩ := h
    rfl
  · obtain ⟨p, dx, u, v, w, rfl, hp, h⟩ := h
    have hr4 : Room 4 _ := hr.mono (by decide)
    refine ⟨_, pss_cons (ps_set (i := 4) scTInit.nd rfl (Or.inl rfl) (pe_call (E := E) GA hr4 rfl D.mA D.FA.kp D.bA .nil (L2N.passes_call (L2N.takes_of rfl rfl rfl rfl) fun _ _ _ _ h => h) (pa_cons (pv 1) pa_nil)))
      (pss_cons (ps_set (i := 5) scTInit.nd rfl (Or.inl rfl) (pe_call (E := E) GA hr4 rfl D.mA D.FA.kp D.bA .nil (L2N.passes_call (L2N.takes_of rfl rfl rfl rfl) fun _ _ _ _ h => h) (pa_cons (pv 2) pa_nil)))
      (pss_cons (ps_set (i := 6) scTInit.nd rfl (Or.inl rfl) (pe_call (E := E) GA hr4 rfl D.mA D.FA.kp D.bA .nil (L2N.passes_call (L2N.takes_of rfl rfl rfl rfl) fun _ _ _ _ h => h) (pa_cons (pv 3) pa_nil)))
      (pss_cons (ps_set (i := 7) scTInit.nd rfl (Or.inl rfl) (pe_call GS (hr.mono (by decide)) rfl d.mS d.FS.kp d.bS .nil pass0 (pa_cons (pv 4) (pa_cons (pv 5) (pa_cons (pv 6) pa_nil)))))
      (pss_cons (ps_if (pt_cmpR op_eq (pv 7) pe_int (nomark _)) (pss_one (ps_raiseN_three (W := fun cls d _ H => E cls d H) rfl TF.xL TF.gL hr (L2N.takes_of rfl rfl rfl rfl) (pa_cons (pe_tup (pa_cons (pv 4) (pa_cons (pv 5) (pa_cons (pv 6) pa_nil)))) pa_nil))) pss_nil)
      (pss_one ps_never))))), ?_⟩
    rcases h with ⟨n, a, b, c, hu, hv, hw, n1, sa, sb, sc, z0, k⟩ | ⟨bad, k⟩ | ⟨a, hu, bad, k⟩
    · refine ⟨_, rfl, .inl ⟨u, a.1, a.2, rfl, hu, fun w1 H1 e1 h1 _ => ?_⟩⟩
      refine ⟨_, rfl, .inl ⟨v, b.1, b.2, rfl, hv.ex e1, fun w2 H2 e2 h2 _ => ?_⟩⟩
      refine ⟨_, rfl, .inl ⟨w, c.1, c.2, rfl, (hw.ex e1).ex e2, fun w3 H3 e3 h3 _ => ?_⟩⟩
      have t1 := (h1.ex e2).ex e3
      have t2 := h2.ex e3
      refine ⟨_, rfl, _, rfl, _, rfl, n, w1, w2, w3, a.1, a.2, b.1, b.2, c.1, c.2, rfl, t1.pt, t2.pt, h3.pt, n1, sa.1, sa.2, sb.1, sb.2, sc.1, sc.2, fun H4 e4 => ?_⟩
      have e := ((e1.trans e2).trans e3).trans e4
      refine ⟨_, rfl, rfl, _, rfl, ?_⟩
      rw [int_eqT (show sideI a.1 a.2 b.1 b.2 c.1 c.2 = 0 from z0)]
      refine iteT ?_
      refine ⟨_, rfl, _, rfl, _, rfl, (by show 3 ≤ sizeLine; decide), fun t nt => ⟨_, rfl, fun dd nd => ?_⟩⟩
      have g1 := same_new (o := .tup [w1, w2, w3]) nt
      have g2 := same_new (o := XD3 (.ref t)) nd
      exact k dd t w1 w2 w3 _ (e.trans (g1.trans g2)) upd_same (g2 _ _ upd_same) (Three.ex (e4.trans (g1.trans g2)) ⟨t1, t2, h3⟩)
    · exact ⟨_, rfl, .inr ⟨u, rfl, bad, k⟩⟩
    · refine ⟨_, rfl, .inl ⟨u, a.1, a.2, rfl, hu, fun w1 H1 e1 h1 _ => ?_⟩⟩
      exact ⟨_, rfl, .inr ⟨v, rfl, bad.ex e1, fun dd H' e' hd => k dd H' (e1.trans e') hd⟩⟩
end
end Fo

set_option Elab.async false
set_option linter.all false
set_option maxRecDepth 100000
set_option maxHeartbeats 2000000
namespace Fo
open PySem L2
/-- what the top says of the errors besides -/
structure RTx3 (P : Program) (K : PySem.W.Frag) (mg : Str → Option Value) (C CI fII CL fLI CF : Addr) : Prop where
  TX : TxtX P K mg C CI fII
  TF : TxtF P K mg CL fLI
  gF : mg "FillError" = some (.ref CF)
  exI : PySem.W.exmOne K (.ref CI) (.ref CF) = some true
  exL : PySem.W.exmOne K (.ref CL) (.ref CF) = some true
  isI : XIsC K CI
  isL : XIsC K CL
  kLL : PySem.W.kitOne K (.ref CL) (.ref CL) = some true
  kIL : PySem.W.kitOne K (.ref CI) (.ref CL) = some false
  kII : PySem.W.kitOne K (.ref CI) (.ref CI) = some true
  zR : mg "repr" = none
def Flt (C : Addr) (u v w : V) (a b c : I2) (H : Hp) : Prop := IsPt2 C u a H ∧ IsPt2 C v b H ∧ IsPt2 C w c H ∧ ∃ n, n < 1000 ∧ Sm2 n a ∧ Sm2 n b ∧ Sm2 n c ∧ sd a b c = 0
def spRef (C : Addr) (K : PySem.W.Frag) : Sp := fun vs H Q _ => ∃ (th : Addr) (u v w : V), vs = [.ref th] ∧ H th = some (.tup [u, v, w]) ∧
  ((∃ a b c, Flt C u v w a b c H ∧ ∀ t l q1 q2 q3 H', Same H H' → H' t = some (.tup [.str "flat", .ref l]) → H' l = some (.lst [.ref q1, .ref q2, .ref q3]) → T3 H' q1 q2 q3 a b c → Q (.ref t) H') ∨
   (∃ (o : V) (d : PyData), (u = o ∨ (v = o ∧ ∃ a, IsPt2 C u a H)) ∧ Bad H o ∧ Dp K H o d ∧ ShowsOk d ∧ ∀ t H', Same H H' → H' t = some (.tup [.str "point", .str d.shown]) → Q (.ref t) H'))
section
variable {P : Program} {w : World} {K : PySem.W.Frag} {mg : Str → Option Value} {base : Heap}
variable {C fW fI fP fA fO CT fS fTI fCo fEd fAr fEq fAd pAr CI fII CL fLI CF fPm : Addr} {fdW fdI fdP fdA fdO fdS fdTI fdCo fdEd fdAr fdEq fdAd fdPm : FuncData}
theorem scRef : FnScope ["things", "e", "point"] ["things"] (defScope sRef) := ⟨rfl, rfl, rfl, by decide +kernel, rfl, by decide +kernel, by decide +kernel⟩
theorem ok_ref {f : Addr} {fd : FuncData} (F : Fun K "_law_refused" "_law_refused" sRef f fd) (d : TDefs K mg C CT fS fTI fCo fEd fAr fEq fAd pAr fdS fdTI fdCo fdEd fdAr fdEq fdAd) (D : Defs K mg C fW fI fP fA fO fdW fdI fdP fdA fdO) (R : RTx3 P K mg C CI fII CL fLI CF)
    (FPm : Fun K "pair" "Point.pair" sPairM fPm fdPm) (bPm : Binds K fdPm ["self"] []) (mPm : Meth K C "pair" fPm) : FnG P w K mg base CX0 10 f fd ["things"] (spRef C K) := by
  have GT : FnOk P w K mg base (L2N.CX P w) 8 fTI fdTI ["self", "a", "b", "c"] (spTInitX C CT CI CL) := ok_tinitN d D R.TX R.TF
  have GM : L2H.FnH P w K mg base CX0 1 fPm fdPm ["self"] (spPairM C) := ok_pairH FPm D.T
  have T := D.T
  refine F.okG scRef (fun vs H Q E h => ?_) (fun cdv A outer s H vs Q E hgd hr h => ?_)
  · obtain ⟨th, u, v, w, rfl, _⟩ := h
    rfl
  · obtain ⟨th, u, v, w', rfl, hth, hc⟩ := h
    have hu : (A.deeper (PyProof.Rows.envOfC (Str.ofString "_law_refused") (defScope sRef) s.heap.objs.size f cdv)).units + 64 < cLine := by
      have := hr.un
      omega
    have rH : ∀ a : Addr, L2H.RoomH 1 ((A.deeper (PyProof.Rows.envOfC (Str.ofString "_law_refused") (defScope sRef) s.heap.objs.size f cdv)).mark (some (.ref a))) := fun a => ⟨(hr.mono (by decide : 1 ≤ 9)).dp, (hr.mono (by decide : 1 ≤ 9)).un⟩
    have cR : ∀ (a : Addr) (pn : List (Addr × Obj)), CallR ((cxOf CX0 P w K mg base ["things", "e", "point"] "_law_refused" (defScope sRef) f cdv A outer s H E).nox.suite a pn) (.builtin "repr") (rReprD K) := fun a pn => call_reprD hgd hu
    have hot : ∀ {a : Addr} {oe : Obj} {cls : Value} {dd : Option Addr} {pn : List (Addr × Obj)}, L2N.Zn cls dd oe → (∃ vs, oe.data = .fields vs) → L2H.Hot1 ((cxOf CX0 P w K mg base ["things", "e", "point"] "_law_refused" (defScope sRef) f cdv A outer s H E).nox.suite a ((a, oe) :: pn)).A (a, oe) := fun {a oe cls dd pn} hz hf => by
      obtain ⟨vs, e⟩ := hf
      exact ⟨rfl, vs, e, hz.2.2 vs e⟩
    have hT : ∃ (tb : WX → TS) (ts : Addr → Value → Option Addr → TS), PS (cxOf CX0 P w K mg base ["things", "e", "point"] "_law_refused" (defScope sRef) f cdv A outer s H E).nox ((defBody sRef).getD 0 (.Pass ⟨0, 0, 0, 0⟩)) (fun D σ H => tb (wAs K (.ref CF) 1 ts (fun _ _ _ _ => False) D) D σ H) ∧
        (∀ (W : WX) (D' : Ends) (a b c : I2), Flt C u v w' a b c H → (∀ dd t v1 v2 v3 H', Same H H' → H' dd = some (XD3 (.ref t)) → H' t = some (.tup [v1, v2, v3]) → Three C v1 v2 v3 a b c H' → EW W 3 (.ref CL) (some dd) H') → tb W D' (start ["things", "e", "point"] [.ref th]) H) ∧
        (∀ (W : WX) (D' : Ends) (o : V), (u = o ∨ (v = o ∧ ∃ a, IsPt2 C u a H)) → Bad H o → (∀ dd H', Same H H' → H' dd = some (XD o) → EW W 3 (.ref CI) (some dd) H') → tb W D' (start ["things", "e", "point"] [.ref th]) H) ∧
        (∀ (x dd t : Addr) (v1 v2 v3 : V) (a b c : I2) (σ : L2.St) (H' : Hp) (D' : Ends), σ.length = 3 → σ[1]? = some (some (.ref x)) → H' dd = some (XD3 (.ref t)) → H' t = some (.tup [v1, v2, v3]) → Three C v1 v2 v3 a b c H' →
          (∀ t2 l q1 q2 q3 H2, Same H' H2 → H2 t2 = some (.tup [.str "flat", .ref l]) → H2 l = some (.lst [.ref q1, .ref q2, .ref q3]) → T3 H2 q1 q2 q3 a b c → D'.rt (.ref t2) H2) → ts x (.ref CL) (some dd) D' σ H') ∧
        (∀ (x dd : Addr) (o : V) (e : PyData) (σ : L2.St) (H' : Hp) (D' : Ends), σ[1]? = some (some (.ref x)) → H' dd = some (XD o) → Dp K H' o e → ShowsOk e → (∀ t H2, Same H' H2 → H2 t = some (.tup [.str "point", .str e.shown]) → D'.rt (.ref t) H2) → ts x (.ref CI) (some dd) D' σ H') := by
      refine ⟨_, _, L2N.ps_try_as (i := 1) (c := .ref CF) (Wout := fun _ _ _ _ => False) rfl rfl scRef.nd rfl rfl ⟨rfl, by decide, .inl R.gF⟩ (fun _ _ z => by obtain ⟨_, _, _, _, _, _, _, _, _, _, _, _, _, _, _, _, z⟩ := z; exact z.elim)
        (fun W pn xe tk po => pss_one (ps_expr (pe_make (E := EW W 3) d.MT GT hr rfl d.TT.mgT d.bTI .nil (passesWN tk rfl) (pa_cons (pe_ix (ix_tupK (K := K) rfl) (pv 0) pe_int (fun _ _ => rfl)) (pa_cons (pe_ix (ix_tupK (K := K) rfl) (pv 0) pe_int (fun _ _ => rfl)) (pa_cons (pe_ix (ix_tupK (K := K) rfl) (pv 0) pe_int (fun _ _ => rfl)) pa_nil))))))
        (fun a oe cls dd pn hz hf => pss_cons (ps_if (pt_val (pe_callB (call_isX hz.zc hf) (by rfl) T.isi (by decide +kernel) (pa_cons (pv 1) (pa_cons (pe_glob (v := .ref CL) rfl R.TF.gL rfl) pa_nil))))
            (pss_one (ps_ret (pe_tup (pa_cons pe_str (pa_cons (pe_lcHot (p := (a, oe)) (own := [("point", 2)]) (g := gName 2) (hot hz hf) List.mem_cons_self scRef.nd (pe_by_three R.TF.xL hz.zc hf (pv 1))
              (blkOk_by (own := [("point", 2)]) (N := ["things", "e", "point"]) (sc := defScope sRef) (by decide +kernel)) (fun _ _ _ _ _ => pg_name (i := 2) scRef.nd rfl (Or.inl rfl))
              (fun _ _ _ _ _ => pe_methH0 (E := fun _ => E0) (pv 2) T.cl mPm GM (rH a) ⟨(a, oe), hot (pn := pn) hz hf, List.mem_singleton.mpr rfl⟩ bPm (fun _ _ _ _ _ _ _ z => z.elim))) pa_nil))))) pss_nil)
          (pss_one (ps_ret (pe_tup (pa_cons pe_str (pa_cons (pe_and (pe_callB (call_isX hz.zc hf) (by rfl) T.isi (by decide +kernel) (pa_cons (pv 1) (pa_cons (pe_glob (v := .ref CI) rfl R.TX.gI rfl) pa_nil)))
            (pe_one (pe_callB (cR a ((a, oe) :: pn)) (by rfl) R.zR (by decide +kernel) (pa_cons (pe_by_thing R.TX.xI hz.zc hf (pv 1)) pa_nil)))) pa_nil)))))), ?_, ?_, ?_, ?_⟩
      · rintro W D' a b c ⟨hu', hv, hw, n, n1, sa, sb, sc, z0⟩ hW
        refine ⟨_, rfl, th, _, _, _, rfl, rfl, SqT.of hth, atI_nat (j := 0) rfl, _, rfl, th, _, _, _, rfl, rfl, SqT.of hth, atI_nat (j := 1) rfl, _, rfl, th, _, _, _, rfl, rfl, SqT.of hth, atI_nat (j := 2) rfl, fun x dx nx ndx ne => ?_⟩
        have g : Same H (upd (upd H dx (.own x)) x (.ins CT dx [])) := (same_new ndx).trans (same_new (by rw [upd_ne ne.symm]; exact nx))
        exact ⟨x, dx, u, v, w', rfl, upd_same, .inl ⟨n, a, b, c, hu'.ex g, hv.ex g, hw.ex g, n1, sa, sb, sc, z0, fun dd t v1 v2 v3 H' e' h1 h2 h3 => hW dd t v1 v2 v3 H' (g.trans e') h1 h2 h3⟩⟩
      · intro W D' o ho bad hW
        refine ⟨_, rfl, th, _, _, _, rfl, rfl, SqT.of hth, atI_nat (j := 0) rfl, _, rfl, th, _, _, _, rfl, rfl, SqT.of hth, atI_nat (j := 1) rfl, _, rfl, th, _, _, _, rfl, rfl, SqT.of hth, atI_nat (j := 2) rfl, fun x dx nx ndx ne => ?_⟩
        have g : Same H (upd (upd H dx (.own x)) x (.ins CT dx [])) := (same_new ndx).trans (same_new (by rw [upd_ne ne.symm]; exact nx))
        rcases ho with rfl | ⟨rfl, a, ha⟩
        · exact ⟨x, dx, u, v, w', rfl, upd_same, .inr (.inl ⟨bad.ex g, fun dd H' e' h1 => hW dd H' (g.trans e') h1⟩)⟩
        · exact ⟨x, dx, u, v, w', rfl, upd_same, .inr (.inr ⟨a, ha.ex g, bad.ex g, fun dd H' e' h1 => hW dd H' (g.trans e') h1⟩)⟩
      · intro x dd t v1 v2 v3 a b c σ H' D' hl hσ hd ht h3 kk
        refine ⟨_, hσ, CL, dd, _, _, _, true, rfl, rfl, rfl, hd, .own CL, R.isL, R.kLL, true, rfl, ?_⟩
        refine iteT ?_
        refine ⟨_, hσ, rfl, rfl, dd, .ref t, rfl, hd, t, [v1, v2, v3], rfl, ht, fun D0 nD => ?_⟩
        refine ⟨fun i H2 => Same H' H2 ∧ ∃ qs : List Addr, H2 D0 = some (.lst (qs.map V.ref)) ∧ qs.length = i ∧ ∀ j q, qs[j]? = some q → Tp H2 q (if j = 0 then a else if j = 1 then b else c), ⟨same_new nD, [], upd_same, rfl, fun j q h => by simp at h⟩, ?_, ?_⟩
        · rintro i H2 y ⟨e2, qs, hq, hlen, hT⟩ hy
          have lt : i < 3 := (List.getElem?_eq_some_iff.mp hy).1
          refine ⟨?_, ?_⟩
          · show ((σ.set 2 none).set 2 (some y)).set 2 none = σ.set 2 none
            rw [List.set_set, List.set_set]
          have hy2 : ((wipe σ [2]).set 2 (some y))[2]? = some (some y) := by
            rw [List.getElem?_set_self]
            show 2 < (σ.set 2 none).length
            rw [List.length_set]
            omega
          have h32 := h3.ex e2
          have one : ∀ (pt : I2), IsP C y pt.1 pt.2 H2 → (if i = 0 then a else if i = 1 then b else c) = pt → L2H.tMethH C "pair" (spPairM C) (fun _ => E0) (tVar 2) tNil ((wipe σ [2]).set 2 (some y)) H2 fun z H4 => ∃ acc, H4 D0 = some (.lst acc) ∧ acc.length < sizeLine ∧ Same H' (upd H4 D0 (.lst (acc ++ [z]))) ∧ ∃ qs : List Addr, (upd H4 D0 (.lst (acc ++ [z]))) D0 = some (.lst (qs.map V.ref)) ∧ qs.length = i + 1 ∧ ∀ j q, qs[j]? = some q → Tp (upd H4 D0 (.lst (acc ++ [z]))) q (if j = 0 then a else if j = 1 then b else c) := fun pt hpt ept => by
            obtain ⟨q0, d0, rfl, hq0⟩ := id hpt
            refine ⟨_, hy2, q0, d0, _, rfl, hq0, pair_no _ _, _, _, _, rfl, hpt, fun q H4 nq e4 hq4 => ?_⟩
            have hD4 := e4 _ _ hq
            refine ⟨_, hD4, Nat.lt_of_lt_of_le (by rw [List.length_map]; omega : _ < 4) (by decide), But.upd.same nD (e2.trans e4), qs ++ [q], ?_, by rw [List.length_append, hlen]; rfl, fun j q' hj => ?_⟩
            · rw [upd_same, List.map_append]
              rfl
            · have nD4 : ∀ {q' : Addr} {pp : I2}, Tp H4 q' pp → Tp (upd H4 D0 (.lst (qs.map V.ref ++ [V.ref q]))) q' pp := fun {q' pp} hq' => by
                show upd _ _ _ _ = _
                rw [upd_ne (ne_of hq' hD4 (by intro z; cases z))]
                exact hq'
              by_cases hj2 : j < qs.length
              · rw [List.getElem?_append_left hj2] at hj
                exact nD4 (e4 _ _ (hT j q' hj))
              · have hj3 : j = qs.length := by
                  have := (List.getElem?_eq_some_iff.mp hj).1
                  rw [List.length_append] at this
                  simp at this
                  omega
                subst hj3
                rw [List.getElem?_append_right (Nat.le_refl _)] at hj
                simp at hj
                subst hj
                rw [hlen, ept]
                exact nD4 hq4
          rcases two3 hy with ⟨rfl, rfl⟩ | ⟨rfl, rfl⟩ | ⟨rfl, rfl⟩
          · exact one a h32.1 rfl
          · exact one b h32.2.1 rfl
          · exact one c h32.2.2 rfl
        · rintro H2 ⟨e2, qs, hq, hlen, hT⟩
          match qs, hlen with
          | [q1, q2, q3], _ =>
            refine ⟨(by show 2 ≤ sizeLine; decide), fun t2 nt2 => ?_⟩
            have g := same_new (o := .tup [.str "flat", .ref D0]) nt2
            exact kk t2 D0 q1 q2 q3 _ (e2.trans g) upd_same (g _ _ hq) ⟨g _ _ (hT 0 q1 rfl), g _ _ (hT 1 q2 rfl), g _ _ (hT 2 q3 rfl)⟩
      · intro x dd o e σ H' D' hσ hd hdp sh kk
        refine ⟨_, hσ, CI, dd, _, _, _, false, rfl, rfl, rfl, hd, .own CL, R.isI, R.kIL, false, rfl, ?_⟩
        refine iteF ?_
        refine ⟨_, hσ, CI, dd, _, _, _, true, rfl, rfl, rfl, hd, .own CI, R.isI, R.kII, true, rfl, ?_⟩
        refine iteT ?_
        refine ⟨_, hσ, rfl, rfl, dd, o, rfl, hd, o, e, rfl, hdp, sh.s, sh.nd, sh.dp, sh.z, (by show 2 ≤ sizeLine; decide), fun t nt => ?_⟩
        exact kk t _ (same_new nt) upd_same
    obtain ⟨tb, ts, hPS, hA, hB, sA, sB⟩ := hT
    refine ⟨_, pss_cons hPS (pss_one (ps_ret pe_non)), ?_⟩
    rcases hc with ⟨a, b, c, hfl, k⟩ | ⟨o, e, ho, bad, hdp, sh, k⟩
    · refine hA _ _ a b c hfl fun dd t v1 v2 v3 H' e' h1 h2 h3 σ hσ => ⟨true, R.exL, fun _ x nx => ?_, fun z => nomatch z⟩
      refine sA x dd t v1 v2 v3 a b c _ H' _ ?_ ?_ h1 h2 h3 fun t2 l q1 q2 q3 H2 e2 g1 g2 g3 => k t2 l q1 q2 q3 H2 (e'.trans e2) g1 g2 g3
      · rw [List.length_set]
        exact hσ
      · rw [List.getElem?_set_self (by omega)]
    · refine hB _ _ o ho bad fun dd H' e' h1 σ hσ => ⟨true, R.exI, fun _ x nx => ?_, fun z => nomatch z⟩
      refine sB x dd o e _ H' _ ?_ h1 (Dp.ex e' e o hdp) sh fun t H2 e2 g1 => k t H2 (e'.trans e2) g1
      rw [List.getElem?_set_self (by omega)]
end
end Fo

set_option Elab.async false
set_option linter.all false
set_option maxRecDepth 100000
set_option maxHeartbeats 2000000
namespace Fo
open PySem L2
/-! ### small facts of the law -/
theorem sd_rot (a b c : I2) : sd b c a = sd a b c := by
  unfold sd sideI
  grind
theorem sd_swap (a b c : I2) : sd a c b = - sd a b c := by
  unfold sd sideI
  grind
theorem sd_swap2 (a b c : I2) : sd b a c = - sd a b c := by
  unfold sd sideI
  grind
theorem sd_aab (a b : I2) : sd a a b = 0 := by
  unfold sd sideI
  grind
theorem sd_aba (a b : I2) : sd a b a = 0 := by
  unfold sd sideI
  grind
theorem sd_abb (a b : I2) : sd a b b = 0 := by
  unfold sd sideI
  grind
/-- the fourth corner, and the one behind b -/
def far (a b c : I2) : I2 := (c.1 + b.1 - a.1, c.2 + b.2 - a.2)
def beh (a b : I2) : I2 := (b.1 * 2 - a.1, b.2 * 2 - a.2)
theorem sd_far (a b c : I2) : sd a b (far a b c) = sd a b c := by
  unfold sd sideI far
  grind
theorem sd_beh (a b : I2) : sd a b (beh a b) = 0 := by
  unfold sd sideI beh
  grind
theorem ne_ab {a b c : I2} (h : 0 < sd a b c) : a ≠ b := fun e => by
  subst e
  rw [sd_aab] at h
  omega
theorem ne_ac {a b c : I2} (h : 0 < sd a b c) : a ≠ c := fun e => by
  subst e
  rw [sd_aba] at h
  omega
theorem on1 {a b c : I2} (h : 0 < sd a b c) : onB a b c = b ∧ onC a b c = c := by
  unfold onB onC
  rw [if_pos h, if_pos h]
  exact ⟨rfl, rfl⟩
theorem on2 {a b c : I2} (h : 0 < sd a b c) : onB a c b = b ∧ onC a c b = c := by
  unfold onB onC
  rw [sd_swap, if_neg (by omega), if_neg (by omega)]
  exact ⟨rfl, rfl⟩
theorem on3 {a b c : I2} (h : 0 < sd a b c) : onB b a c = c ∧ onC b a c = a := by
  unfold onB onC
  rw [sd_swap2, if_neg (by omega), if_neg (by omega)]
  exact ⟨rfl, rfl⟩
theorem inT_rot (a b c p : I2) : inT b c a p = inT a b c p := by
  unfold inT
  cases decide (0 ≤ sd b c p) <;> cases decide (0 ≤ sd c a p) <;> cases decide (0 ≤ sd a b p) <;> rfl
theorem inT_a {a b c : I2} (h : 0 < sd a b c) : inT a b c a = true := by
  unfold inT
  rw [sd_aba, sd_rot, sd_abb, decide_eq_true (by omega : (0 : Int) ≤ 0), decide_eq_true (by omega : 0 ≤ sd a b c)]
  rfl
theorem eqT_1 (a b c : I2) : eqT a b c c a b = true := by simp [eqT, hasE]
theorem eqT_2 (a b c : I2) : eqT b c a c a b = true := by simp [eqT, hasE]
theorem eqT_3 (a b c : I2) : eqT b c a a b c = true := by simp [eqT, hasE]
theorem eqT_far {a b c : I2} (h : 0 < sd a b c) : eqT b c a a b (far a b c) = false := by
  have h1 := ne_ab h
  have h2 := ne_ac h
  have h3 : ¬ far a b c = c := fun e => h1 (by
    have e1 := congrArg Prod.fst e
    have e2 := congrArg Prod.snd e
    unfold far at e1 e2
    simp at e1 e2
    exact Prod.ext (by omega) (by omega))
  simp [eqT, hasE, h1, h2, h3]
theorem pD_eqv (p q : I2) : PyData.eqv (pD p) (pD q) = decide (p = q) := by
  rw [← i2_dec]
  by_cases h1 : p.1 = q.1 <;> by_cases h2 : p.2 = q.2 <;> simp [pD, PyData.eqv, PyData.eqvAll, h1, h2]
theorem t3_eqv (a b c d e f : I2) : PyData.eqv (.tuple [pD a, pD b, pD c]) (.tuple [pD d, pD e, pD f]) = (decide (a = d) && (decide (b = e) && decide (c = f))) := by
  simp [PyData.eqv, PyData.eqvAll, pD_eqv]
theorem t3_sh (a b c : I2) : SeqAt.shaped (.tuple [pD a, pD b, pD c]) = true := rfl
theorem tp_dp' {K : PySem.W.Frag} {H : Hp} {q : Addr} {p : I2} (h : Tp H q p) : Dp K H (.ref q) (pD p) := .tup (SqT.of h) (.cons (.int _) (.cons (.int _) .nil))
theorem sh_self {d : PyData} (h : SeqAt.shaped d = true) : PyData.eqv d d = true := SeqAt.eqv_refl d (SeqAt.canLay_of_shaped h)
def l3 (a b c : I2) : PyData := .list [pD a, pD b, pD c]
theorem l3_sh (a b c : I2) : SeqAt.shaped (l3 a b c) = true := rfl
theorem l3_dp {K : PySem.W.Frag} {H : Hp} {l qa qb qc : Addr} {a b c : I2} (hl : H l = some (.lst [.ref qa, .ref qb, .ref qc])) (t : T3 H qa qb qc a b c) : Dp K H (.ref l) (l3 a b c) := .lst (SqL.of hl) (.cons (tp_dp' t.a) (.cons (tp_dp' t.b) (.cons (tp_dp' t.c) .nil)))
def w2 (a b : I2) : PyData := .tuple [pD a, pD b]
def w3 (a b c : I2) : PyData := .list [w2 a b, w2 b c, w2 c a]
theorem w3_sh (a b c : I2) : SeqAt.shaped (w3 a b c) = true := rfl
theorem w2_dp {K : PySem.W.Frag} {H : Hp} {e qa qb : Addr} {a b : I2} (he : H e = some (.tup [.ref qa, .ref qb])) (ha : Tp H qa a) (hb : Tp H qb b) : Dp K H (.ref e) (w2 a b) := .tup (SqT.of he) (.cons (tp_dp' ha) (.cons (tp_dp' hb) .nil))
def fl (a b c : I2) : PyData := .tuple [.str "flat", l3 a b c]
theorem fl_sh (a b c : I2) : SeqAt.shaped (fl a b c) = true := by
  have h1 : PyData.canLay0 (.str "flat") = true := by decide +kernel
  have h2 : PyData.canLay0 (fl a b c) = (PyData.canLay0 (.str "flat") && true) := rfl
  have h3 : (fl a b c).depth = (fl (0, 0) (0, 0) (0, 0)).depth := rfl
  show (PyData.canLay0 (fl a b c) && decide ((fl a b c).depth ≤ 64)) = true
  rw [h2, h1, h3]
  decide +kernel
def po (z : Str) : PyData := .tuple [.str "point", .str z]
theorem bl_ne (x y : Bool) : decide (V.bl x = V.bl y) = decide (x = y) := by
  cases x <;> cases y <;> rfl
/-- what is drawn of the odd ones -/
def OddOne (K : PySem.W.Frag) (H : Hp) (v : V) : Prop := ∃ d, Bad H v ∧ Dp K H v d ∧ ShowsOk d ∧ SeqAt.shaped (po d.shown) = true
theorem OddOne.ex {K : PySem.W.Frag} {H H' : Hp} {v : V} (e : Same H H') (h : OddOne K H v) : OddOne K H' v := by
  obtain ⟨d, b, p, s⟩ := h
  exact ⟨d, b.ex e, Dp.ex e d v p, s⟩
theorem odd_none {K : PySem.W.Frag} {H : Hp} : OddOne K H .non := ⟨.none, .non, .non, ⟨rfl, rfl, by decide, by decide +kernel⟩, by decide +kernel⟩
theorem odd_7 {K : PySem.W.Frag} {H : Hp} : OddOne K H (.int 7) := ⟨.int 7, .int 7, .int 7, ⟨rfl, rfl, by decide, by decide +kernel⟩, by decide +kernel⟩
theorem odd_1 {K : PySem.W.Frag} {H : Hp} {t : Addr} (h : H t = some (.tup [.int 1])) : OddOne K H (.ref t) := ⟨.tuple [.int 1], .tup h (by decide), .tup (SqT.of h) (.cons (.int 1) .nil), ⟨rfl, rfl, by decide, by decide +kernel⟩, by decide +kernel⟩
theorem odd_1s {K : PySem.W.Frag} {H : Hp} {t : Addr} (h : H t = some (.tup [.int 1, .str "2"])) : OddOne K H (.ref t) := ⟨.tuple [.int 1, .str "2"], .two h trivial trivial rfl, .tup (SqT.of h) (.cons (.int 1) (.cons (.str _) .nil)), ⟨rfl, rfl, by decide, by decide +kernel⟩, by decide +kernel⟩
theorem odd_t1 {K : PySem.W.Frag} {H : Hp} {t : Addr} (h : H t = some (.tup [.bl true, .int 1])) : OddOne K H (.ref t) := ⟨.tuple [.bool true, .int 1], .two h trivial trivial rfl, .tup (SqT.of h) (.cons (.bl true) (.cons (.int 1) .nil)), ⟨rfl, rfl, by decide, by decide +kernel⟩, by decide +kernel⟩
/-- the pool and the three pairs -/
structure Cor (H0 : Hp) (pl qa qb qc : Addr) (a b c : I2) (H : Hp) : Prop where
  base : Same H0 H
  pool : PoolAt pl H
  t : T3 H qa qb qc a b c
theorem Cor.ex {H0 : Hp} {pl qa qb qc : Addr} {a b c : I2} {H H' : Hp} (h : Cor H0 pl qa qb qc a b c H) (e : Same H H') : Cor H0 pl qa qb qc a b c H' := ⟨h.base.trans e, h.pool.ex e, h.t.ex e⟩
theorem Cor.but {H0 : Hp} {pl qa qb qc : Addr} {a b c : I2} {H H' : Hp} (h : Cor H0 pl qa qb qc a b c H) (h0 : H0 pl = none) (b' : But pl H H') (p : PoolAt pl H') : Cor H0 pl qa qb qc a b c H' :=
  ⟨b'.same h0 h.base, p, ⟨b' _ _ (tup_ne h.pool h.t.a) h.t.a, b' _ _ (tup_ne h.pool h.t.b) h.t.b, b' _ _ (tup_ne h.pool h.t.c) h.t.c⟩⟩
theorem IsP.butP {C pl : Addr} {v : V} {x y : Int} {H H' : Hp} (p : PoolAt pl H) (b : But pl H H') (h : IsP C v x y H) : IsP C v x y H' := by
  obtain ⟨i, j, hp, _⟩ := p
  exact h.but hp b
theorem IsT.butP {C CT pl : Addr} {v : V} {a b c : I2} {H H' : Hp} (p : PoolAt pl H) (bt : But pl H H') (h : IsT C CT v a b c H) : IsT C CT v a b c H' := by
  obtain ⟨t, dx, l, v1, v2, v3, rfl, h1, h2, h3⟩ := h
  obtain ⟨i, j, hp, r⟩ := id p
  have n1 : t ≠ pl := ne_of h1 hp (by intro z; cases z)
  have n2 : l ≠ pl := fun e => by
    rw [e, hp] at h2
    injection h2 with h2
    injection h2 with h2
    injection h2 with _ h2
    injection h2 with _ h2
    cases h2
  exact ⟨t, dx, l, v1, v2, v3, rfl, bt _ _ n1 h1, bt _ _ n2 h2, h3.1.butP p bt, h3.2.1.butP p bt, h3.2.2.butP p bt⟩
/-- one of the three that are given, the corners that come of it, and what is due -/
structure Giv (H : Hp) (qa qb qc : Addr) (a b c : I2) (xg x1 x2 x3 y1 y2 y3 : Addr) (p1 p2 p3 u2 u3 : I2) (isb : Bool) : Prop where
  g : H xg = some (.tup [.ref x1, .ref x2, .ref x3])
  t : T3 H x1 x2 x3 p1 p2 p3
  nz : sd p1 p2 p3 ≠ 0
  eB : onB p1 p2 p3 = u2
  eC : onC p1 p2 p3 = u3
  sm : Sm2 5 p1 ∧ Sm2 5 p2 ∧ Sm2 5 p3 ∧ Sm2 5 u2 ∧ Sm2 5 u3
  eq : PyData.eqv (.tuple [pD p1, pD p2, pD p3]) (.tuple [pD b, pD a, pD c]) = isb
  due : (isb = true ∧ y1 = qb ∧ y2 = qc ∧ y3 = qa) ∨ (isb = false ∧ y1 = qa ∧ y2 = qb ∧ y3 = qc)
  td : T3 H y1 y2 y3 p1 u2 u3
  ar : sd p1 u2 u3 = sd a b c
  te : eqT p1 u2 u3 c a b = true
theorem Giv.ex {H H' : Hp} {qa qb qc : Addr} {a b c : I2} {xg x1 x2 x3 y1 y2 y3 : Addr} {p1 p2 p3 u2 u3 : I2} {isb : Bool} (h : Giv H qa qb qc a b c xg x1 x2 x3 y1 y2 y3 p1 p2 p3 u2 u3 isb) (e : Same H H') : Giv H' qa qb qc a b c xg x1 x2 x3 y1 y2 y3 p1 p2 p3 u2 u3 isb :=
  ⟨e _ _ h.g, h.t.ex e, h.nz, h.eB, h.eC, h.sm, h.eq, h.due, h.td.ex e, h.ar, h.te⟩
theorem giv_of {H : Hp} {qa qb qc g1 g2 g3 : Addr} {a b c : I2} (t : T3 H qa qb qc a b c) (pos : 0 < sd a b c) (sa : Sm2 5 a) (sb : Sm2 5 b) (sc : Sm2 5 c) (h1 : H g1 = some (.tup [.ref qa, .ref qb, .ref qc])) (h2 : H g2 = some (.tup [.ref qa, .ref qc, .ref qb])) (h3 : H g3 = some (.tup [.ref qb, .ref qa, .ref qc])) {j : Nat} {v : V} (hv : [V.ref g1, .ref g2, .ref g3][j]? = some v) :
    ∃ xg x1 x2 x3 y1 y2 y3 p1 p2 p3 u2 u3 isb, v = .ref xg ∧ Giv H qa qb qc a b c xg x1 x2 x3 y1 y2 y3 p1 p2 p3 u2 u3 isb ∧ (j = 2 → p1 = b ∧ u2 = c ∧ u3 = a) := by
  have nab := ne_ab pos
  rcases two3 hv with ⟨rfl, rfl⟩ | ⟨rfl, rfl⟩ | ⟨rfl, rfl⟩
  · exact ⟨g1, qa, qb, qc, qa, qb, qc, a, b, c, b, c, false, rfl, ⟨h1, t, by omega, (on1 pos).1, (on1 pos).2, ⟨sa, sb, sc, sb, sc⟩, by rw [t3_eqv, decide_eq_false nab]; rfl, .inr ⟨rfl, rfl, rfl, rfl⟩, t, rfl, eqT_1 a b c⟩, fun z => absurd z (by decide)⟩
  · exact ⟨g2, qa, qc, qb, qa, qb, qc, a, c, b, b, c, false, rfl, ⟨h2, ⟨t.a, t.c, t.b⟩, by rw [sd_swap]; omega, (on2 pos).1, (on2 pos).2, ⟨sa, sc, sb, sb, sc⟩, by rw [t3_eqv, decide_eq_false nab]; rfl, .inr ⟨rfl, rfl, rfl, rfl⟩, t, rfl, eqT_1 a b c⟩, fun z => absurd z (by decide)⟩
  · exact ⟨g3, qb, qa, qc, qb, qc, qa, b, a, c, c, a, true, rfl, ⟨h3, ⟨t.b, t.a, t.c⟩, by rw [sd_swap2]; omega, (on3 pos).1, (on3 pos).2, ⟨sb, sa, sc, sc, sa⟩, by rw [t3_eqv, decide_eq_true rfl, decide_eq_true rfl, decide_eq_true rfl]; rfl, .inl ⟨rfl, rfl, rfl, rfl⟩, ⟨t.b, t.c, t.a⟩, sd_rot a b c, eqT_2 a b c⟩, fun _ => ⟨rfl, rfl, rfl⟩⟩
end Fo

set_option Elab.async false
set_option linter.all false
set_option maxRecDepth 100000
set_option maxHeartbeats 2000000
namespace Fo
open PySem L2
abbrev sLaw : Stmt := top 24
abbrev lawN : List Str := ["script", "k", "pool", "a", "b", "c", "given", "triangle", "due", "ways", "x", "p", "by", "moved", "flat", "odd", "point", "one", "other"]
theorem scLaw : FnScope lawN ["script"] (defScope sLaw) := ⟨rfl, rfl, rfl, by decide +kernel, rfl, by decide +kernel, by decide +kernel⟩
def spLaw (K : PySem.W.Frag) : Sp := fun vs H Q _ => ∃ (a : Addr) (ns : List Int), vs = [.ref a] ∧ SqL K H a (ns.map V.int) ∧ ns.length ≤ 63 ∧ ∀ H', Q (.bl true) H'
/-- the law's own helpers and the other defs, as they stand -/
structure LDefs (P : Program) (K : PySem.W.Frag) (mg : Str → Option Value) (C CT CI fII CL fLI CF fS fTI fCo fEd fAr fEq fAd pAr fH fD fPr fLs fCn fWy fR fWi fTin fTeq fMv fPm : Addr) (fdS fdTI fdCo fdEd fdAr fdEq fdAd fdH fdD fdPr fdLs fdCn fdWy fdR fdWi fdTin fdTeq fdMv fdPm : FuncData) : Prop where
  TL : TxtL mg
  d : TDefs K mg C CT fS fTI fCo fEd fAr fEq fAd pAr fdS fdTI fdCo fdEd fdAr fdEq fdAd
  R : RTx3 P K mg C CI fII CL fLI CF
  FH : Fun K "_law_hand" "_law_hand" sHand fH fdH
  bH : Binds K fdH ["script", "k"] []
  mH : mg "_law_hand" = some (.ref fH)
  FD : Fun K "_law_draw" "_law_draw" sDraw fD fdD
  bD : Binds K fdD ["pool", "many"] []
  mD : mg "_law_draw" = some (.ref fD)
  FPr : Fun K "_law_pair" "_law_pair" sPair fPr fdPr
  bPr : Binds K fdPr ["pool", "size_here"] []
  mPr : mg "_law_pair" = some (.ref fPr)
  FLs : Fun K "_law_side" "_law_side" sLSide fLs fdLs
  bLs : Binds K fdLs ["a", "b", "p"] []
  mLs : mg "_law_side" = some (.ref fLs)
  FCn : Fun K "_law_corners" "_law_corners" sCorn fCn fdCn
  bCn : Binds K fdCn ["pool", "size_here"] []
  mCn : mg "_law_corners" = some (.ref fCn)
  FWy : Fun K "_law_ways" "_law_ways" sWays fWy fdWy
  bWy : Binds K fdWy ["corners_here"] []
  mWy : mg "_law_ways" = some (.ref fWy)
  FR : Fun K "_law_refused" "_law_refused" sRef fR fdR
  bR : Binds K fdR ["things"] []
  mR : mg "_law_refused" = some (.ref fR)
  FWi : Fun K "_law_within" "_law_within" sWithin fWi fdWi
  bWi : Binds K fdWi ["corners_here", "p"] []
  mWi : mg "_law_within" = some (.ref fWi)
  FTin : Fun K "__contains__" "Triangle.__contains__" sTIn fTin fdTin
  bTin : Binds K fdTin ["self", "x"] []
  oTin : OwnIn K CT fTin
  FTeq : Fun K "__eq__" "Triangle.__eq__" sTEq fTeq fdTeq
  bTeq : Binds K fdTeq ["self", "other"] []
  oTeq : OwnEqC K CT fTeq
  nl : PySem.W.notFirst K CT (.type "list") = true
  FMv : Fun K "moved" "Triangle.moved" sMoved fMv fdMv
  bMv : Binds K fdMv ["self", "by"] []
  mMv : Meth K CT "moved" fMv
  FPm : Fun K "pair" "Point.pair" sPairM fPm fdPm
  bPm : Binds K fdPm ["self"] []
  mPm : Meth K C "pair" fPm
section
variable {P : Program} {w : World} {K : PySem.W.Frag} {mg : Str → Option Value} {base : Heap} {C fW fI fP fA fO CT CI fII CL fLI CF fS fTI fCo fEd fAr fEq fAd pAr fH fD fPr fLs fCn fWy fR fWi fTin fTeq fMv fPm : Addr} {fdW fdI fdP fdA fdO fdS fdTI fdCo fdEd fdAr fdEq fdAd fdH fdD fdPr fdLs fdCn fdWy fdR fdWi fdTin fdTeq fdMv fdPm : FuncData}
theorem ok_law {f : Addr} {fd : FuncData} (F : Fun K "law" "law" sLaw f fd) (D : Defs K mg C fW fI fP fA fO fdW fdI fdP fdA fdO) (L : LDefs P K mg C CT CI fII CL fLI CF fS fTI fCo fEd fAr fEq fAd pAr fH fD fPr fLs fCn fWy fR fWi fTin fTeq fMv fPm fdS fdTI fdCo fdEd fdAr fdEq fdAd fdH fdD fdPr fdLs fdCn fdWy fdR fdWi fdTin fdTeq fdMv fdPm) :
    FnG P w K mg base CX0 12 f fd ["script"] (spLaw K) := by
  have d := L.d
  have GR : FnG P w K mg base CX0 10 fR fdR ["things"] (spRef C K) := ok_ref L.FR d D L.R L.FPm L.bPm L.mPm
  have GI : FnOk P w K mg base CX0 2 fI fdI ["self", "x", "y"] (spInit C) := D.GI
  have GTI : FnOk P w K mg base CX0 8 fTI fdTI ["self", "a", "b", "c"] (spTInit C CT) := d.GTI D
  have GCo : FnOk P w K mg base CX0 1 fCo fdCo ["self"] (spCorners C CT) := d.GCo
  have GEd : FnOk P w K mg base CX0 1 fEd fdEd ["self"] (spEdges C CT) := d.GEd
  have GAr : FnOk P w K mg base CX0 8 fAr fdAr ["self"] (spArea C CT) := d.GAr D
  have GMv : FnOk P w K mg base CX0 10 fMv fdMv ["self", "by"] (spMoved C CT) := ok_moved L.FMv d D
  have GTin : FnOk P w K mg base CX0 8 fTin fdTin ["self", "x"] (spTIn C CT) := ok_tin L.FTin d D L.R.TX
  have GTeq : FnOk P w K mg base CX0 4 fTeq fdTeq ["self", "other"] (spTEq C CT) := ok_teq L.FTeq d D
  have GAd : FnOk P w K mg base CX0 6 fAd fdAd ["self", "other"] (spBin C (· + ·)) := ok_add d.FAd D
  have GPm : FnOk P w K mg base CX0 1 fPm fdPm ["self"] (spPairM C) := ok_pairM L.FPm D.T
  have GH : FnOk P w K mg base CX0 1 fH fdH ["script", "k"] (spHand K) := ok_hand L.FH L.TL
  have GD : FnOk P w K mg base CX0 1 fD fdD ["pool", "many"] spDraw := ok_draw L.FD L.TL
  have GPr : FnOk P w K mg base CX0 2 fPr fdPr ["pool", "size_here"] spPair := ok_pair L.FPr L.TL L.FD L.bD L.mD
  have GLs : FnOk P w K mg base CX0 1 fLs fdLs ["a", "b", "p"] spLSide := ok_lside L.FLs
  have GCn : FnOk P w K mg base CX0 3 fCn fdCn ["pool", "size_here"] spCorn := ok_corn L.FCn L.TL L.FD L.bD L.mD L.FPr L.bPr L.mPr L.FLs L.bLs L.mLs
  have GWy : FnOk P w K mg base CX0 1 fWy fdWy ["corners_here"] (spWays K) := ok_ways L.FWy L.TL
  have GWi : FnOk P w K mg base CX0 2 fWi fdWi ["corners_here", "p"] (spWithin K) := ok_within L.FWi L.TL L.FWy L.bWy L.mWy L.FLs L.bLs L.mLs
  refine F.okG scLaw (fun vs H Q E h => ?_) (fun cdv A outer s H vs Q E hgd0 hr h => ?_)
  · obtain ⟨a, ns, rfl, _⟩ := h
    rfl
  · obtain ⟨sa, ns, rfl, hS, hlen, k⟩ := h
    have hgd : (A.deeper (PyProof.Rows.envOfC (Str.ofString "law") (defScope sLaw) s.heap.objs.size f cdv)).guards = some [] := hgd0
    have hr10 : Room 10 _ := hr.mono (by decide)
    have hr9 : Room 9 _ := hr.mono (by decide)
    have hr8 : Room 8 _ := hr.mono (by decide)
    have hr6 : Room 6 _ := hr.mono (by decide)
    have hr5 : Room 5 _ := hr.mono (by decide)
    have hr4 : Room 4 _ := hr.mono (by decide)
    have hr3 : Room 3 _ := hr.mono (by decide)
    have hr2 : Room 2 _ := hr.mono (by decide)
    have hr1 : Room 1 _ := hr.mono (by decide)
    have hu : (A.deeper (PyProof.Rows.envOfC (Str.ofString "law") (defScope sLaw) s.heap.objs.size f cdv)).units + 64 < cLine := by
      have := hr.un
      omega
    have cR : CallR (cxOf CX0 P w K mg base lawN "law" (defScope sLaw) f cdv A outer s H E).nox (.builtin "repr") (rReprD K) := call_reprD hgd0 hu
    refine ⟨_, pss_cons (ps_for PassesOwn.never rfl (pi_range1 rfl L.TL.range (pa_cons (pe_callB (call_max2 rfl) (by rfl) L.TL.max (by decide +kernel) (pa_cons pe_int (pa_cons (pe_callB (call_min2 rfl) (by rfl) L.TL.min (by decide +kernel) (pa_cons (pe_callB call_len_seq (by rfl) L.TL.len PySem.boot_len (pa_cons (pv 0) pa_nil)) (pa_cons pe_int pa_nil))) pa_nil))) pa_nil)) (pg_name (i := 1) scLaw.nd rfl (Or.inl rfl))
        (pss_cons (ps_set (i := 2) scLaw.nd rfl (Or.inl rfl) (pe_call GH hr1 rfl L.mH L.FH.kp L.bH .nil pass0 (pa_cons (pv 0) (pa_cons (pv 1) pa_nil))))
        (pss_cons (ps_asg (pe_call GCn hr3 rfl L.mCn L.FCn.kp L.bCn .nil pass0 (pa_cons (pv 2) (pa_cons pe_int pa_nil))) (pg_unl rfl (pgs_cons (pg_name (i := 3) scLaw.nd rfl (Or.inl rfl)) (pgs_cons (pg_name (i := 4) scLaw.nd rfl (Or.inl rfl)) (pgs_cons (pg_name (i := 5) scLaw.nd rfl (Or.inl rfl)) pgs_nil)))))
        (pss_cons (ps_for PassesOwn.never rfl (pi_list (pe_lst (pa_cons (pe_tup (pa_cons (pv 3) (pa_cons (pv 4) (pa_cons (pv 5) pa_nil)))) (pa_cons (pe_tup (pa_cons (pv 3) (pa_cons (pv 5) (pa_cons (pv 4) pa_nil)))) (pa_cons (pe_tup (pa_cons (pv 4) (pa_cons (pv 3) (pa_cons (pv 5) pa_nil)))) pa_nil))))) (pg_name (i := 6) scLaw.nd rfl (Or.inl rfl))
        (pss_cons (ps_set (i := 7) scLaw.nd rfl (Or.inr rfl) (pe_make d.MT GTI hr9 rfl d.TT.mgT d.bTI .nil pass0 (pa_cons (pe_ix (r := rIxT K) ix_tup (pv 6) pe_int (fun _ _ => rfl)) (pa_cons (pe_make D.M GI hr3 rfl D.T.mgC D.bI .nil pass0 (pa_cons (pe_ix (r := rIxT K) ix_tup (pe_ix (r := rIxT K) ix_tup (pv 6) pe_int (fun _ _ => rfl)) pe_int (fun _ _ => rfl)) (pa_cons (pe_ix (r := rIxT K) ix_tup (pe_ix (r := rIxT K) ix_tup (pv 6) pe_int (fun _ _ => rfl)) pe_int (fun _ _ => rfl)) pa_nil))) (pa_cons (pe_ix (r := rIxT K) ix_tup (pv 6) pe_int (fun _ _ => rfl)) pa_nil)))))
        (pss_cons (ps_set (i := 8) scLaw.nd rfl (Or.inl rfl) (pe_ifExp (pt_cmpR (op_eqD hr.units) (pv 6) (pe_tup (pa_cons (pv 4) (pa_cons (pv 3) (pa_cons (pv 5) pa_nil)))) (nomark _)) (pe_lst (pa_cons (pv 4) (pa_cons (pv 5) (pa_cons (pv 3) pa_nil)))) (pe_lst (pa_cons (pv 3) (pa_cons (pv 4) (pa_cons (pv 5) pa_nil))))))
        (pss_cons (ps_if (PW.pt (pw_or (pt_cmpR (op_neD hr.units) (pe_lc (own := [("point", 16)]) (g := gName 16) (tt := tYes) rfl scLaw.nd (pi_list (pe_meth0 (pv 7) d.TT.cl d.mCo GCo hr1 d.bCo .nil pass0)) (blkOk_by (own := [("point", 16)]) (N := lawN) (sc := defScope sLaw) (by decide +kernel)) (fun _ _ _ _ _ => (pg_name (i := 16) scLaw.nd rfl (Or.inl rfl))) (fun _ _ _ _ _ => pts_nil) (fun _ _ _ _ _ => (pe_meth0 (pv 16) D.T.cl L.mPm GPm hr1 L.bPm .nil pass0))) (pv 8) (nomark _)) (pw_or1 (pt_cmpR op_ne (pe_prop (pv 7) d.TT.cl d.pAr GAr hr9 d.bAr .nil pass0 rfl) (pe_call GLs hr1 rfl L.mLs L.FLs.kp L.bLs .nil pass0 (pa_cons (pv 3) (pa_cons (pv 4) (pa_cons (pv 5) pa_nil)))) (nomark _))))) (pss_one (ps_ret pe_bl)) pss_nil)
        (pss_cons (ps_setLc (i := 9) (own := [("one", 17), ("other", 18)]) (g := gTup K 2 (gCons (gName 17) (gCons (gName 18) gNil))) (tt := tYes) rfl scLaw.nd rfl rfl (sw_true rfl rfl rfl (by decide +kernel)) (pi_list (pe_meth0 (pv 7) d.TT.cl d.mEd GEd hr1 d.bEd .nil pass0)) (blkOk_by (own := [("one", 17), ("other", 18)]) (N := lawN) (sc := defScope sLaw) (by decide +kernel)) (fun _ _ _ _ _ => pg_tup rfl (pgs_cons (pg_name (i := 17) scLaw.nd rfl (Or.inl rfl)) (pgs_cons (pg_name (i := 18) scLaw.nd rfl (Or.inl rfl)) pgs_nil))) (fun _ _ _ _ _ => pts_nil) (fun _ _ _ _ _ => (pe_tup (pa_cons (pe_meth0 (pv 17) D.T.cl L.mPm GPm hr1 L.bPm .nil pass0) (pa_cons (pe_meth0 (pv 18) D.T.cl L.mPm GPm hr1 L.bPm .nil pass0) pa_nil)))))
        (pss_one (ps_if (PW.pt (pw_or (pt_cmpR (op_neD hr.units) (pv 9) (pe_call GWy hr1 rfl L.mWy L.FWy.kp L.bWy .nil pass0 (pa_cons (pv 8) pa_nil)) (nomark _)) (pw_or (pt_cmpR (op_ownNe L.oTeq GTeq hr5 L.bTeq pass0) (pv 7) (pe_make d.MT GTI hr9 rfl d.TT.mgT d.bTI .nil pass0 (pa_cons (pv 5) (pa_cons (pv 3) (pa_cons (pv 4) pa_nil)))) (nomark _)) (pw_or1 (pt_cmpR (op_ownEqL L.oTeq.eq L.oTeq.fn L.nl GTeq hr4 L.bTeq pass0) (pv 7) (pv 8) (nomark _)))))) (pss_one (ps_ret pe_bl)) pss_nil)))))))
        (pss_cons (ps_for PassesOwn.never rfl (pi_range2 rfl L.TL.range (pa_cons (pe_un un_neg pe_int) (pa_cons pe_int pa_nil))) (pg_name (i := 10) scLaw.nd rfl (Or.inl rfl))
        (pss_cons (ps_set (i := 11) scLaw.nd rfl (Or.inl rfl) (pe_tup (pa_cons (pv 10) (pa_cons (pe_op op_sub (pe_call GD hr1 rfl L.mD L.FD.kp L.bD .nil pass0 (pa_cons (pv 2) (pa_cons pe_int pa_nil))) pe_int) pa_nil))))
        (pss_one (ps_if (PW.pt (pw_or (pt_cmpR op_ne (pe_cmpR (op_ownIn L.oTin GTin hr8 L.bTin pass0) (pv 11) (pv 7) (by rfl)) (pe_call GWi hr2 rfl L.mWi L.FWi.kp L.bWi .nil pass0 (pa_cons (pe_lst (pa_cons (pv 3) (pa_cons (pv 4) (pa_cons (pv 5) pa_nil)))) (pa_cons (pv 11) pa_nil))) (nomark _)) (pw_or1 (pt_cmpR op_ne (pe_cmpR (op_ownIn L.oTin GTin hr8 L.bTin pass0) (pe_make D.M GI hr3 rfl D.T.mgC D.bI .nil pass0 (pa_cons (pe_ix (r := rIxT K) ix_tup (pv 11) pe_int (fun _ _ => rfl)) (pa_cons (pe_ix (r := rIxT K) ix_tup (pv 11) pe_int (fun _ _ => rfl)) pa_nil))) (pv 7) (by rfl)) (pe_cmpR (op_ownIn L.oTin GTin hr8 L.bTin pass0) (pv 11) (pv 7) (by rfl)) (nomark _))))) (pss_one (ps_ret pe_bl)) pss_nil))))
        (pss_cons (ps_if (PW.pt (pw_or (pt_cmpR (op_neD hr.units) (pe_lc (own := [("odd", 15)]) (g := gName 15)  rfl scLaw.nd (pi_list (pe_lst (pa_cons pe_non (pa_cons pe_int (pa_cons (pe_tup (pa_cons pe_int pa_nil)) (pa_cons pe_str (pa_cons (pe_tup (pa_cons pe_bl (pa_cons pe_int pa_nil))) (pa_cons (pe_lst (pa_cons pe_int (pa_cons pe_int pa_nil))) pa_nil)))))))) (blkOk_by (own := [("odd", 15)]) (N := lawN) (sc := defScope sLaw) (by decide +kernel)) (fun _ _ _ _ _ => (pg_name (i := 15) scLaw.nd rfl (Or.inl rfl))) (fun _ _ _ _ _ => pts_one (pt_cmpR (op_ownIn L.oTin GTin hr8 L.bTin pass0) (pv 15) (pv 7) (by rfl))) (fun _ _ _ _ _ => (pv 15))) (pe_lst pa_nil) (nomark _)) (pw_or1 (pt_cmpR (op_ownNotIn L.oTin GTin hr8 L.bTin pass0) (pv 3) (pv 7) (by rfl))))) (pss_one (ps_ret pe_bl)) pss_nil)
        (pss_cons (ps_set (i := 12) scLaw.nd rfl (Or.inr rfl) (pe_call GPr hr2 rfl L.mPr L.FPr.kp L.bPr .nil pass0 (pa_cons (pv 2) (pa_cons pe_int pa_nil))))
        (pss_cons (ps_setLc (i := 13) (own := [("one", 17)]) (g := gName 17) (tt := tYes) rfl scLaw.nd rfl rfl (sw_true rfl rfl rfl (by decide +kernel)) (pi_list (pe_lst (pa_cons (pv 3) (pa_cons (pv 4) (pa_cons (pv 5) pa_nil))))) (blkOk_by (own := [("one", 17)]) (N := lawN) (sc := defScope sLaw) (by decide +kernel)) (fun _ _ _ _ _ => (pg_name (i := 17) scLaw.nd rfl (Or.inl rfl))) (fun _ _ _ _ _ => pts_nil) (fun _ _ _ _ _ => (pe_op (op_own d.oAd FoOps.tup_add GAd hr6 d.bAd pass0) (pe_make D.M GI hr3 rfl D.T.mgC D.bI .nil pass0 (pa_cons (pe_ix (r := rIxT K) ix_tup (pv 17) pe_int (fun _ _ => rfl)) (pa_cons (pe_ix (r := rIxT K) ix_tup (pv 17) pe_int (fun _ _ => rfl)) pa_nil))) (pv 12))))
        (pss_cons (ps_if (pt_cmpR (op_ownNe L.oTeq GTeq hr5 L.bTeq pass0) (pe_meth (pv 7) d.TT.cl L.mMv GMv hr10 L.bMv .nil pass0 (pa_cons (pv 12) pa_nil)) (pe_make d.MT GTI hr9 rfl d.TT.mgT d.bTI .nil pass0 (pa_cons (pe_ix ix_list (pv 13) pe_int (fun _ _ => rfl)) (pa_cons (pe_ix ix_list (pv 13) pe_int (fun _ _ => rfl)) (pa_cons (pe_ix ix_list (pv 13) pe_int (fun _ _ => rfl)) pa_nil)))) (nomark _)) (pss_one (ps_ret pe_bl)) pss_nil)
        (pss_cons (ps_if (pt_cmpR (op_ownEq L.oTeq GTeq hr4 L.bTeq pass0) (pv 7) (pe_make d.MT GTI hr9 rfl d.TT.mgT d.bTI .nil pass0 (pa_cons (pv 3) (pa_cons (pv 4) (pa_cons (pe_tup (pa_cons (pe_op op_sub (pe_op op_add (pe_ix (r := rIxT K) ix_tup (pv 5) pe_int (fun _ _ => rfl)) (pe_ix (r := rIxT K) ix_tup (pv 4) pe_int (fun _ _ => rfl))) (pe_ix (r := rIxT K) ix_tup (pv 3) pe_int (fun _ _ => rfl))) (pa_cons (pe_op op_sub (pe_op op_add (pe_ix (r := rIxT K) ix_tup (pv 5) pe_int (fun _ _ => rfl)) (pe_ix (r := rIxT K) ix_tup (pv 4) pe_int (fun _ _ => rfl))) (pe_ix (r := rIxT K) ix_tup (pv 3) pe_int (fun _ _ => rfl))) pa_nil))) pa_nil)))) (nomark _)) (pss_one (ps_ret pe_bl)) pss_nil)
        (pss_cons (ps_set (i := 14) scLaw.nd rfl (Or.inl rfl) (pe_tup (pa_cons (pv 3) (pa_cons (pv 4) (pa_cons (pe_tup (pa_cons (pe_op op_sub (pe_op op_mul (pe_ix (r := rIxT K) ix_tup (pv 4) pe_int (fun _ _ => rfl)) pe_int) (pe_ix (r := rIxT K) ix_tup (pv 3) pe_int (fun _ _ => rfl))) (pa_cons (pe_op op_sub (pe_op op_mul (pe_ix (r := rIxT K) ix_tup (pv 4) pe_int (fun _ _ => rfl)) pe_int) (pe_ix (r := rIxT K) ix_tup (pv 3) pe_int (fun _ _ => rfl))) pa_nil))) pa_nil)))))
        (pss_cons (ps_if (PW.pt (pw_or (pt_cmpR (op_neD hr.units) (pe_callG GR hgd hr10 rfl L.mR L.FR.kp L.bR pass0 (pa_cons (pv 14) pa_nil)) (pe_tup (pa_cons pe_str (pa_cons (pe_lst (pa_cons (pv 3) (pa_cons (pv 4) (pa_cons (pe_ix (r := rIxT K) ix_tup (pv 14) pe_int (fun _ _ => rfl)) pa_nil)))) pa_nil))) (nomark _)) (pw_or1 (pt_cmpR (op_neD hr.units) (pe_callG GR hgd hr10 rfl L.mR L.FR.kp L.bR pass0 (pa_cons (pe_tup (pa_cons (pv 3) (pa_cons (pv 3) (pa_cons (pv 4) pa_nil)))) pa_nil)) (pe_tup (pa_cons pe_str (pa_cons (pe_lst (pa_cons (pv 3) (pa_cons (pv 3) (pa_cons (pv 4) pa_nil)))) pa_nil))) (nomark _))))) (pss_one (ps_ret pe_bl)) pss_nil)
        (pss_cons (ps_set (i := 15) scLaw.nd rfl (Or.inl rfl) (pe_ix ix_list (pe_lst (pa_cons pe_non (pa_cons (pe_tup (pa_cons pe_int pa_nil)) (pa_cons (pe_tup (pa_cons pe_int (pa_cons pe_str pa_nil))) (pa_cons pe_int (pa_cons (pe_tup (pa_cons pe_bl (pa_cons pe_int pa_nil))) pa_nil)))))) (pe_call GD hr1 rfl L.mD L.FD.kp L.bD .nil pass0 (pa_cons (pv 2) (pa_cons pe_int pa_nil))) (fun _ _ => rfl)))
        (pss_one (ps_if (PW.pt (pw_or (pt_cmpR (op_neD hr.units) (pe_callG GR hgd hr10 rfl L.mR L.FR.kp L.bR pass0 (pa_cons (pe_tup (pa_cons (pv 3) (pa_cons (pv 15) (pa_cons pe_non pa_nil)))) pa_nil)) (pe_tup (pa_cons pe_str (pa_cons (pe_callB cR (by rfl) L.R.zR (by decide +kernel) (pa_cons (pv 15) pa_nil)) pa_nil))) (nomark _)) (pw_or1 (pt_cmpR (op_neD hr.units) (pe_callG GR hgd hr10 rfl L.mR L.FR.kp L.bR pass0 (pa_cons (pe_tup (pa_cons (pv 15) (pa_cons pe_non (pa_cons (pv 5) pa_nil)))) pa_nil)) (pe_tup (pa_cons pe_str (pa_cons (pe_callB cR (by rfl) L.R.zR (by decide +kernel) (pa_cons (pv 15) pa_nil)) pa_nil))) (nomark _))))) (pss_one (ps_ret pe_bl)) pss_nil)))))))))))))))
      (pss_one (ps_ret pe_bl)), ?_⟩
    refine ⟨_, rfl, sa, _, rfl, .inl hS, _, _, rfl, _, _, rfl, ?_⟩
    have hn8 : ∀ z : Int, z = (if (if (8 : Int) < ((ns.map V.int).length : Int) then (8 : Int) else ((ns.map V.int).length : Int)) > 1 then (if (8 : Int) < ((ns.map V.int).length : Int) then (8 : Int) else ((ns.map V.int).length : Int)) else 1) → 0 ≤ z ∧ z ≤ 8 := by
      intro z hz
      split at hz <;> split at hz <;> omega
    obtain ⟨n0, n8⟩ := hn8 _ rfl
    refine ⟨_, rfl, by omega, by omega, ?_⟩
    refine for_range (lo := 0) (fun i σ H' => ∃ v1 v2 v3 v4 v5 v6 v7 v8 v9 v10 v11 v12 v13 v14 v15 v16 v17 v18 : Option V, σ = [some (.ref sa), v1, v2, v3, v4, v5, v6, v7, v8, v9, v10, v11, v12, v13, v14, v15, v16, v17, v18] ∧ Same H H')
      ⟨_, _, _, _, _, _, _, _, _, _, _, _, _, _, _, _, _, _, rfl, Same.refl _⟩ ?_ ?_
    case refine_2 =>
      rintro σ H' ⟨v1, v2, v3, v4, v5, v6, v7, v8, v9, v10, v11, v12, v13, v14, v15, v16, v17, v18, rfl, eH⟩
      exact k _
    rintro i σ H0 hi ⟨v1, v2, v3, v4, v5, v6, v7, v8, v9, v10, v11, v12, v13, v14, v15, v16, v17, v18, rfl, eH⟩
    have hik : (i : Int) ≤ 100 := by omega
    clear hn8 n0 n8 hi
    -- pool = _law_hand(script, k)
    refine seq_gen (fun σ' H' => ∃ pl, σ' = [some (.ref sa), some (.int (0 + i)), some (.ref pl), v3, v4, v5, v6, v7, v8, v9, v10, v11, v12, v13, v14, v15, v16, v17, v18] ∧ H0 pl = none ∧ Same H0 H' ∧ PoolAt pl H') (fun N hN => ?_) ?_
    · refine ⟨_, rfl, _, rfl, sa, ns, _, rfl, eH.seq hS, hlen, by omega, by omega, fun pl H1 hpl e1 p1 => ?_⟩
      exact hN _ _ ⟨pl, rfl, hpl, e1, p1⟩
    rintro σ H1 ⟨pl, rfl, hpl, e1, p1⟩
    -- a, b, c = _law_corners(pool, 5)
    refine seq_gen (fun σ' H' => ∃ qa qb qc a b c, σ' = [some (.ref sa), some (.int (0 + i)), some (.ref pl), some (.ref qa), some (.ref qb), some (.ref qc), v6, v7, v8, v9, v10, v11, v12, v13, v14, v15, v16, v17, v18] ∧ Cor H0 pl qa qb qc a b c H' ∧ 0 < sd a b c ∧ Sm2 5 a ∧ Sm2 5 b ∧ Sm2 5 c) (fun N hN => ?_) ?_
    · refine ⟨_, rfl, pl, rfl, p1, fun l qa qb qc a b c H2 b2 p2 hl t2 pos sA sB sC => ?_⟩
      refine ⟨l, _, rfl, SqL.of hl, rfl, _, _, rfl, _, _, rfl, _, _, rfl, rfl, ?_⟩
      exact hN _ _ ⟨qa, qb, qc, a, b, c, rfl, ⟨b2.same hpl e1, p2, t2⟩, pos, sA, sB, sC⟩
    rintro σ H2 ⟨qa, qb, qc, a, b, c, rfl, W2, pos, sA, sB, sC⟩
    clear e1 p1
    -- for given in ..
    refine seq_gen (fun σ' H' => ∃ (v6 v8 v9 v16 v17 v18 : Option V) (tr : Addr), σ' = [some (.ref sa), some (.int (0 + i)), some (.ref pl), some (.ref qa), some (.ref qb), some (.ref qc), v6, some (.ref tr), v8, v9, v10, v11, v12, v13, v14, v15, v16, v17, v18] ∧ Cor H0 pl qa qb qc a b c H' ∧ IsT C CT (.ref tr) b c a H') (fun N hN => ?_) ?_
    · have Z3 : 3 ≤ sizeLine := by decide
      refine ⟨_, rfl, _, rfl, _, rfl, Z3, fun g1 n1 => ?_⟩
      have e1 := same_new (o := .tup [.ref qa, .ref qb, .ref qc]) n1
      refine ⟨_, rfl, _, rfl, _, rfl, Z3, fun g2 n2 => ?_⟩
      have e2 := same_new (o := .tup [.ref qa, .ref qc, .ref qb]) n2
      refine ⟨_, rfl, _, rfl, _, rfl, Z3, fun g3 n3 => ?_⟩
      have e3 := same_new (o := .tup [.ref qb, .ref qa, .ref qc]) n3
      refine ⟨Z3, fun l nl => ?_⟩
      have e4 := same_new (o := .lst [.ref g1, .ref g2, .ref g3]) nl
      have W3 := W2.ex (e1.trans (e2.trans (e3.trans e4)))
      have hl := upd_same (H := upd (upd (upd H2 g1 (.tup [.ref qa, .ref qb, .ref qc])) g2 (.tup [.ref qa, .ref qc, .ref qb])) g3 (.tup [.ref qb, .ref qa, .ref qc])) (a := l) (o := .lst [.ref g1, .ref g2, .ref g3])
      have all := fun (j : Nat) (v : V) hv => giv_of (j := j) (v := v) W3.t pos sA sB sC ((e2.trans (e3.trans e4)) _ _ upd_same) ((e3.trans e4) _ _ upd_same) (e4 _ _ upd_same) hv
      refine ⟨l, rfl, ⟨_, SqL.of hl⟩, ?_⟩
      generalize upd (upd (upd (upd H2 g1 (.tup [.ref qa, .ref qb, .ref qc])) g2 (.tup [.ref qa, .ref qc, .ref qb])) g3 (.tup [.ref qb, .ref qa, .ref qc])) l (.lst [.ref g1, .ref g2, .ref g3]) = H3 at hl W3 all
      refine for_list (K := K) (a := l) (xs := [.ref g1, .ref g2, .ref g3]) (fun j σ' H' => ∃ v6 v7 v8 v9 v16 v17 v18 : Option V, σ' = [some (.ref sa), some (.int (0 + i)), some (.ref pl), some (.ref qa), some (.ref qb), some (.ref qc), v6, v7, v8, v9, v10, v11, v12, v13, v14, v15, v16, v17, v18] ∧ Same H3 H' ∧ (j = 3 → ∃ tr, v7 = some (.ref tr) ∧ IsT C CT (.ref tr) b c a H')) ⟨_, _, _, _, _, _, _, rfl, Same.refl _, fun z => absurd z (by decide)⟩ (fun j σ' H' _ h => by
        obtain ⟨_, _, _, _, _, _, _, _, e, _⟩ := h
        exact SqL.of (e _ _ hl)) ?_ ?_
      case refine_2 =>
        rintro σ H4 ⟨v6, v7, v8, v9, v16, v17, v18, rfl, f4, h7⟩
        obtain ⟨tr, rfl, ht⟩ := h7 rfl
        exact hN _ _ ⟨v6, v8, v9, v16, v17, v18, tr, rfl, W3.ex f4, ht⟩
      rintro j v σ H4 hv ⟨v6, v7, v8, v9, v16, v17, v18, rfl, f4, h7⟩
      clear h7
      obtain ⟨xg, x1, x2, x3, y1, y2, y3, p1, p2, p3, u2, u3, isb, rfl, G3, last⟩ := all j v hv
      have G4 := G3.ex f4
      have W4 := W3.ex f4
      clear G3 all
      -- triangle
      refine seq_gen (fun σ' H' => ∃ tr, σ' = [some (.ref sa), some (.int (0 + i)), some (.ref pl), some (.ref qa), some (.ref qb), some (.ref qc), some (.ref xg), some (.ref tr), v8, v9, v10, v11, v12, v13, v14, v15, v16, v17, v18] ∧ Same H4 H' ∧ IsT C CT (.ref tr) p1 u2 u3 H') (fun N hN => ?_) ?_
      · refine ⟨_, rfl, xg, _, _, _, rfl, rfl, SqT.of G4.g, atI_nat (j := 0) rfl, ?_⟩
        refine ⟨_, rfl, xg, _, _, _, rfl, rfl, SqT.of G4.g, atI_nat (j := 1) rfl, x2, _, _, _, rfl, rfl, SqT.of G4.t.b, atI_nat (j := 0) rfl, ?_⟩
        refine ⟨_, rfl, xg, _, _, _, rfl, rfl, SqT.of G4.g, atI_nat (j := 1) rfl, x2, _, _, _, rfl, rfl, SqT.of G4.t.b, atI_nat (j := 1) rfl, ?_⟩
        refine fun c5 dc5 nc5 nd5 ne5 => ⟨c5, dc5, p2.1, p2.2, rfl, upd_same, rfl, ?_⟩
        have e5 := made_same (C := C) (X := p2.1) (Y := p2.2) nc5 nd5
        have h5 := made_is (C := C) (x := c5) (dx := dc5) (H := H4) (X := p2.1) (Y := p2.2)
        have G5 := G4.ex e5
        generalize upd (upd (upd (upd H4 dc5 (.own c5)) c5 (.ins C dc5 [])) c5 (.ins C dc5 (putF "x" (.int p2.1) []))) c5 (.ins C dc5 (ptF p2.1 p2.2)) = H5 at e5 h5 G5
        refine ⟨_, rfl, xg, _, _, _, rfl, rfl, SqT.of G5.g, atI_nat (j := 2) rfl, ?_⟩
        refine fun tr dx nx nd ne => ?_
        have g2 : Same H5 (upd (upd H5 dx (.own tr)) tr (.ins CT dx [])) := (same_new nd).trans (same_new (by rw [upd_ne ne.symm]; exact nx))
        refine ⟨5, tr, dx, _, _, _, p1, p2, p3, rfl, upd_same, IsPt2.ex g2 ⟨x1, rfl, .inr G5.t.a⟩, IsPt2.ex g2 h5.pt, IsPt2.ex g2 ⟨x3, rfl, .inr G5.t.c⟩, by decide, G5.sm.1, G5.sm.2.1, G5.sm.2.2.1, G5.nz, fun l7 w4 w5 w6 H6 bt htr hl7 ht7 => ⟨rfl, ?_⟩⟩
        rw [G5.eB, G5.eC] at ht7
        exact hN _ _ ⟨tr, rfl, e5.trans (bt.same nx g2), ⟨tr, dx, l7, w4, w5, w6, rfl, htr, hl7, ht7⟩⟩
      rintro σ H5 ⟨tr, rfl, e5, T5⟩
      have G5 := G4.ex e5
      have W5 := W4.ex e5
      have f5 := f4.trans e5
      clear G4 W4 f4 e5
      -- due
      refine seq_gen (fun σ' H' => ∃ dl, σ' = [some (.ref sa), some (.int (0 + i)), some (.ref pl), some (.ref qa), some (.ref qb), some (.ref qc), some (.ref xg), some (.ref tr), some (.ref dl), v9, v10, v11, v12, v13, v14, v15, v16, v17, v18] ∧ Same H5 H' ∧ H' dl = some (.lst [.ref y1, .ref y2, .ref y3])) (fun N hN => ?_) ?_
      · refine ⟨_, rfl, _, rfl, _, rfl, _, rfl, Z3, fun t nt => ?_⟩
        have g := same_new (o := .tup [.ref qb, .ref qa, .ref qc]) nt
        have G6 := G5.ex g
        have W6 := W5.ex g
        refine ⟨.tuple [pD p1, pD p2, pD p3], .tuple [pD b, pD a, pD c], .tup (SqT.of G6.g) (.cons (tp_dp' G6.t.a) (.cons (tp_dp' G6.t.b) (.cons (tp_dp' G6.t.c) .nil))), .tup (SqT.of upd_same) (.cons (tp_dp' W6.t.b) (.cons (tp_dp' W6.t.a) (.cons (tp_dp' W6.t.c) .nil))), t3_sh _ _ _, t3_sh _ _ _, _, rfl, ?_⟩
        rw [G5.eq]
        rcases G5.due with ⟨hb, h1, h2, h3⟩ | ⟨hb, h1, h2, h3⟩
        · rw [hb]
          refine iteT ?_
          refine ⟨_, rfl, _, rfl, _, rfl, Z3, fun l nl => ?_⟩
          exact hN _ _ ⟨l, rfl, g.trans (same_new nl), by rw [h1, h2, h3]; exact upd_same⟩
        · rw [hb]
          refine iteF ?_
          refine ⟨_, rfl, _, rfl, _, rfl, Z3, fun l nl => ?_⟩
          exact hN _ _ ⟨l, rfl, g.trans (same_new nl), by rw [h1, h2, h3]; exact upd_same⟩
      rintro σ H6 ⟨dl, rfl, e6, hdl⟩
      have G6 := G5.ex e6
      have W6 := W5.ex e6
      have T6 := T5.ex e6
      have f6 := f5.trans e6
      clear G5 W5 T5 f5 e6
      -- corners, area2
      refine seq_gen (fun σ' H' => σ' = [some (.ref sa), some (.int (0 + i)), some (.ref pl), some (.ref qa), some (.ref qb), some (.ref qc), some (.ref xg), some (.ref tr), some (.ref dl), v9, v10, v11, v12, v13, v14, v15, v16, v17, v18] ∧ Same H6 H') (fun N hN => ?_) ?_
      · obtain ⟨_, dx, l6, w1, w2', w3', q, htr, _⟩ := id T6
        cases q
        refine ⟨_, rfl, tr, dx, _, rfl, htr, tipF_no _ (by decide +kernel), _, p1, u2, u3, rfl, T6, fun lc z1 z2 z3 H7 nlc e7 hlc th => ?_⟩
        refine ⟨lc, rfl, ⟨_, SqL.of hlc⟩, fun D0 nD => ?_⟩
        refine lc_all (K := K) (xs := [z1, z2, z3]) (sl := [16]) (fun i v H => ∃ q, v = .ref q ∧ Tp H q (if i = 0 then p1 else if i = 1 then u2 else u3)) (fun i v H H' e h => by obtain ⟨q, h1, h2⟩ := h; exact ⟨q, h1, e _ _ h2⟩) (fun i v H H' D ys hD b h => by obtain ⟨q, h1, h2⟩ := h; exact ⟨q, h1, b _ _ (ne_of h2 hD (by intro z; cases z)) h2⟩) (SqL.of hlc) (by show 3 ≤ 1000; decide) ?_ ?_ nD
        · intro i x H8 hx e8 Q' k'
          have th8 := th.ex e8
          refine ⟨rfl, ?_⟩
          rcases two3 hx with ⟨rfl, rfl⟩ | ⟨rfl, rfl⟩ | ⟨rfl, rfl⟩
          · obtain ⟨q0, d0, rfl, hq0⟩ := id th8.1
            exact ⟨_, rfl, q0, d0, _, rfl, hq0, pair_no _ _, _, _, _, rfl, th8.1, fun q H9 nq e9 hq => k' _ _ e9 ⟨q, rfl, hq⟩⟩
          · obtain ⟨q0, d0, rfl, hq0⟩ := id th8.2.1
            exact ⟨_, rfl, q0, d0, _, rfl, hq0, pair_no _ _, _, _, _, rfl, th8.2.1, fun q H9 nq e9 hq => k' _ _ e9 ⟨q, rfl, hq⟩⟩
          · obtain ⟨q0, d0, rfl, hq0⟩ := id th8.2.2
            exact ⟨_, rfl, q0, d0, _, rfl, hq0, pair_no _ _, _, _, _, rfl, th8.2.2, fun q H9 nq e9 hq => k' _ _ e9 ⟨q, rfl, hq⟩⟩
        · intro H8 vs e8 hv hlen8 hR
          obtain ⟨s1, s2, s3, rfl⟩ := len3' hlen8
          obtain ⟨q1, rfl, r1⟩ := hR 0 s1 rfl
          obtain ⟨q2, rfl, r2⟩ := hR 1 s2 rfl
          obtain ⟨q3, rfl, r3⟩ := hR 2 s3 rfl
          have e78 := e7.trans e8
          refine ⟨_, rfl, l3 p1 u2 u3, l3 p1 u2 u3, l3_dp hv ⟨r1, r2, r3⟩, l3_dp (e78 _ _ hdl) (G6.td.ex e78), l3_sh _ _ _, l3_sh _ _ _, _, rfl, ?_⟩
          rw [sh_self (l3_sh _ _ _)]
          refine iteF ?_
          have T8 := T6.ex e78
          refine ⟨_, rfl, tr, dx, _, rfl, e78 _ _ htr, 5, _, p1, u2, u3, rfl, T8, by decide, G6.sm.1, G6.sm.2.2.2.1, G6.sm.2.2.2.2, fun H9 e9 => ?_⟩
          have e79 := e78.trans e9
          refine ⟨_, rfl, _, rfl, _, rfl, 5, qa, qb, qc, a, b, c, rfl, W6.t.ex e79, by decide, sA, sB, sC, rfl, _, rfl, ?_⟩
          rw [int_eqT G6.ar]
          refine iteF ?_
          exact hN _ _ ⟨rfl, e79⟩
      rintro σ H7 ⟨rfl, e7⟩
      have G7 := G6.ex e7
      have W7 := W6.ex e7
      have T7 := T6.ex e7
      have f7 := f6.trans e7
      have hdl7 := e7 _ _ hdl
      clear G6 W6 T6 f6 e7 hdl
      -- ways
      refine seq_gen (fun σ' H' => ∃ wl, σ' = [some (.ref sa), some (.int (0 + i)), some (.ref pl), some (.ref qa), some (.ref qb), some (.ref qc), some (.ref xg), some (.ref tr), some (.ref dl), some (.ref wl), v10, v11, v12, v13, v14, v15, v16, v17, v18] ∧ Same H7 H' ∧ Dp K H' (.ref wl) (w3 p1 u2 u3)) (fun N hN => ?_) ?_
      · obtain ⟨_, dx, l6, w1, w2', w3', q, htr, _⟩ := id T7
        cases q
        refine ⟨_, rfl, tr, dx, _, rfl, htr, tipF_no _ (by decide +kernel), _, p1, u2, u3, rfl, T7, fun v8 H8 e8 hE => ?_⟩
        obtain ⟨m, t1, t2, t3, z1, z2, z3, rfl, g0, g1', g2', g3', th⟩ := hE
        refine ⟨m, rfl, ⟨_, SqL.of g0⟩, fun D0 nD => ?_⟩
        refine lc_all (K := K) (xs := [.ref t1, .ref t2, .ref t3]) (sl := [17, 18]) (fun i v H => ∃ e qx qy, v = .ref e ∧ H e = some (.tup [.ref qx, .ref qy]) ∧ Tp H qx (if i = 0 then p1 else if i = 1 then u2 else u3) ∧ Tp H qy (if i = 0 then u2 else if i = 1 then u3 else p1)) (fun i v H H' e h => by obtain ⟨q, qx, qy, h1, h2, h3, h4⟩ := h; exact ⟨q, qx, qy, h1, e _ _ h2, e _ _ h3, e _ _ h4⟩)
          (fun i v H H' D ys hD b h => by obtain ⟨q, qx, qy, h1, h2, h3, h4⟩ := h; exact ⟨q, qx, qy, h1, b _ _ (ne_of h2 hD (by intro z; cases z)) h2, b _ _ (ne_of h3 hD (by intro z; cases z)) h3, b _ _ (ne_of h4 hD (by intro z; cases z)) h4⟩) (SqL.of g0) (by show 3 ≤ 1000; decide) ?_ ?_ nD
        · intro i x H9 hx e9 Q' k'
          have th9 := th.ex e9
          have two : ∀ {vx vy : V} {px py : I2}, IsP C vx px.1 px.2 H9 → IsP C vy py.1 py.2 H9 → (∀ v H'', Same H9 H'' → (∃ e qx qy, v = .ref e ∧ H'' e = some (.tup [.ref qx, .ref qy]) ∧ Tp H'' qx px ∧ Tp H'' qy py) → Q' v H'') → ∃ ax dx', vx = .ref ax ∧ H9 ax = some (.ins C dx' (ptF px.1 px.2)) ∧ ∃ ay dy', vy = .ref ay ∧ H9 ay = some (.ins C dy' (ptF py.1 py.2)) ∧ ∀ (qx : Addr) (H10 : Hp), H9 qx = none → Same H9 H10 → Tp H10 qx px → H10 ay = some (.ins C dy' (ptF py.1 py.2)) ∧ ∀ (qy : Addr) (H11 : Hp), H10 qy = none → Same H10 H11 → Tp H11 qy py → 2 ≤ sizeLine ∧ ∀ t, H11 t = none → Q' (.ref t) (upd H11 t (.tup [.ref qx, .ref qy])) := fun {vx vy px py} hx hy kk => by
            obtain ⟨ax, dx', rfl, hax⟩ := hx
            obtain ⟨ay, dy', rfl, hay⟩ := hy
            refine ⟨ax, dx', rfl, hax, ay, dy', rfl, hay, fun qx H10 nqx e10 hqx => ⟨e10 _ _ hay, fun qy H11 nqy e11 hqy => ⟨by decide, fun t nt => ?_⟩⟩⟩
            have g := same_new (o := .tup [.ref qx, .ref qy]) nt
            exact kk _ _ ((e10.trans e11).trans g) ⟨t, qx, qy, rfl, upd_same, g _ _ (e11 _ _ hqx), g _ _ hqy⟩
          rcases two3 hx with ⟨rfl, rfl⟩ | ⟨rfl, rfl⟩ | ⟨rfl, rfl⟩
          · obtain ⟨ax, dx', rfl, hax, ay, dy', rfl, hay, kk⟩ := two th9.1 th9.2.1 k'
            refine ⟨t1, _, rfl, SqT.of (e9 _ _ g1'), rfl, _, _, rfl, _, _, rfl, rfl, rfl, ?_⟩
            refine ⟨_, rfl, ax, dx', _, rfl, hax, pair_no _ _, _, _, _, rfl, ⟨ax, dx', rfl, hax⟩, fun qx H10 nqx e10 hqx => ?_⟩
            obtain ⟨hay2, kk⟩ := kk qx H10 nqx e10 hqx
            exact ⟨_, rfl, ay, dy', _, rfl, hay2, pair_no _ _, _, _, _, rfl, ⟨ay, dy', rfl, hay2⟩, fun qy H11 nqy e11 hqy => kk qy H11 nqy e11 hqy⟩
          · obtain ⟨ax, dx', rfl, hax, ay, dy', rfl, hay, kk⟩ := two th9.2.1 th9.2.2 k'
            refine ⟨t2, _, rfl, SqT.of (e9 _ _ g2'), rfl, _, _, rfl, _, _, rfl, rfl, rfl, ?_⟩
            refine ⟨_, rfl, ax, dx', _, rfl, hax, pair_no _ _, _, _, _, rfl, ⟨ax, dx', rfl, hax⟩, fun qx H10 nqx e10 hqx => ?_⟩
            obtain ⟨hay2, kk⟩ := kk qx H10 nqx e10 hqx
            exact ⟨_, rfl, ay, dy', _, rfl, hay2, pair_no _ _, _, _, _, rfl, ⟨ay, dy', rfl, hay2⟩, fun qy H11 nqy e11 hqy => kk qy H11 nqy e11 hqy⟩
          · obtain ⟨ax, dx', rfl, hax, ay, dy', rfl, hay, kk⟩ := two th9.2.2 th9.1 k'
            refine ⟨t3, _, rfl, SqT.of (e9 _ _ g3'), rfl, _, _, rfl, _, _, rfl, rfl, rfl, ?_⟩
            refine ⟨_, rfl, ax, dx', _, rfl, hax, pair_no _ _, _, _, _, rfl, ⟨ax, dx', rfl, hax⟩, fun qx H10 nqx e10 hqx => ?_⟩
            obtain ⟨hay2, kk⟩ := kk qx H10 nqx e10 hqx
            exact ⟨_, rfl, ay, dy', _, rfl, hay2, pair_no _ _, _, _, _, rfl, ⟨ay, dy', rfl, hay2⟩, fun qy H11 nqy e11 hqy => kk qy H11 nqy e11 hqy⟩
        · intro H9 vs e9 hv hlen9 hR
          obtain ⟨s1, s2, s3, rfl⟩ := len3' hlen9
          obtain ⟨o1, a1, b1, rfl, r1, r1a, r1b⟩ := hR 0 s1 rfl
          obtain ⟨o2, a2, b2, rfl, r2, r2a, r2b⟩ := hR 1 s2 rfl
          obtain ⟨o3, a3, b3, rfl, r3, r3a, r3b⟩ := hR 2 s3 rfl
          exact hN _ _ ⟨D0, rfl, e8.trans e9, .lst (SqL.of hv) (.cons (w2_dp r1 r1a r1b) (.cons (w2_dp r2 r2a r2b) (.cons (w2_dp r3 r3a r3b) .nil)))⟩
      rintro σ H8 ⟨wl, rfl, e8, dw⟩
      have G8 := G7.ex e8
      have W8 := W7.ex e8
      have T8 := T7.ex e8
      have f8 := f7.trans e8
      have hdl8 := e8 _ _ hdl7
      clear G7 W7 T7 f7 e8 hdl7
      -- ways, == of triangles
      refine ⟨_, rfl, _, rfl, dl, .ref y1, .ref y2, .ref y3, rfl, SqL.of hdl8, fun m o1 o2 o3 H9 nm e9 hm r1 r2 r3 => ?_⟩
      have td9 := G8.td.ex e9
      refine ⟨w3 p1 u2 u3, w3 p1 u2 u3, Dp.ex e9 _ _ dw, .lst (SqL.of hm) (.cons (w2_dp r1 td9.a td9.b) (.cons (w2_dp r2 td9.b td9.c) (.cons (w2_dp r3 td9.c td9.a) .nil))), w3_sh _ _ _, w3_sh _ _ _, _, rfl, ?_⟩
      rw [sh_self (w3_sh _ _ _)]
      refine iteF ?_
      have W9 := W8.ex e9
      have pos2 : 0 < sd c a b := by rw [sd_rot b c a, sd_rot a b c]; exact pos
      refine ⟨_, rfl, _, rfl, _, rfl, _, rfl, ?_⟩
      refine fun tr2 dx2 nx2 nd2 ne2 => ?_
      have g2 : Same H9 (upd (upd H9 dx2 (.own tr2)) tr2 (.ins CT dx2 [])) := (same_new nd2).trans (same_new (by rw [upd_ne ne2.symm]; exact nx2))
      refine ⟨5, tr2, dx2, _, _, _, c, a, b, rfl, upd_same, IsPt2.ex g2 ⟨qc, rfl, .inr W9.t.c⟩, IsPt2.ex g2 ⟨qa, rfl, .inr W9.t.a⟩, IsPt2.ex g2 ⟨qb, rfl, .inr W9.t.b⟩, by decide, sC, sA, sB, by omega, fun l7 w4 w5 w6 H10 bt htr2 hl7 ht7 => ⟨rfl, ?_⟩⟩
      have e10 := bt.same nx2 g2
      have h10 : IsT C CT (.ref tr2) c a b H10 := by
        rw [(on1 pos2).1, (on1 pos2).2] at ht7
        exact ⟨tr2, dx2, l7, w4, w5, w6, rfl, htr2, hl7, ht7⟩
      have e9' := e9.trans e10
      have T10 := T8.ex e9'
      obtain ⟨_, dx, l6, w1, w2', w3', q, htr, _⟩ := id T10
      cases q
      refine ⟨tr, dx, _, tr2, dx2, _, rfl, htr, rfl, htr2, _, _, p1, u2, u3, rfl, T10, .inl ⟨c, a, b, h10, fun H11 e11 => ⟨_, rfl, _, rfl, ?_⟩⟩⟩
      rw [G8.te]
      refine iteF ?_
      have e12 := e9'.trans e11
      have T11 := T8.ex e12
      refine ⟨_, rfl, _, rfl, tr, dx, _, dl, _, rfl, e11 _ _ htr, rfl, e12 _ _ hdl8, _, _, p1, u2, u3, rfl, T11, .inr ⟨⟨dl, _, rfl, e12 _ _ hdl8⟩, _, rfl, ?_⟩⟩
      refine iteF ?_
      refine ⟨_, _, _, _, _, _, _, rfl, f8.trans e12, fun z => ?_⟩
      obtain ⟨q1, q2, q3⟩ := last (by omega)
      subst q1 q2 q3
      exact ⟨tr, rfl, T11⟩
    rintro σ H3 ⟨v6, v8, v9, v16, v17, v18, tr, rfl, W3, T3'⟩
    clear W2
    have Z2 : 2 ≤ sizeLine := by decide
    have Z3 : 3 ≤ sizeLine := by decide
    -- for x in range(-7, 8)
    refine seq_gen (fun σ' H' => ∃ v10 v11 : Option V, σ' = [some (.ref sa), some (.int (0 + i)), some (.ref pl), some (.ref qa), some (.ref qb), some (.ref qc), v6, some (.ref tr), v8, v9, v10, v11, v12, v13, v14, v15, v16, v17, v18] ∧ Cor H0 pl qa qb qc a b c H' ∧ IsT C CT (.ref tr) b c a H') (fun N hN => ?_) ?_
    · refine ⟨_, rfl, -7, 8, rfl, ⟨by decide, by decide, by decide, by decide⟩, ?_⟩
      refine for_range (lo := -7) (n := 15) (fun j σ' H' => ∃ v10 v11 : Option V, σ' = [some (.ref sa), some (.int (0 + i)), some (.ref pl), some (.ref qa), some (.ref qb), some (.ref qc), v6, some (.ref tr), v8, v9, v10, v11, v12, v13, v14, v15, v16, v17, v18] ∧ Cor H0 pl qa qb qc a b c H' ∧ IsT C CT (.ref tr) b c a H') ⟨_, _, rfl, W3, T3'⟩ ?_ (fun σ' H' h => hN _ _ h)
      rintro j σ H4 hj ⟨v10, v11, rfl, W4, T4⟩
      refine seq_gen (fun σ' H' => ∃ qp p, σ' = [some (.ref sa), some (.int (0 + i)), some (.ref pl), some (.ref qa), some (.ref qb), some (.ref qc), v6, some (.ref tr), v8, v9, some (.int (-7 + j)), some (.ref qp), v12, v13, v14, v15, v16, v17, v18] ∧ Cor H0 pl qa qb qc a b c H' ∧ IsT C CT (.ref tr) b c a H' ∧ Tp H' qp p ∧ Sm2 5 p) (fun N hN => ?_) ?_
      · refine ⟨_, rfl, _, rfl, pl, 15, rfl, W4.pool, by decide, by decide, fun r H5 r0 r1 b5 p5 => ?_⟩
        refine ⟨_, _, rfl, rfl, Z2, fun t nt => ?_⟩
        have g := same_new (o := .tup [.int (-7 + (j : Int)), .int (r - 7)]) nt
        exact hN _ _ ⟨t, (-7 + (j : Int), r - 7), rfl, (W4.but hpl b5 p5).ex g, (T4.butP W4.pool b5).ex g, upd_same, sm5 (by show -31 ≤ -7 + (j : Int); omega) (by show -7 + (j : Int) ≤ 31; omega), sm5 (by show -31 ≤ r - 7; omega) (by show r - 7 ≤ 31; omega)⟩
      rintro σ H5 ⟨qp, p, rfl, W5, T5, hp, sp⟩
      clear W4 T4
      obtain ⟨_, dx, l6, w1, w2', w3', q, htr, _⟩ := id T5
      cases q
      refine ⟨_, rfl, _, rfl, tr, dx, _, rfl, htr, _, _, rfl, .inl ⟨5, b, c, a, p, T5, ⟨qp, rfl, .inr hp⟩, by decide, sB, sC, sA, sp, fun H6 e6 => ⟨_, rfl, ?_⟩⟩⟩
      refine ⟨_, rfl, _, rfl, _, rfl, Z3, fun l nl => ?_⟩
      have g7 := e6.trans (same_new (o := .lst [.ref qa, .ref qb, .ref qc]) nl)
      refine ⟨_, rfl, 5, l, qa, qb, qc, qp, a, b, c, p, rfl, SqL.of upd_same, W5.t.ex g7, g7 _ _ hp, by decide, sA, sB, sC, sp, fun H8 e8 => ?_⟩
      have g8 := g7.trans e8
      refine ⟨rfl, _, rfl, ?_⟩
      have hh : decide (V.bl (if false = true then !inT b c a p else inT b c a p) = V.bl (inT a b c p)) = true := decide_eq_true (by
        show V.bl (inT b c a p) = _
        rw [inT_rot])
      rw [hh]
      refine iteF ?_
      have hp8 := g8 _ _ hp
      refine ⟨_, rfl, qp, _, _, _, rfl, rfl, SqT.of hp8, atI_nat (j := 0) rfl, _, rfl, qp, _, _, _, rfl, rfl, SqT.of hp8, atI_nat (j := 1) rfl, ?_⟩
      refine fun c5 dc5 nc5 nd5 ne5 => ⟨c5, dc5, p.1, p.2, rfl, upd_same, rfl, ?_⟩
      have e9 := made_same (C := C) (X := p.1) (Y := p.2) nc5 nd5
      have h9 := made_is (C := C) (x := c5) (dx := dc5) (H := H8) (X := p.1) (Y := p.2)
      generalize upd (upd (upd (upd H8 dc5 (.own c5)) c5 (.ins C dc5 [])) c5 (.ins C dc5 (putF "x" (.int p.1) []))) c5 (.ins C dc5 (ptF p.1 p.2)) = H9 at e9 h9
      have g9 := g8.trans e9
      refine ⟨_, rfl, tr, dx, _, rfl, g9 _ _ htr, _, _, rfl, .inl ⟨5, b, c, a, p, T5.ex g9, h9.pt, by decide, sB, sC, sA, sp, fun H10 e10 => ⟨_, rfl, ?_⟩⟩⟩
      have g10 := g9.trans e10
      refine ⟨_, rfl, _, rfl, tr, dx, _, rfl, g10 _ _ htr, _, _, rfl, .inl ⟨5, b, c, a, p, T5.ex g10, ⟨qp, rfl, .inr (g10 _ _ hp)⟩, by decide, sB, sC, sA, sp, fun H11 e11 => ⟨_, rfl, rfl, _, rfl, ?_⟩⟩⟩
      rw [decide_eq_true (rfl : V.bl (if false = true then !inT b c a p else inT b c a p) = V.bl (if false = true then !inT b c a p else inT b c a p))]
      refine iteF ?_
      have g11 := g10.trans e11
      exact ⟨_, _, rfl, W5.ex g11, T5.ex g11⟩
    rintro σ H4 ⟨v10, v11, rfl, W4, T4⟩
    clear W3 T3'
    -- the odd ones are not in it, a is
    refine seq_gen (fun σ' H' => σ' = [some (.ref sa), some (.int (0 + i)), some (.ref pl), some (.ref qa), some (.ref qb), some (.ref qc), v6, some (.ref tr), v8, v9, v10, v11, v12, v13, v14, v15, v16, v17, v18] ∧ Same H4 H') (fun N hN => ?_) ?_
    · obtain ⟨_, dx, l6, w1, w2', w3', q, htr, _⟩ := id T4
      cases q
      refine ⟨(by show 1 ≤ sizeLine; decide), fun t1 n1 => ⟨Z2, fun t2 n2 => ⟨Z2, fun t3 n3 => ⟨(by show 6 ≤ sizeLine; decide), fun l nl => ?_⟩⟩⟩⟩
      have g1 := same_new (o := .tup [.int 1]) n1
      have g2 := same_new (o := .tup [.bl true, .int 0]) n2
      have g3 := same_new (o := .lst [.int 0, .int 0]) n3
      have g4 := same_new (o := .lst [.non, .int 5, .ref t1, .str "a", .ref t2, .ref t3]) nl
      have gg := g1.trans (g2.trans (g3.trans g4))
      have k1 := (g2.trans (g3.trans g4)) _ _ (upd_same (H := H4) (a := t1) (o := .tup [.int 1]))
      have k2 := (g3.trans g4) _ _ upd_same
      have k3 := g4 _ _ upd_same
      have hl := upd_same (H := upd (upd (upd H4 t1 (.tup [.int 1])) t2 (.tup [.bl true, .int 0])) t3 (.lst [.int 0, .int 0])) (a := l) (o := .lst [.non, .int 5, .ref t1, .str "a", .ref t2, .ref t3])
      refine ⟨l, rfl, ⟨_, SqL.of hl⟩, ?_⟩
      generalize upd (upd (upd (upd H4 t1 (.tup [.int 1])) t2 (.tup [.bl true, .int 0])) t3 (.lst [.int 0, .int 0])) l (.lst [.non, .int 5, .ref t1, .str "a", .ref t2, .ref t3]) = H5 at gg k1 k2 k3 hl
      have bads : ∀ (j : Nat) (v : V), [V.non, .int 5, .ref t1, .str "a", .ref t2, .ref t3][j]? = some v → Bad H5 v := fun j v hv => by
        match j, hv with
        | 0, hv => cases hv; exact .non
        | 1, hv => cases hv; exact .int 5
        | 2, hv => cases hv; exact .tup k1 (by decide)
        | 3, hv => cases hv; exact .str _
        | 4, hv => cases hv; exact .two k2 trivial trivial rfl
        | 5, hv => cases hv; exact .lst k3
        | j + 6, hv => simp at hv
      refine fun D0 nD => ?_
      refine lc_filt (K := K) (xs := [.non, .int 5, .ref t1, .str "a", .ref t2, .ref t3]) (sl := [15]) (fun _ => false) .non (SqL.of hl) (by show 6 ≤ 1000; decide) ?_ ?_ nD
      · intro j x H6 hx e6 Nx Q' kF kT
        refine ⟨rfl, ?_⟩
        refine ⟨_, rfl, _, rfl, tr, dx, _, rfl, (gg.trans e6) _ _ htr, _, _, rfl, .inr ⟨(bads j x hx).ex e6, _, rfl, _, rfl, ?_⟩⟩
        exact iteF (kF rfl _ (Same.refl _))
      · intro H6 e6 hD
        have hD' : H6 D0 = some (.lst []) := hD
        refine ⟨(by show 0 ≤ sizeLine; decide), fun z nz => ?_⟩
        have g7 := same_new (o := .lst []) nz
        refine ⟨.list [], .list [], .lst (SqL.of (g7 _ _ hD')) .nil, .lst (SqL.of upd_same) .nil, by decide +kernel, by decide +kernel, _, rfl, ?_⟩
        rw [sh_self (by decide +kernel)]
        refine iteF ?_
        have g8 := gg.trans (e6.trans g7)
        have W8 := W4.ex g8
        refine ⟨_, rfl, _, rfl, tr, dx, _, rfl, g8 _ _ htr, _, _, rfl, .inl ⟨5, b, c, a, a, T4.ex g8, ⟨qa, rfl, .inr W8.t.a⟩, by decide, sB, sC, sA, sA, fun H9 e9 => ⟨_, rfl, _, rfl, ?_⟩⟩⟩
        rw [inT_rot, inT_a pos]
        refine iteF ?_
        exact hN _ _ ⟨rfl, g8.trans e9⟩
    rintro σ H5 ⟨rfl, e5⟩
    have W5 := W4.ex e5
    have T5 := T4.ex e5
    clear W4 T4 e5
    -- by
    refine seq_gen (fun σ' H' => ∃ qy y, σ' = [some (.ref sa), some (.int (0 + i)), some (.ref pl), some (.ref qa), some (.ref qb), some (.ref qc), v6, some (.ref tr), v8, v9, v10, v11, some (.ref qy), v13, v14, v15, v16, v17, v18] ∧ Cor H0 pl qa qb qc a b c H' ∧ IsT C CT (.ref tr) b c a H' ∧ Tp H' qy y ∧ Sm2 5 y) (fun N hN => ?_) ?_
    · refine ⟨_, rfl, pl, 9, rfl, W5.pool, by decide, by decide, fun q x y H6 b6 p6 hq x0 x1 y0 y1 => ?_⟩
      exact hN _ _ ⟨q, (x, y), rfl, W5.but hpl b6 p6, T5.butP W5.pool b6, hq, sm5 (by show -31 ≤ x; omega) (by show x ≤ 31; omega), sm5 (by show -31 ≤ y; omega) (by show y ≤ 31; omega)⟩
    rintro σ H6 ⟨qy, y, rfl, W6, T6, hy, sy⟩
    clear W5 T5
    -- moved
    refine seq_gen (fun σ' H' => ∃ (ml : Addr) (m1 m2 m3 : V), σ' = [some (.ref sa), some (.int (0 + i)), some (.ref pl), some (.ref qa), some (.ref qb), some (.ref qc), v6, some (.ref tr), v8, v9, v10, v11, some (.ref qy), some (.ref ml), v14, v15, v16, v17, v18] ∧ Same H6 H' ∧ H' ml = some (.lst [m1, m2, m3]) ∧ Three C m1 m2 m3 (mv a y) (mv b y) (mv c y) H') (fun N hN => ?_) ?_
    · refine ⟨_, rfl, _, rfl, _, rfl, Z3, fun l nl => ?_⟩
      have g := same_new (o := .lst [.ref qa, .ref qb, .ref qc]) nl
      have hl := upd_same (H := H6) (a := l) (o := .lst [.ref qa, .ref qb, .ref qc])
      refine ⟨l, rfl, ⟨_, SqL.of hl⟩, fun D0 nD => ?_⟩
      refine lc_all (K := K) (xs := [.ref qa, .ref qb, .ref qc]) (sl := [17]) (fun i v H => IsP C v (mv (if i = 0 then a else if i = 1 then b else c) y).1 (mv (if i = 0 then a else if i = 1 then b else c) y).2 H) (fun i v H H' e h => h.ex e) (fun i v H H' D ys hD b h => h.but hD b) (SqL.of hl) (by show 3 ≤ 1000; decide) ?_ ?_ nD
      · intro i x H7 hx e7 Q' k'
        have W7 := W6.ex (g.trans e7)
        have hy7 := (g.trans e7) _ _ hy
        refine ⟨rfl, ?_⟩
        have one : ∀ (q : Addr) (p : I2), Tp H7 q p → (∀ v H'', Same H7 H'' → IsP C v (mv p y).1 (mv p y).2 H'' → Q' v H'') → ∀ c5 dc5, H7 c5 = none → H7 dc5 = none → dc5 ≠ c5 → ∃ H8, H8 = upd (upd (upd (upd H7 dc5 (.own c5)) c5 (.ins C dc5 [])) c5 (.ins C dc5 (putF "x" (.int p.1) []))) c5 (.ins C dc5 (ptF p.1 p.2)) ∧ H8 c5 = some (.ins C dc5 (ptF p.1 p.2)) ∧ H8 qy = some (.tup [.int y.1, .int y.2]) ∧ IsP C (.ref c5) p.1 p.2 H8 ∧ IsPt C (.ref qy) y.1 y.2 H8 ∧ ∀ w H9, Same H8 H9 → IsP C w (p.1 + y.1) (p.2 + y.2) H9 → Q' w H9 := fun q p hq kk c5 dc5 nc nd ne => by
          have e8 := made_same (C := C) (X := p.1) (Y := p.2) nc nd
          have h8 := made_is (C := C) (x := c5) (dx := dc5) (H := H7) (X := p.1) (Y := p.2)
          exact ⟨_, rfl, upd_same, e8 _ _ hy7, h8, ⟨qy, rfl, .inr (e8 _ _ hy7)⟩, fun w H9 e9 h9 => kk w H9 (e8.trans e9) h9⟩
        rcases two3 hx with ⟨rfl, rfl⟩ | ⟨rfl, rfl⟩ | ⟨rfl, rfl⟩
        · refine ⟨_, rfl, qa, _, _, _, rfl, rfl, SqT.of W7.t.a, atI_nat (j := 0) rfl, _, rfl, qa, _, _, _, rfl, rfl, SqT.of W7.t.a, atI_nat (j := 1) rfl, fun c5 dc5 nc nd ne => ⟨c5, dc5, a.1, a.2, rfl, upd_same, rfl, ?_⟩⟩
          obtain ⟨H8, rfl, z1, z2, z3, z4, kk⟩ := one qa a W7.t.a k' c5 dc5 nc nd ne
          exact ⟨_, rfl, c5, dc5, _, rfl, z1, .inr ⟨qy, _, rfl, z2⟩, _, _, _, _, _, _, rfl, z3, z4, kk⟩
        · refine ⟨_, rfl, qb, _, _, _, rfl, rfl, SqT.of W7.t.b, atI_nat (j := 0) rfl, _, rfl, qb, _, _, _, rfl, rfl, SqT.of W7.t.b, atI_nat (j := 1) rfl, fun c5 dc5 nc nd ne => ⟨c5, dc5, b.1, b.2, rfl, upd_same, rfl, ?_⟩⟩
          obtain ⟨H8, rfl, z1, z2, z3, z4, kk⟩ := one qb b W7.t.b k' c5 dc5 nc nd ne
          exact ⟨_, rfl, c5, dc5, _, rfl, z1, .inr ⟨qy, _, rfl, z2⟩, _, _, _, _, _, _, rfl, z3, z4, kk⟩
        · refine ⟨_, rfl, qc, _, _, _, rfl, rfl, SqT.of W7.t.c, atI_nat (j := 0) rfl, _, rfl, qc, _, _, _, rfl, rfl, SqT.of W7.t.c, atI_nat (j := 1) rfl, fun c5 dc5 nc nd ne => ⟨c5, dc5, c.1, c.2, rfl, upd_same, rfl, ?_⟩⟩
          obtain ⟨H8, rfl, z1, z2, z3, z4, kk⟩ := one qc c W7.t.c k' c5 dc5 nc nd ne
          exact ⟨_, rfl, c5, dc5, _, rfl, z1, .inr ⟨qy, _, rfl, z2⟩, _, _, _, _, _, _, rfl, z3, z4, kk⟩
      · intro H7 vs e7 hv hlen7 hR
        obtain ⟨m1, m2, m3, rfl⟩ := len3' hlen7
        exact hN _ _ ⟨D0, m1, m2, m3, rfl, g.trans e7, hv, hR 0 m1 rfl, hR 1 m2 rfl, hR 2 m3 rfl⟩
    rintro σ H7 ⟨ml, m1, m2, m3, rfl, e7, hml, tm⟩
    have W7 := W6.ex e7
    have T7 := T6.ex e7
    have hy7 := e7 _ _ hy
    clear W6 T6 e7 hy
    -- triangle.moved(by) != ..
    refine seq_gen (fun σ' H' => σ' = [some (.ref sa), some (.int (0 + i)), some (.ref pl), some (.ref qa), some (.ref qb), some (.ref qc), v6, some (.ref tr), v8, v9, v10, v11, some (.ref qy), some (.ref ml), v14, v15, v16, v17, v18] ∧ Same H7 H') (fun N hN => ?_) ?_
    · obtain ⟨_, dx, l6, w1, w2', w3', q, htr, _⟩ := id T7
      cases q
      refine ⟨_, rfl, tr, dx, _, rfl, htr, tipF_no _ (by decide +kernel), _, rfl, 5, _, _, b, c, a, y, rfl, T7, ⟨qy, rfl, .inr hy7⟩, by decide, sB, sC, sA, sy, by rw [sd_rot]; exact pos, fun t8 H8 e8 h8 => ?_⟩
      have tm8 := tm.ex e8
      have hml8 := e8 _ _ hml
      refine ⟨_, rfl, ml, _, _, _, rfl, rfl, SqL.of hml8, atI_nat (j := 0) rfl, _, rfl, ml, _, _, _, rfl, rfl, SqL.of hml8, atI_nat (j := 1) rfl, _, rfl, ml, _, _, _, rfl, rfl, SqL.of hml8, atI_nat (j := 2) rfl, ?_⟩
      refine fun tr2 dx2 nx2 nd2 ne2 => ?_
      have g2 : Same H8 (upd (upd H8 dx2 (.own tr2)) tr2 (.ins CT dx2 [])) := (same_new nd2).trans (same_new (by rw [upd_ne ne2.symm]; exact nx2))
      have pos3 : 0 < sd (mv a y) (mv b y) (mv c y) := by rw [sd_mv]; exact pos
      refine ⟨6, tr2, dx2, _, _, _, mv a y, mv b y, mv c y, rfl, upd_same, IsPt2.ex g2 tm8.1.pt, IsPt2.ex g2 tm8.2.1.pt, IsPt2.ex g2 tm8.2.2.pt, by decide, sA.mv sy, sB.mv sy, sC.mv sy, by omega, fun l7 w4 w5 w6 H9 bt htr2 hl7 ht7 => ⟨rfl, ?_⟩⟩
      rw [(on1 pos3).1, (on1 pos3).2] at ht7
      have e9 := bt.same nx2 g2
      have h9 := h8.ex e9
      obtain ⟨t3', dx3, l8, w7, w8, w9, rfl, htr3, _⟩ := id h9
      refine ⟨t3', dx3, _, tr2, dx2, _, rfl, htr3, rfl, htr2, _, _, _, _, _, rfl, h9, .inl ⟨_, _, _, ⟨tr2, dx2, l7, w4, w5, w6, rfl, htr2, hl7, ht7⟩, fun H10 e10 => ⟨_, rfl, _, rfl, ?_⟩⟩⟩
      rw [eqT_3]
      refine iteF ?_
      exact hN _ _ ⟨rfl, e8.trans (e9.trans e10)⟩
    rintro σ H8 ⟨rfl, e8⟩
    have W8 := W7.ex e8
    have T8 := T7.ex e8
    clear W7 T7 e8 hml tm hy7
    -- triangle == Triangle(a, b, far)
    refine seq_gen (fun σ' H' => σ' = [some (.ref sa), some (.int (0 + i)), some (.ref pl), some (.ref qa), some (.ref qb), some (.ref qc), v6, some (.ref tr), v8, v9, v10, v11, some (.ref qy), some (.ref ml), v14, v15, v16, v17, v18] ∧ Same H8 H') (fun N hN => ?_) ?_
    · obtain ⟨_, dx, l6, w1, w2', w3', q, htr, _⟩ := id T8
      cases q
      have ta := W8.t.a
      have tb := W8.t.b
      have tc := W8.t.c
      refine ⟨_, rfl, _, rfl, _, rfl, ?_⟩
      refine ⟨_, rfl, qc, _, _, _, rfl, rfl, SqT.of tc, atI_nat (j := 0) rfl, _, rfl, qb, _, _, _, rfl, rfl, SqT.of tb, atI_nat (j := 0) rfl, _, _, rfl, rfl, _, rfl, qa, _, _, _, rfl, rfl, SqT.of ta, atI_nat (j := 0) rfl, _, _, rfl, rfl, ?_⟩
      refine ⟨_, rfl, qc, _, _, _, rfl, rfl, SqT.of tc, atI_nat (j := 1) rfl, _, rfl, qb, _, _, _, rfl, rfl, SqT.of tb, atI_nat (j := 1) rfl, _, _, rfl, rfl, _, rfl, qa, _, _, _, rfl, rfl, SqT.of ta, atI_nat (j := 1) rfl, _, _, rfl, rfl, Z2, fun t nt => ?_⟩
      have g := same_new (o := .tup [.int (far a b c).1, .int (far a b c).2]) nt
      have tf : Tp (upd H8 t (.tup [.int (far a b c).1, .int (far a b c).2])) t (far a b c) := upd_same
      have W9 := W8.ex g
      have T9 := T8.ex g
      have sf : Sm2 7 (far a b c) := by
        obtain ⟨a1, a2⟩ := sA
        obtain ⟨b1, b2⟩ := sB
        obtain ⟨c1, c2⟩ := sC
        unfold Sm at *
        constructor
        · show (c.1 + b.1 - a.1).natAbs < 2 ^ 7
          omega
        · show (c.2 + b.2 - a.2).natAbs < 2 ^ 7
          omega
      refine fun tr2 dx2 nx2 nd2 ne2 => ?_
      have pos4 : 0 < sd a b (far a b c) := by rw [sd_far]; exact pos
      change Same H8 (upd H8 t (.tup [.int (c.1 + b.1 - a.1), .int (c.2 + b.2 - a.2)])) at g
      change Cor H0 pl qa qb qc a b c (upd H8 t (.tup [.int (c.1 + b.1 - a.1), .int (c.2 + b.2 - a.2)])) at W9
      change IsT C CT (.ref tr) b c a (upd H8 t (.tup [.int (c.1 + b.1 - a.1), .int (c.2 + b.2 - a.2)])) at T9
      change Tp (upd H8 t (.tup [.int (c.1 + b.1 - a.1), .int (c.2 + b.2 - a.2)])) t (far a b c) at tf
      generalize upd H8 t (.tup [.int (c.1 + b.1 - a.1), .int (c.2 + b.2 - a.2)]) = H9 at g W9 T9 tf nx2 nd2 ⊢
      have g2 : Same H9 (upd (upd H9 dx2 (.own tr2)) tr2 (.ins CT dx2 [])) := (same_new nd2).trans (same_new (by rw [upd_ne ne2.symm]; exact nx2))
      refine ⟨7, tr2, dx2, _, _, _, a, b, far a b c, rfl, upd_same, IsPt2.ex g2 ⟨qa, rfl, .inr W9.t.a⟩, IsPt2.ex g2 ⟨qb, rfl, .inr W9.t.b⟩, IsPt2.ex g2 ⟨t, rfl, .inr tf⟩, by decide, sA.up (by decide), sB.up (by decide), sf, by omega, fun l7 w4 w5 w6 H10 bt htr2 hl7 ht7 => ⟨rfl, ?_⟩⟩
      rw [(on1 pos4).1, (on1 pos4).2] at ht7
      have e10 := bt.same nx2 g2
      have T10 := T9.ex e10
      obtain ⟨_, dx', l8, w7, w8, w9, q, htr', _⟩ := id T10
      cases q
      refine ⟨tr, dx', _, rfl, htr', .inl ⟨tr2, dx2, _, rfl, htr2⟩, _, _, b, c, a, rfl, T10, .inl ⟨_, _, _, ⟨tr2, dx2, l7, w4, w5, w6, rfl, htr2, hl7, ht7⟩, fun H11 e11 => ⟨_, rfl, ?_⟩⟩⟩
      rw [eqT_far pos]
      refine iteF ?_
      exact hN _ _ ⟨rfl, g.trans (e10.trans e11)⟩
    rintro σ H9 ⟨rfl, e9⟩
    have W9 := W8.ex e9
    clear W8 T8 e9
    -- flat
    refine seq_gen (fun σ' H' => ∃ fq tq, σ' = [some (.ref sa), some (.int (0 + i)), some (.ref pl), some (.ref qa), some (.ref qb), some (.ref qc), v6, some (.ref tr), v8, v9, v10, v11, some (.ref qy), some (.ref ml), some (.ref fq), v15, v16, v17, v18] ∧ Same H9 H' ∧ H' fq = some (.tup [.ref qa, .ref qb, .ref tq]) ∧ Tp H' tq (beh a b)) (fun N hN => ?_) ?_
    · have ta := W9.t.a
      have tb := W9.t.b
      have M2 : ∀ z : Int, CMul z 2 := fun z => .inr ⟨by decide, by decide⟩
      refine ⟨_, rfl, _, rfl, ?_⟩
      refine ⟨_, rfl, qb, _, _, _, rfl, rfl, SqT.of tb, atI_nat (j := 0) rfl, _, _, rfl, rfl, M2 _, _, rfl, qa, _, _, _, rfl, rfl, SqT.of ta, atI_nat (j := 0) rfl, _, _, rfl, rfl, ?_⟩
      refine ⟨_, rfl, qb, _, _, _, rfl, rfl, SqT.of tb, atI_nat (j := 1) rfl, _, _, rfl, rfl, M2 _, _, rfl, qa, _, _, _, rfl, rfl, SqT.of ta, atI_nat (j := 1) rfl, _, _, rfl, rfl, Z2, fun t nt => ⟨Z3, fun fq nf => ?_⟩⟩
      have g1 := same_new (o := .tup [.int (b.1 * 2 - a.1), .int (b.2 * 2 - a.2)]) nt
      have g2 := same_new (o := .tup [.ref qa, .ref qb, .ref t]) nf
      exact hN _ _ ⟨fq, t, rfl, g1.trans g2, upd_same, g2 _ _ upd_same⟩
    rintro σ H10 ⟨fq, tq, rfl, e10, hfq, htq⟩
    have W10 := W9.ex e10
    clear W9 e10
    -- what is flat is refused
    refine seq_gen (fun σ' H' => σ' = [some (.ref sa), some (.int (0 + i)), some (.ref pl), some (.ref qa), some (.ref qb), some (.ref qc), v6, some (.ref tr), v8, v9, v10, v11, some (.ref qy), some (.ref ml), some (.ref fq), v15, v16, v17, v18] ∧ Same H10 H') (fun N hN => ?_) ?_
    · have sb7 : Sm2 7 (beh a b) := by
        obtain ⟨a1, a2⟩ := sA
        obtain ⟨b1, b2⟩ := sB
        unfold Sm at *
        constructor
        · show (b.1 * 2 - a.1).natAbs < 2 ^ 7
          omega
        · show (b.2 * 2 - a.2).natAbs < 2 ^ 7
          omega
      refine ⟨_, rfl, fq, _, _, _, rfl, hfq, .inl ⟨a, b, beh a b, ⟨⟨qa, rfl, .inr W10.t.a⟩, ⟨qb, rfl, .inr W10.t.b⟩, ⟨tq, rfl, .inr htq⟩, 7, by decide, sA.up (by decide), sB.up (by decide), sb7, sd_beh a b⟩, fun t l q1 q2 q3 H11 e11 ht hl h3 => ?_⟩⟩
      refine ⟨_, rfl, _, rfl, _, rfl, fq, _, _, _, rfl, rfl, SqT.of (e11 _ _ hfq), atI_nat (j := 2) rfl, Z3, fun l2 nl2 => ⟨Z2, fun t2 nt2 => ?_⟩⟩
      have g1 := same_new (o := .lst [.ref qa, .ref qb, .ref tq]) nl2
      have g2 := same_new (o := .tup [.str "flat", .ref l2]) nt2
      have g := g1.trans g2
      have W12 := W10.ex (e11.trans g)
      refine ⟨fl a b (beh a b), fl a b (beh a b), .tup (SqT.of (g _ _ ht)) (.cons (.str _) (.cons (l3_dp (g _ _ hl) (h3.ex g)) .nil)), .tup (SqT.of upd_same) (.cons (.str _) (.cons (l3_dp (g2 _ _ upd_same) ⟨W12.t.a, W12.t.b, (e11.trans g) _ _ htq⟩) .nil)), fl_sh _ _ _, fl_sh _ _ _, _, rfl, ?_⟩
      rw [sh_self (fl_sh _ _ _)]
      refine iteF ?_
      refine ⟨_, rfl, _, rfl, _, rfl, Z3, fun th nth => ?_⟩
      have g3 := (e11.trans g).trans (same_new (o := .tup [.ref qa, .ref qa, .ref qb]) nth)
      have W13 := W10.ex g3
      refine ⟨th, _, _, _, rfl, upd_same, .inl ⟨a, a, b, ⟨⟨qa, rfl, .inr W13.t.a⟩, ⟨qa, rfl, .inr W13.t.a⟩, ⟨qb, rfl, .inr W13.t.b⟩, 5, by decide, sA, sA, sB, sd_aab a b⟩, fun t l q1 q2 q3 H14 e14 ht hl h3 => ?_⟩⟩
      refine ⟨_, rfl, _, rfl, _, rfl, Z3, fun l3' nl3 => ⟨Z2, fun t3 nt3 => ?_⟩⟩
      have g4 := same_new (o := .lst [.ref qa, .ref qa, .ref qb]) nl3
      have g5 := same_new (o := .tup [.str "flat", .ref l3']) nt3
      have g6 := g4.trans g5
      have W14 := W13.ex (e14.trans g6)
      refine ⟨fl a a b, fl a a b, .tup (SqT.of (g6 _ _ ht)) (.cons (.str _) (.cons (l3_dp (g6 _ _ hl) (h3.ex g6)) .nil)), .tup (SqT.of upd_same) (.cons (.str _) (.cons (l3_dp (g5 _ _ upd_same) ⟨W14.t.a, W14.t.a, W14.t.b⟩) .nil)), fl_sh _ _ _, fl_sh _ _ _, _, rfl, ?_⟩
      rw [sh_self (fl_sh _ _ _)]
      refine iteF ?_
      exact hN _ _ ⟨rfl, g3.trans (e14.trans g6)⟩
    rintro σ H11 ⟨rfl, e11⟩
    have W11 := W10.ex e11
    clear W10 e11 hfq htq
    -- odd
    refine seq_gen (fun σ' H' => ∃ v15, σ' = [some (.ref sa), some (.int (0 + i)), some (.ref pl), some (.ref qa), some (.ref qb), some (.ref qc), v6, some (.ref tr), v8, v9, v10, v11, some (.ref qy), some (.ref ml), some (.ref fq), some v15, v16, v17, v18] ∧ Cor H0 pl qa qb qc a b c H' ∧ OddOne K H' v15) (fun N hN => ?_) ?_
    · refine ⟨(by show 1 ≤ sizeLine; decide), fun t1 n1 => ⟨Z2, fun t2 n2 => ⟨Z2, fun t3 n3 => ⟨(by show 5 ≤ sizeLine; decide), fun l nl => ?_⟩⟩⟩⟩
      have g1 := same_new (o := .tup [.int 1]) n1
      have g2 := same_new (o := .tup [.int 1, .str "2"]) n2
      have g3 := same_new (o := .tup [.bl true, .int 1]) n3
      have g4 := same_new (o := .lst [.non, .ref t1, .ref t2, .int 7, .ref t3]) nl
      have W12 := W11.ex (g1.trans (g2.trans (g3.trans g4)))
      have k1 := (g2.trans (g3.trans g4)) _ _ (upd_same (H := H11) (a := t1) (o := .tup [.int 1]))
      have k2 := (g3.trans g4) _ _ upd_same
      have k3 := g4 _ _ upd_same
      have hl := upd_same (H := upd (upd (upd H11 t1 (.tup [.int 1])) t2 (.tup [.int 1, .str "2"])) t3 (.tup [.bl true, .int 1])) (a := l) (o := .lst [.non, .ref t1, .ref t2, .int 7, .ref t3])
      have nlp : l ≠ pl := fun z => by
        obtain ⟨i', j', hp', _⟩ := W11.pool
        have hp3 := (g1.trans (g2.trans g3)) _ _ hp'
        rw [z, hp3] at nl
        cases nl
      refine ⟨_, rfl, pl, 5, rfl, W12.pool, by decide, by decide, fun r H13 r0 r1 b13 p13 => ?_⟩
      have K1 := b13 _ _ (tup_ne W12.pool k1) k1
      have K2 := b13 _ _ (tup_ne W12.pool k2) k2
      have K3 := b13 _ _ (tup_ne W12.pool k3) k3
      have menu : ∃ v, atI [V.non, .ref t1, .ref t2, .int 7, .ref t3] r = some v ∧ OddOne K H13 v := by
        have : r = 0 ∨ r = 1 ∨ r = 2 ∨ r = 3 ∨ r = 4 := by omega
        rcases this with rfl | rfl | rfl | rfl | rfl
        · exact ⟨_, atI_nat (j := 0) rfl, odd_none⟩
        · exact ⟨_, atI_nat (j := 1) rfl, odd_1 K1⟩
        · exact ⟨_, atI_nat (j := 2) rfl, odd_1s K2⟩
        · exact ⟨_, atI_nat (j := 3) rfl, odd_7⟩
        · exact ⟨_, atI_nat (j := 4) rfl, odd_t1 K3⟩
      obtain ⟨v, hv, ho⟩ := menu
      refine ⟨l, _, _, _, rfl, rfl, SqL.of (b13 _ _ nlp hl), hv, ?_⟩
      exact hN _ _ ⟨v, rfl, W12.but hpl b13 p13, ho⟩
    rintro σ H12 ⟨v15, rfl, W12, ho⟩
    clear W11
    -- what is no point is refused
    obtain ⟨od, bad, dp, sh, shp⟩ := ho
    refine ⟨_, rfl, _, rfl, Z3, fun th nth => ?_⟩
    have g1 := same_new (o := .tup [.ref qa, v15, .non]) nth
    have W13 := W12.ex g1
    refine ⟨th, _, _, _, rfl, upd_same, .inr ⟨v15, od, .inr ⟨rfl, a, ⟨qa, rfl, .inr W13.t.a⟩⟩, bad.ex g1, Dp.ex g1 _ _ dp, sh, fun t H14 e14 ht => ?_⟩⟩
    have g2 := g1.trans e14
    refine ⟨_, rfl, v15, od, rfl, Dp.ex g2 _ _ dp, sh.s, sh.nd, sh.dp, sh.z, Z2, fun t2 nt2 => ?_⟩
    have g3 := same_new (o := .tup [.str "point", .str od.shown]) nt2
    refine ⟨po od.shown, po od.shown, .tup (SqT.of (g3 _ _ ht)) (.cons (.str _) (.cons (.str _) .nil)), .tup (SqT.of upd_same) (.cons (.str _) (.cons (.str _) .nil)), shp, shp, _, rfl, ?_⟩
    rw [sh_self shp]
    refine iteF ?_
    have g4 := g2.trans g3
    refine ⟨_, rfl, _, rfl, Z3, fun th2 nth2 => ?_⟩
    have g5 := g4.trans (same_new (o := .tup [v15, .non, .ref qc]) nth2)
    refine ⟨th2, _, _, _, rfl, upd_same, .inr ⟨v15, od, .inl rfl, bad.ex g5, Dp.ex g5 _ _ dp, sh, fun t H16 e16 ht => ?_⟩⟩
    have g6 := g5.trans e16
    refine ⟨_, rfl, v15, od, rfl, Dp.ex g6 _ _ dp, sh.s, sh.nd, sh.dp, sh.z, Z2, fun t3 nt3 => ?_⟩
    have g7 := same_new (o := .tup [.str "point", .str od.shown]) nt3
    refine ⟨po od.shown, po od.shown, .tup (SqT.of (g7 _ _ ht)) (.cons (.str _) (.cons (.str _) .nil)), .tup (SqT.of upd_same) (.cons (.str _) (.cons (.str _) .nil)), shp, shp, _, rfl, ?_⟩
    rw [sh_self shp]
    refine iteF ?_
    exact ⟨_, _, _, _, _, _, _, _, _, _, _, _, _, _, _, _, _, _, rfl, eH.trans ((W12.base).trans (g6.trans g7))⟩

end
end Fo
set_option Elab.async false
set_option linter.all false
set_option maxRecDepth 100000
set_option maxHeartbeats 0
namespace Fo
open PySem L2
theorem all_mk {l : PySem.W.OpenLaw} {w : World} {K : PySem.W.Frag} {h : Heap} {mg : Str → Option Value} {fa C CT CF pAr fW fI fP fA fO fS fTI fCo fEd fAr fMv fTin fTeq fEq fAd fPm fH fD fPr fLs fCn fWy fR fWi fZ CIp gIp NIp cdaIp ccIp CFl gFl NFl cdaFl ccFl : Addr} (X : K.In h) (G : h.Ns mainGlobals mg) (hfa : mg "law" = some (.ref fa))
    {rsA : List Value}
    {nmIp qnIp quIp msIp fiIp : Str} {bsIp bmIp subIp : List Value} {snIp : List Str} {abIp : Bool} {colIp : Option Bool} {ddIp odgIp angIp cddIp cldIp : Option Addr} {e0Ip e1Ip e2Ip e3Ip e5Ip : Option Value} {ocgIp kVgIp dcgIp pmgIp ctgIp cclIp clIp : Value} {slgIp ccsIp cslIp : Array (Option Value)} {vsIp : Array Value} {p1Ip p2Ip r1Ip r2Ip r3Ip r4Ip r5Ip r6Ip q1Ip q2Ip q3Ip q4Ip : Pos} {jIp : Nat} {tfIp : Tok}
    {nmFl qnFl quFl msFl fiFl : Str} {bsFl bmFl subFl : List Value} {snFl : List Str} {abFl : Bool} {colFl : Option Bool} {ddFl odgFl angFl cddFl cldFl : Option Addr} {e0Fl e1Fl e2Fl e3Fl e5Fl : Option Value} {ocgFl kVgFl dcgFl pmgFl ctgFl cclFl clFl : Value} {slgFl ccsFl cslFl : Array (Option Value)} {vsFl : Array Value} {p1Fl p2Fl r1Fl r2Fl r3Fl r4Fl r5Fl r6Fl q1Fl q2Fl q3Fl q4Fl : Pos} {jFl : Nat} {tfFl : Tok}
    {odW anW odI anI odP anP odA anA odO anO odS anS odTI anTI odCo anCo odEd anEd odAr anAr odMv anMv odTin anTin odTeq anTeq odEq anEq odAd anAd odPm anPm odH anH odD anD odPr anPr odLs anLs odCn anCn odWy anWy odR anR odWi anWi odZ anZ : Option Addr} {slW slI slP slA slO slS slTI slCo slEd slAr slMv slTin slTeq slEq slAd slPm slH slD slPr slLs slCn slWy slR slWi slZ : Array (Option Value)} {ocW kVW dcW pmW cdW ctW ocI kVI dcI pmI cdI ctI ocP kVP dcP pmP cdP ctP ocA kVA dcA pmA cdA ctA ocO kVO dcO pmO cdO ctO ocS kVS dcS pmS cdS ctS ocTI kVTI dcTI pmTI cdTI ctTI ocCo kVCo dcCo pmCo cdCo ctCo ocEd kVEd dcEd pmEd cdEd ctEd ocAr kVAr dcAr pmAr cdAr ctAr ocMv kVMv dcMv pmMv cdMv ctMv ocTin kVTin dcTin pmTin cdTin ctTin ocTeq kVTeq dcTeq pmTeq cdTeq ctTeq ocEq kVEq dcEq pmEq cdEq ctEq ocAd kVAd dcAd pmAd cdAd ctAd ocPm kVPm dcPm pmPm cdPm ctPm ocH kVH dcH pmH cdH ctH ocD kVD dcD pmD cdD ctD ocPr kVPr dcPr pmPr cdPr ctPr ocLs kVLs dcLs pmLs cdLs ctLs ocCn kVCn dcCn pmCn cdCn ctCn ocWy kVWy dcWy pmWy cdWy ctWy ocR kVR dcR pmR cdR ctR ocWi kVWi dcWi pmWi cdWi ctWi ocZ kVZ dcZ pmZ cdZ ctZ : Value}
    (aC : PySem.W.nsIn K mainGlobals "Point" = some (some (.ref C)))
    (aCT : PySem.W.nsIn K mainGlobals "Triangle" = some (some (.ref CT)))
    (aW : PySem.W.nsIn K mainGlobals "is_whole" = some (some (.ref fW)))
    (lW : K.lookup fW = some ⟨ocW, odW, .func (PySem.W.fnOf "is_whole" "is_whole" (defArgs sWhole) (defBody sWhole) (defScope sWhole) .none kVW dcW pmW anW cdW ctW), slW⟩)
    (cW : PySem.W.codeIn K cdW "is_whole" = true)
    (kW : PySem.W.keepIn K (.ref fW) = true)
    (aI : PySem.W.findIn K (.ref C) "__init__" = some (some (.ref fI)))
    (iI : PySem.W.isFn K (.ref fI) = true)
    (lI : K.lookup fI = some ⟨ocI, odI, .func (PySem.W.fnOf "__init__" "Point.__init__" (defArgs sInit) (defBody sInit) (defScope sInit) .none kVI dcI pmI anI cdI ctI), slI⟩)
    (cI : PySem.W.codeIn K cdI "Point.__init__" = true)
    (kI : PySem.W.keepIn K (.ref fI) = true)
    (aP : PySem.W.nsIn K mainGlobals "is_point" = some (some (.ref fP)))
    (lP : K.lookup fP = some ⟨ocP, odP, .func (PySem.W.fnOf "is_point" "is_point" (defArgs sIsPoint) (defBody sIsPoint) (defScope sIsPoint) .none kVP dcP pmP anP cdP ctP), slP⟩)
    (cP : PySem.W.codeIn K cdP "is_point" = true)
    (kP : PySem.W.keepIn K (.ref fP) = true)
    (aA : PySem.W.nsIn K mainGlobals "as_point" = some (some (.ref fA)))
    (lA : K.lookup fA = some ⟨ocA, odA, .func (PySem.W.fnOf "as_point" "as_point" (defArgs sAsPoint) (defBody sAsPoint) (defScope sAsPoint) .none kVA dcA pmA anA cdA ctA), slA⟩)
    (cA : PySem.W.codeIn K cdA "as_point" = true)
    (kA : PySem.W.keepIn K (.ref fA) = true)
    (aO : PySem.W.nsIn K mainGlobals "operand" = some (some (.ref fO)))
    (lO : K.lookup fO = some ⟨ocO, odO, .func (PySem.W.fnOf "operand" "operand" (defArgs sOperand) (defBody sOperand) (defScope sOperand) .none kVO dcO pmO anO cdO ctO), slO⟩)
    (cO : PySem.W.codeIn K cdO "operand" = true)
    (kO : PySem.W.keepIn K (.ref fO) = true)
    (aS : PySem.W.nsIn K mainGlobals "side" = some (some (.ref fS)))
    (lS : K.lookup fS = some ⟨ocS, odS, .func (PySem.W.fnOf "side" "side" (defArgs sSide) (defBody sSide) (defScope sSide) .none kVS dcS pmS anS cdS ctS), slS⟩)
    (cS : PySem.W.codeIn K cdS "side" = true)
    (kS : PySem.W.keepIn K (.ref fS) = true)
    (aTI : PySem.W.findIn K (.ref CT) "__init__" = some (some (.ref fTI)))
    (iTI : PySem.W.isFn K (.ref fTI) = true)
    (lTI : K.lookup fTI = some ⟨ocTI, odTI, .func (PySem.W.fnOf "__init__" "Triangle.__init__" (defArgs sTInit) (defBody sTInit) (defScope sTInit) .none kVTI dcTI pmTI anTI cdTI ctTI), slTI⟩)
    (cTI : PySem.W.codeIn K cdTI "Triangle.__init__" = true)
    (kTI : PySem.W.keepIn K (.ref fTI) = true)
    (aCo : PySem.W.findIn K (.ref CT) "corners" = some (some (.ref fCo)))
    (iCo : PySem.W.isFn K (.ref fCo) = true)
    (lCo : K.lookup fCo = some ⟨ocCo, odCo, .func (PySem.W.fnOf "corners" "Triangle.corners" (defArgs sCorners) (defBody sCorners) (defScope sCorners) .none kVCo dcCo pmCo anCo cdCo ctCo), slCo⟩)
    (cCo : PySem.W.codeIn K cdCo "Triangle.corners" = true)
    (kCo : PySem.W.keepIn K (.ref fCo) = true)
    (aEd : PySem.W.findIn K (.ref CT) "edges" = some (some (.ref fEd)))
    (iEd : PySem.W.isFn K (.ref fEd) = true)
    (lEd : K.lookup fEd = some ⟨ocEd, odEd, .func (PySem.W.fnOf "edges" "Triangle.edges" (defArgs sEdges) (defBody sEdges) (defScope sEdges) .none kVEd dcEd pmEd anEd cdEd ctEd), slEd⟩)
    (cEd : PySem.W.codeIn K cdEd "Triangle.edges" = true)
    (kEd : PySem.W.keepIn K (.ref fEd) = true)
    (aAr : PySem.W.findIn K (.ref CT) "area2" = some (some (.ref pAr)))
    (gAr : PySem.W.specialIn K (.ref pAr) "__get__" = some (some (.builtin "property.__get__")))
    (tAr : PySem.W.takesIn K (.ref pAr) = some true)
    (rAr : PySem.W.recIn K pAr "property" = some (.ref fAr :: rsA))
    (lAr : K.lookup fAr = some ⟨ocAr, odAr, .func (PySem.W.fnOf "area2" "Triangle.area2" (defArgs sArea) (defBody sArea) (defScope sArea) .none kVAr dcAr pmAr anAr cdAr ctAr), slAr⟩)
    (cAr : PySem.W.codeIn K cdAr "Triangle.area2" = true)
    (kAr : PySem.W.keepIn K (.ref fAr) = true)
    (aMv : PySem.W.findIn K (.ref CT) "moved" = some (some (.ref fMv)))
    (iMv : PySem.W.isFn K (.ref fMv) = true)
    (lMv : K.lookup fMv = some ⟨ocMv, odMv, .func (PySem.W.fnOf "moved" "Triangle.moved" (defArgs sMoved) (defBody sMoved) (defScope sMoved) .none kVMv dcMv pmMv anMv cdMv ctMv), slMv⟩)
    (cMv : PySem.W.codeIn K cdMv "Triangle.moved" = true)
    (kMv : PySem.W.keepIn K (.ref fMv) = true)
    (aTin : PySem.W.findIn K (.ref CT) "__contains__" = some (some (.ref fTin)))
    (iTin : PySem.W.isFn K (.ref fTin) = true)
    (lTin : K.lookup fTin = some ⟨ocTin, odTin, .func (PySem.W.fnOf "__contains__" "Triangle.__contains__" (defArgs sTIn) (defBody sTIn) (defScope sTIn) .none kVTin dcTin pmTin anTin cdTin ctTin), slTin⟩)
    (cTin : PySem.W.codeIn K cdTin "Triangle.__contains__" = true)
    (kTin : PySem.W.keepIn K (.ref fTin) = true)
    (aTeq : PySem.W.findIn K (.ref CT) "__eq__" = some (some (.ref fTeq)))
    (iTeq : PySem.W.isFn K (.ref fTeq) = true)
    (lTeq : K.lookup fTeq = some ⟨ocTeq, odTeq, .func (PySem.W.fnOf "__eq__" "Triangle.__eq__" (defArgs sTEq) (defBody sTEq) (defScope sTEq) .none kVTeq dcTeq pmTeq anTeq cdTeq ctTeq), slTeq⟩)
    (cTeq : PySem.W.codeIn K cdTeq "Triangle.__eq__" = true)
    (kTeq : PySem.W.keepIn K (.ref fTeq) = true)
    (aEq : PySem.W.findIn K (.ref C) "__eq__" = some (some (.ref fEq)))
    (iEq : PySem.W.isFn K (.ref fEq) = true)
    (lEq : K.lookup fEq = some ⟨ocEq, odEq, .func (PySem.W.fnOf "__eq__" "Point.__eq__" (defArgs sEq) (defBody sEq) (defScope sEq) .none kVEq dcEq pmEq anEq cdEq ctEq), slEq⟩)
    (cEq : PySem.W.codeIn K cdEq "Point.__eq__" = true)
    (kEq : PySem.W.keepIn K (.ref fEq) = true)
    (aAd : PySem.W.findIn K (.ref C) "__add__" = some (some (.ref fAd)))
    (iAd : PySem.W.isFn K (.ref fAd) = true)
    (lAd : K.lookup fAd = some ⟨ocAd, odAd, .func (PySem.W.fnOf "__add__" "Point.__add__" (defArgs sAdd) (defBody sAdd) (defScope sAdd) .none kVAd dcAd pmAd anAd cdAd ctAd), slAd⟩)
    (cAd : PySem.W.codeIn K cdAd "Point.__add__" = true)
    (kAd : PySem.W.keepIn K (.ref fAd) = true)
    (aPm : PySem.W.findIn K (.ref C) "pair" = some (some (.ref fPm)))
    (iPm : PySem.W.isFn K (.ref fPm) = true)
    (lPm : K.lookup fPm = some ⟨ocPm, odPm, .func (PySem.W.fnOf "pair" "Point.pair" (defArgs sPairM) (defBody sPairM) (defScope sPairM) .none kVPm dcPm pmPm anPm cdPm ctPm), slPm⟩)
    (cPm : PySem.W.codeIn K cdPm "Point.pair" = true)
    (kPm : PySem.W.keepIn K (.ref fPm) = true)
    (aH : PySem.W.nsIn K mainGlobals "_law_hand" = some (some (.ref fH)))
    (lH : K.lookup fH = some ⟨ocH, odH, .func (PySem.W.fnOf "_law_hand" "_law_hand" (defArgs sHand) (defBody sHand) (defScope sHand) .none kVH dcH pmH anH cdH ctH), slH⟩)
    (cH : PySem.W.codeIn K cdH "_law_hand" = true)
    (kH : PySem.W.keepIn K (.ref fH) = true)
    (aD : PySem.W.nsIn K mainGlobals "_law_draw" = some (some (.ref fD)))
    (lD : K.lookup fD = some ⟨ocD, odD, .func (PySem.W.fnOf "_law_draw" "_law_draw" (defArgs sDraw) (defBody sDraw) (defScope sDraw) .none kVD dcD pmD anD cdD ctD), slD⟩)
    (cD : PySem.W.codeIn K cdD "_law_draw" = true)
    (kD : PySem.W.keepIn K (.ref fD) = true)
    (aPr : PySem.W.nsIn K mainGlobals "_law_pair" = some (some (.ref fPr)))
    (lPr : K.lookup fPr = some ⟨ocPr, odPr, .func (PySem.W.fnOf "_law_pair" "_law_pair" (defArgs sPair) (defBody sPair) (defScope sPair) .none kVPr dcPr pmPr anPr cdPr ctPr), slPr⟩)
    (cPr : PySem.W.codeIn K cdPr "_law_pair" = true)
    (kPr : PySem.W.keepIn K (.ref fPr) = true)
    (aLs : PySem.W.nsIn K mainGlobals "_law_side" = some (some (.ref fLs)))
    (lLs : K.lookup fLs = some ⟨ocLs, odLs, .func (PySem.W.fnOf "_law_side" "_law_side" (defArgs sLSide) (defBody sLSide) (defScope sLSide) .none kVLs dcLs pmLs anLs cdLs ctLs), slLs⟩)
    (cLs : PySem.W.codeIn K cdLs "_law_side" = true)
    (kLs : PySem.W.keepIn K (.ref fLs) = true)
    (aCn : PySem.W.nsIn K mainGlobals "_law_corners" = some (some (.ref fCn)))
    (lCn : K.lookup fCn = some ⟨ocCn, odCn, .func (PySem.W.fnOf "_law_corners" "_law_corners" (defArgs sCorn) (defBody sCorn) (defScope sCorn) .none kVCn dcCn pmCn anCn cdCn ctCn), slCn⟩)
    (cCn : PySem.W.codeIn K cdCn "_law_corners" = true)
    (kCn : PySem.W.keepIn K (.ref fCn) = true)
    (aWy : PySem.W.nsIn K mainGlobals "_law_ways" = some (some (.ref fWy)))
    (lWy : K.lookup fWy = some ⟨ocWy, odWy, .func (PySem.W.fnOf "_law_ways" "_law_ways" (defArgs sWays) (defBody sWays) (defScope sWays) .none kVWy dcWy pmWy anWy cdWy ctWy), slWy⟩)
    (cWy : PySem.W.codeIn K cdWy "_law_ways" = true)
    (kWy : PySem.W.keepIn K (.ref fWy) = true)
    (aR : PySem.W.nsIn K mainGlobals "_law_refused" = some (some (.ref fR)))
    (lR : K.lookup fR = some ⟨ocR, odR, .func (PySem.W.fnOf "_law_refused" "_law_refused" (defArgs sRef) (defBody sRef) (defScope sRef) .none kVR dcR pmR anR cdR ctR), slR⟩)
    (cR : PySem.W.codeIn K cdR "_law_refused" = true)
    (kR : PySem.W.keepIn K (.ref fR) = true)
    (aWi : PySem.W.nsIn K mainGlobals "_law_within" = some (some (.ref fWi)))
    (lWi : K.lookup fWi = some ⟨ocWi, odWi, .func (PySem.W.fnOf "_law_within" "_law_within" (defArgs sWithin) (defBody sWithin) (defScope sWithin) .none kVWi dcWi pmWi anWi cdWi ctWi), slWi⟩)
    (cWi : PySem.W.codeIn K cdWi "_law_within" = true)
    (kWi : PySem.W.keepIn K (.ref fWi) = true)
    (aZ : PySem.W.nsIn K mainGlobals "law" = some (some (.ref fZ)))
    (lZ : K.lookup fZ = some ⟨ocZ, odZ, .func (PySem.W.fnOf "law" "law" (defArgs sLaw) (defBody sLaw) (defScope sLaw) .none kVZ dcZ pmZ anZ cdZ ctZ), slZ⟩)
    (cZ : PySem.W.codeIn K cdZ "law" = true)
    (kZ : PySem.W.keepIn K (.ref fZ) = true)
    (pg : PySem.W.plainGet K C Str.empty = true)
    (hd : PySem.W.hasDictIn K C = true)
    (po : PySem.W.plainOver K C = true)
    (sa : PySem.W.findIn K (.ref C) "__setattr__" = some (some (.builtin "object.__setattr__")))
    (mk : PySem.W.makesIn K C = true)
    (kc : PySem.W.keepIn K (.ref C) = true)
    (nX : PySem.W.findIn K (.ref C) "x" = some none)
    (nY : PySem.W.findIn K (.ref C) "y" = some none)
    (ha : PySem.W.findIn K (.ref C) "__class__" = some (some (.builtin "object.__class__")))
    (hn : PySem.W.specialIn K (.builtin "object.__class__") "__get__" = some (some (.builtin "getset_descriptor.__get__")))
    (htk : PySem.W.takesIn K (.builtin "object.__class__") = some true)
    (hm : PySem.W.mroIn K C (.type "object") = some true)
    (kTC : PySem.W.kitOne K (.type "tuple") (.ref C) = some false)
    (kCC : PySem.W.kitOne K (.ref C) (.ref C) = some true)
    (sf : PySem.W.selfFirst K C = true)
    (kNC : PySem.W.kitOne K (.type "NoneType") (.ref C) = some false)
    (kBC : PySem.W.kitOne K (.type "bool") (.ref C) = some false)
    (kIC : PySem.W.kitOne K (.type "int") (.ref C) = some false)
    (kSC : PySem.W.kitOne K (.type "str") (.ref C) = some false)
    (kLC : PySem.W.kitOne K (.type "list") (.ref C) = some false)
    (pgT : PySem.W.plainGet K CT Str.empty = true)
    (hdT : PySem.W.hasDictIn K CT = true)
    (poT : PySem.W.plainOver K CT = true)
    (saT : PySem.W.findIn K (.ref CT) "__setattr__" = some (some (.builtin "object.__setattr__")))
    (mkT : PySem.W.makesIn K CT = true)
    (kcT : PySem.W.keepIn K (.ref CT) = true)
    (nTT : PySem.W.findIn K (.ref CT) "tips" = some none)
    (haT : PySem.W.findIn K (.ref CT) "__class__" = some (some (.builtin "object.__class__")))
    (hmT : PySem.W.mroIn K CT (.type "object") = some true)
    (kLT : PySem.W.kitOne K (.type "list") (.ref CT) = some false)
    (kTT : PySem.W.kitOne K (.ref CT) (.ref CT) = some true)
    (neT : PySem.W.findIn K (.ref CT) "__ne__" = some (some (.builtin "object.__ne__")))
    (ntT : PySem.W.notFirst K CT (.type "tuple") = true)
    (nlT : PySem.W.notFirst K CT (.type "list") = true)
    (z_isinstance : PySem.W.nsIn K mainGlobals "isinstance" = some none)
    (z_len : PySem.W.nsIn K mainGlobals "len" = some none)
    (z_int : PySem.W.nsIn K mainGlobals "int" = some none)
    (z_bool : PySem.W.nsIn K mainGlobals "bool" = some none)
    (z_tuple : PySem.W.nsIn K mainGlobals "tuple" = some none)
    (z_range : PySem.W.nsIn K mainGlobals "range" = some none)
    (z_max : PySem.W.nsIn K mainGlobals "max" = some none)
    (z_min : PySem.W.nsIn K mainGlobals "min" = some none)
    (z_list : PySem.W.nsIn K mainGlobals "list" = some none)
    (z_all : PySem.W.nsIn K mainGlobals "all" = some none)
    (z_repr : PySem.W.nsIn K mainGlobals "repr" = some none)
    (z_super : PySem.W.nsIn K mainGlobals "super" = some none)
    (aCF : PySem.W.nsIn K mainGlobals "FillError" = some (some (.ref CF)))
    (tpI : PySem.W.nsIn K cStatics "thirdparty.any" = some none)
    (tsI : (l.prog.main.scope.names.lookup ("super" : Str)).isSome = false)
    (aCIp : PySem.W.nsIn K mainGlobals "InvalidPoint" = some (some (.ref CIp)))
    (lCIp : K.lookup CIp = some (PySem.excClassObj nmIp qnIp CIp NIp bsIp bmIp true snIp subIp abIp colIp ddIp e0Ip e1Ip e2Ip e3Ip e5Ip "ValueError.__new__"))
    (rvIp : PySem.HandSPX.refsVE bmIp = true)
    (saIp : PySem.W.findIn K (.ref CIp) "__setattr__" = some (some (.builtin "object.__setattr__")))
    (gaIp : PySem.W.findIn K (.ref CIp) "__getattribute__" = some (some (.builtin "BaseException.__getattribute__")))
    (ggIp : PySem.W.findIn K (.ref CIp) "__getattr__" = some none)
    (noIp : PySem.W.findIn K (.ref CIp) (Str.ofString "thing") = some none)
    (inIp : PySem.W.findIn K (.ref CIp) "__init__" = some (some (.ref gIp)))
    (tyIp : PySem.W.typeIn K (.ref gIp) = some (.type "function"))
    (kpIp : PySem.W.keepIn K (.ref CIp) = true)
    (exIp : PySem.W.subIn K (.ref CIp) (.type "BaseException") = some true)
    (tcIp : PySem.W.typeIn K (.ref CIp) = some (.type "type"))
    (hdIp : PySem.W.hasDictIn K CIp = true)
    (suIp : PySem.W.ks_superIn K CIp CIp "__init__" = some (some (.builtin "ValueError.__init__")))
    (veIp : PySem.W.subIn K (.ref CIp) (.type "ValueError") = some true)
    (mrIp : PySem.W.mroIn K CIp (.ref CIp) = some true)
    (lgIp : K.lookup gIp = some ⟨ocgIp, odgIp, .func (PySem.W.ksFn "__init__" quIp (FoX_thing.xA p1Ip p2Ip) (FoX_thing.xB msIp r1Ip r2Ip r3Ip r4Ip r5Ip r6Ip q1Ip q2Ip q3Ip q4Ip jIp) FoX_thing.xS .none kVgIp dcgIp pmgIp angIp (.ref cdaIp) ctgIp ccIp), slgIp⟩)
    (cgIp : PySem.W.codeIn K (.ref cdaIp) quIp = true)
    (lcIp : K.lookup cdaIp = some ⟨cclIp, cddIp, .fields vsIp, ccsIp⟩)
    (vfIp : vsIp[2]? = some (.str fiIp tfIp))
    (flIp : ((l.prog.main.file : Str) == fiIp) = true)
    (lnIp : (r3Ip.endLine == r5Ip.line) = true)
    (leIp : K.lookup ccIp = some ⟨clIp, cldIp, .cell (some (.ref CIp)), cslIp⟩)
    (caIp : PySem.W.findIn K (.ref CIp) "__class__" = some (some (.builtin "object.__class__")))
    (moIp : PySem.W.mroIn K CIp (.type "object") = some true)
    (emIp : PySem.W.exmOne K (.ref CIp) (.ref CF) = some true)
    (ksIp : PySem.W.kitOne K (.ref CIp) (.ref CIp) = some true)
    (aCFl : PySem.W.nsIn K mainGlobals "Flat" = some (some (.ref CFl)))
    (lCFl : K.lookup CFl = some (PySem.excClassObj nmFl qnFl CFl NFl bsFl bmFl true snFl subFl abFl colFl ddFl e0Fl e1Fl e2Fl e3Fl e5Fl "ValueError.__new__"))
    (rvFl : PySem.HandSPX.refsVE bmFl = true)
    (saFl : PySem.W.findIn K (.ref CFl) "__setattr__" = some (some (.builtin "object.__setattr__")))
    (gaFl : PySem.W.findIn K (.ref CFl) "__getattribute__" = some (some (.builtin "BaseException.__getattribute__")))
    (ggFl : PySem.W.findIn K (.ref CFl) "__getattr__" = some none)
    (noFl : PySem.W.findIn K (.ref CFl) (Str.ofString "three") = some none)
    (inFl : PySem.W.findIn K (.ref CFl) "__init__" = some (some (.ref gFl)))
    (tyFl : PySem.W.typeIn K (.ref gFl) = some (.type "function"))
    (kpFl : PySem.W.keepIn K (.ref CFl) = true)
    (exFl : PySem.W.subIn K (.ref CFl) (.type "BaseException") = some true)
    (tcFl : PySem.W.typeIn K (.ref CFl) = some (.type "type"))
    (hdFl : PySem.W.hasDictIn K CFl = true)
    (suFl : PySem.W.ks_superIn K CFl CFl "__init__" = some (some (.builtin "ValueError.__init__")))
    (veFl : PySem.W.subIn K (.ref CFl) (.type "ValueError") = some true)
    (mrFl : PySem.W.mroIn K CFl (.ref CFl) = some true)
    (lgFl : K.lookup gFl = some ⟨ocgFl, odgFl, .func (PySem.W.ksFn "__init__" quFl (FoX_three.xA p1Fl p2Fl) (FoX_three.xB msFl r1Fl r2Fl r3Fl r4Fl r5Fl r6Fl q1Fl q2Fl q3Fl q4Fl jFl) FoX_three.xS .none kVgFl dcgFl pmgFl angFl (.ref cdaFl) ctgFl ccFl), slgFl⟩)
    (cgFl : PySem.W.codeIn K (.ref cdaFl) quFl = true)
    (lcFl : K.lookup cdaFl = some ⟨cclFl, cddFl, .fields vsFl, ccsFl⟩)
    (vfFl : vsFl[2]? = some (.str fiFl tfFl))
    (flFl : ((l.prog.main.file : Str) == fiFl) = true)
    (lnFl : (r3Fl.endLine == r5Fl.line) = true)
    (leFl : K.lookup ccFl = some ⟨clFl, cldFl, .cell (some (.ref CFl)), cslFl⟩)
    (caFl : PySem.W.findIn K (.ref CFl) "__class__" = some (some (.builtin "object.__class__")))
    (moFl : PySem.W.mroIn K CFl (.type "object") = some true)
    (emFl : PySem.W.exmOne K (.ref CFl) (.ref CF) = some true)
    (ksFl : PySem.W.kitOne K (.ref CFl) (.ref CFl) = some true)
    (kIL : PySem.W.kitOne K (.ref CIp) (.ref CFl) = some false) :
    ∃ fd : FuncData, (∀ (s : Shared) (v : Value), BindsTo s fd ⟨[v], []⟩ [("script", v)]) ∧ ∀ base : Heap, K.In base → base.Ns mainGlobals mg → FnG l.prog w K mg base CX0 12 fa fd ["script"] (spLaw K) := by
  have e := hfa.symm.trans (PySem.W.mg_of X G aZ)
  cases e
  have FW := fun_mk (st := sWhole) lW cW kW
  have bW := FW.binds (ps := ["value"]) fun _ _ _ _ _ _ us hl => match us, hl with | [_], _ => rfl
  have FI := fun_mk (st := sInit) lI cI kI
  have bI := FI.binds (ps := ["self", "x", "y"]) fun _ _ _ _ _ _ us hl => match us, hl with | [_, _, _], _ => rfl
  have FP := fun_mk (st := sIsPoint) lP cP kP
  have bP := FP.binds (ps := ["thing"]) fun _ _ _ _ _ _ us hl => match us, hl with | [_], _ => rfl
  have FA := fun_mk (st := sAsPoint) lA cA kA
  have bA := FA.binds (ps := ["thing"]) fun _ _ _ _ _ _ us hl => match us, hl with | [_], _ => rfl
  have FO := fun_mk (st := sOperand) lO cO kO
  have bO := FO.binds (ps := ["thing"]) fun _ _ _ _ _ _ us hl => match us, hl with | [_], _ => rfl
  have FS := fun_mk (st := sSide) lS cS kS
  have bS := FS.binds (ps := ["a", "b", "point"]) fun _ _ _ _ _ _ us hl => match us, hl with | [_, _, _], _ => rfl
  have FTI := fun_mk (st := sTInit) lTI cTI kTI
  have bTI := FTI.binds (ps := ["self", "a", "b", "c"]) fun _ _ _ _ _ _ us hl => match us, hl with | [_, _, _, _], _ => rfl
  have FCo := fun_mk (st := sCorners) lCo cCo kCo
  have bCo := FCo.binds (ps := ["self"]) fun _ _ _ _ _ _ us hl => match us, hl with | [_], _ => rfl
  have FEd := fun_mk (st := sEdges) lEd cEd kEd
  have bEd := FEd.binds (ps := ["self"]) fun _ _ _ _ _ _ us hl => match us, hl with | [_], _ => rfl
  have FAr := fun_mk (st := sArea) lAr cAr kAr
  have bAr := FAr.binds (ps := ["self"]) fun _ _ _ _ _ _ us hl => match us, hl with | [_], _ => rfl
  have FMv := fun_mk (st := sMoved) lMv cMv kMv
  have bMv := FMv.binds (ps := ["self", "by"]) fun _ _ _ _ _ _ us hl => match us, hl with | [_, _], _ => rfl
  have FTin := fun_mk (st := sTIn) lTin cTin kTin
  have bTin := FTin.binds (ps := ["self", "x"]) fun _ _ _ _ _ _ us hl => match us, hl with | [_, _], _ => rfl
  have FTeq := fun_mk (st := sTEq) lTeq cTeq kTeq
  have bTeq := FTeq.binds (ps := ["self", "other"]) fun _ _ _ _ _ _ us hl => match us, hl with | [_, _], _ => rfl
  have FEq := fun_mk (st := sEq) lEq cEq kEq
  have bEq := FEq.binds (ps := ["self", "other"]) fun _ _ _ _ _ _ us hl => match us, hl with | [_, _], _ => rfl
  have FAd := fun_mk (st := sAdd) lAd cAd kAd
  have bAd := FAd.binds (ps := ["self", "other"]) fun _ _ _ _ _ _ us hl => match us, hl with | [_, _], _ => rfl
  have FPm := fun_mk (st := sPairM) lPm cPm kPm
  have bPm := FPm.binds (ps := ["self"]) fun _ _ _ _ _ _ us hl => match us, hl with | [_], _ => rfl
  have FH := fun_mk (st := sHand) lH cH kH
  have bH := FH.binds (ps := ["script", "k"]) fun _ _ _ _ _ _ us hl => match us, hl with | [_, _], _ => rfl
  have FD := fun_mk (st := sDraw) lD cD kD
  have bD := FD.binds (ps := ["pool", "many"]) fun _ _ _ _ _ _ us hl => match us, hl with | [_, _], _ => rfl
  have FPr := fun_mk (st := sPair) lPr cPr kPr
  have bPr := FPr.binds (ps := ["pool", "size_here"]) fun _ _ _ _ _ _ us hl => match us, hl with | [_, _], _ => rfl
  have FLs := fun_mk (st := sLSide) lLs cLs kLs
  have bLs := FLs.binds (ps := ["a", "b", "p"]) fun _ _ _ _ _ _ us hl => match us, hl with | [_, _, _], _ => rfl
  have FCn := fun_mk (st := sCorn) lCn cCn kCn
  have bCn := FCn.binds (ps := ["pool", "size_here"]) fun _ _ _ _ _ _ us hl => match us, hl with | [_, _], _ => rfl
  have FWy := fun_mk (st := sWays) lWy cWy kWy
  have bWy := FWy.binds (ps := ["corners_here"]) fun _ _ _ _ _ _ us hl => match us, hl with | [_], _ => rfl
  have FR := fun_mk (st := sRef) lR cR kR
  have bR := FR.binds (ps := ["things"]) fun _ _ _ _ _ _ us hl => match us, hl with | [_], _ => rfl
  have FWi := fun_mk (st := sWithin) lWi cWi kWi
  have bWi := FWi.binds (ps := ["corners_here", "p"]) fun _ _ _ _ _ _ us hl => match us, hl with | [_, _], _ => rfl
  have FZ := fun_mk (st := sLaw) lZ cZ kZ
  have T : Txt K mg C := ⟨⟨pg, hd, po, sa⟩, nX, nY, PySem.W.mg_of X G aC, PySem.W.mg_none_of X G z_isinstance, PySem.W.mg_none_of X G z_len, PySem.W.mg_none_of X G z_int, PySem.W.mg_none_of X G z_bool, PySem.W.mg_none_of X G z_tuple, ha, hn, htk, hm, kTC, kCC⟩
  have TLm : TxtL mg := ⟨PySem.W.mg_none_of X G z_int, PySem.W.mg_none_of X G z_range, PySem.W.mg_none_of X G z_max, PySem.W.mg_none_of X G z_min, PySem.W.mg_none_of X G z_len⟩
  have Df : Defs K mg C fW fI fP fA fO _ _ _ _ _ := ⟨T, FW, bW, PySem.W.mg_of X G aW, ⟨mk, aI, iI, kc⟩, FI, bI, FP, bP, PySem.W.mg_of X G aP, FA, bA, PySem.W.mg_of X G aA, FO, bO, PySem.W.mg_of X G aO⟩
  have TT : TxtT K mg CT := ⟨⟨pgT, hdT, poT, saT⟩, nTT, PySem.W.mg_of X G aCT, PySem.W.mg_none_of X G z_list, PySem.W.mg_none_of X G z_all, haT, hmT, kLT, kTT⟩
  have Td : TDefs K mg C CT fS fTI fCo fEd fAr fEq fAd pAr _ _ _ _ _ _ _ := ⟨TT, FS, bS, PySem.W.mg_of X G aS, ⟨mkT, aTI, iTI, kcT⟩, FTI, bTI, FCo, bCo, ⟨aCo, iCo, kCo⟩, FEd, bEd, ⟨aEd, iEd, kEd⟩, FAr, bAr, ⟨aAr, gAr, tAr, ⟨_, rAr⟩⟩, FEq, bEq, aEq, iEq, FAd, bAd, ⟨sf, aAd, iAd⟩⟩
  have xtIp : FoX_thing.XTxt l.prog K mg CIp gIp := ⟨⟨_, _, _, _, _, _, _, _, _, _, _, _, _, _, _, lCIp, rvIp⟩, saIp, gaIp, ggIp, noIp, inIp, tyIp, kpIp, exIp, tcIp, hdIp, suIp, tpI, PySem.W.mg_none_of X G z_super, veIp, mrIp, tsI, ⟨quIp, msIp, _, _, _, _, _, _, ccIp, cdaIp, _, _, p1Ip, p2Ip, r1Ip, r2Ip, r3Ip, r4Ip, r5Ip, r6Ip, q1Ip, q2Ip, q3Ip, q4Ip, jIp, _, _, _, _, vsIp, _, _, fiIp, tfIp, lgIp, cgIp, lcIp, vfIp, flIp, lnIp, leIp⟩⟩
  have xtFl : FoX_three.XTxt l.prog K mg CFl gFl := ⟨⟨_, _, _, _, _, _, _, _, _, _, _, _, _, _, _, lCFl, rvFl⟩, saFl, gaFl, ggFl, noFl, inFl, tyFl, kpFl, exFl, tcFl, hdFl, suFl, tpI, PySem.W.mg_none_of X G z_super, veFl, mrFl, tsI, ⟨quFl, msFl, _, _, _, _, _, _, ccFl, cdaFl, _, _, p1Fl, p2Fl, r1Fl, r2Fl, r3Fl, r4Fl, r5Fl, r6Fl, q1Fl, q2Fl, q3Fl, q4Fl, jFl, _, _, _, _, vsFl, _, _, fiFl, tfFl, lgFl, cgFl, lcFl, vfFl, flFl, lnFl, leFl⟩⟩
  have Rt : RTx3 l.prog K mg C CIp gIp CFl gFl CF := ⟨⟨kNC, kBC, kIC, kSC, kLC, xtIp, PySem.W.mg_of X G aCIp⟩, ⟨xtFl, PySem.W.mg_of X G aCFl⟩, PySem.W.mg_of X G aCF, emIp, emFl, ⟨gaIp, ggIp, exIp, hdIp, caIp, hn, htk, moIp⟩, ⟨gaFl, ggFl, exFl, hdFl, caFl, hn, htk, moFl⟩, ksFl, kIL, ksIp, PySem.W.mg_none_of X G z_repr⟩
  have Lf : LDefs l.prog K mg C CT CIp gIp CFl gFl CF fS fTI fCo fEd fAr fEq fAd pAr fH fD fPr fLs fCn fWy fR fWi fTin fTeq fMv fPm _ _ _ _ _ _ _ _ _ _ _ _ _ _ _ _ _ _ _ := ⟨TLm, Td, Rt, FH, bH, PySem.W.mg_of X G aH, FD, bD, PySem.W.mg_of X G aD, FPr, bPr, PySem.W.mg_of X G aPr, FLs, bLs, PySem.W.mg_of X G aLs, FCn, bCn, PySem.W.mg_of X G aCn, FWy, bWy, PySem.W.mg_of X G aWy, FR, bR, PySem.W.mg_of X G aR, FWi, bWi, PySem.W.mg_of X G aWi, FTin, bTin, ⟨aTin, iTin⟩, FTeq, bTeq, ⟨aTeq, iTeq, neT, hmT, ntT⟩, nlT, FMv, bMv, ⟨aMv, iMv, kMv⟩, FPm, bPm, ⟨aPm, iPm, kPm⟩⟩
  exact ⟨PySem.W.fnOf "law" "law" (defArgs sLaw) (defBody sLaw) (defScope sLaw) .none kVZ dcZ pmZ anZ cdZ ctZ, fun s v => .of_eq rfl, fun base _ _ => ok_law FZ Df Lf⟩
theorem walk {l : PySem.W.OpenLaw} {q : Program} {loose : List Str} {XP : (Str → Option Value) → Heap → Prop} {YP : World → Heap → Prop} {d : DefRec} {K : Params → PySem.W.Frag} (hn : l.most = some 63) (hdf : d.params.defaults = [])
    (hY : ∀ (w : World) (h : Heap), YP w h → (K w.params).In h)
    (F : ∀ (w : World) (mg : Str → Option Value) (fa : Addr) (h : Heap), (K w.params).In h → h.Ns mainGlobals mg → mg d.name = some (.ref fa) →
      ∃ fd : FuncData, (∀ (s : Shared) (u : Value), BindsTo s fd ⟨[u], []⟩ [("script", u)]) ∧ ∀ base : Heap, (K w.params).In base → base.Ns mainGlobals mg → FnG l.prog w (K w.params) mg base CX0 12 fa fd ["script"] (spLaw (K w.params))) :
    PySem.W.WalkO q loose XP YP l.row.toRowW d [] (fun f vs => PySem.call f vs) :=
  L2.walk_ofG (n := 63) (k := 12) (x := "script") (sp := fun w => spLaw (K w.params)) hn (by decide) hdf ⟨rfl, by decide, by decide⟩ hY F (fun _ _ a ns hl hS => ⟨a, ns, rfl, hS, hl, fun _ => rfl⟩)
end Fo

open PySem PySem.W PyProof.Rows in
set_option maxRecDepth 100000 in
set_option maxHeartbeats 0 in
theorem PySem.Challenge.cw_filledonce_k15_triangles_holds : PySem.Challenge.rw_filledonce_k15_triangles.Holds := by
  w_on; o_law; k_head; (case hw => w_witness2)
  k_fill
  refine Fo.walk (l := PySem.Challenge.rw_filledonce_k15_triangles) rfl rfl (fun w h Y => PySem.W.kIn_of Y) ?F
  case F =>
    intro w mg fa h KX G hmg
    refine' Fo.all_mk KX G hmg ?aC ?aCT ?aW ?lW ?cW ?kW ?aI ?iI ?lI ?cI ?kI ?aP ?lP ?cP ?kP ?aA ?lA ?cA ?kA ?aO ?lO ?cO ?kO ?aS ?lS ?cS ?kS ?aTI ?iTI ?lTI ?cTI ?kTI ?aCo ?iCo ?lCo ?cCo ?kCo ?aEd ?iEd ?lEd ?cEd ?kEd ?aAr ?gAr ?tAr ?rAr ?lAr ?cAr ?kAr ?aMv ?iMv ?lMv ?cMv ?kMv ?aTin ?iTin ?lTin ?cTin ?kTin ?aTeq ?iTeq ?lTeq ?cTeq ?kTeq ?aEq ?iEq ?lEq ?cEq ?kEq ?aAd ?iAd ?lAd ?cAd ?kAd ?aPm ?iPm ?lPm ?cPm ?kPm ?aH ?lH ?cH ?kH ?aD ?lD ?cD ?kD ?aPr ?lPr ?cPr ?kPr ?aLs ?lLs ?cLs ?kLs ?aCn ?lCn ?cCn ?kCn ?aWy ?lWy ?cWy ?kWy ?aR ?lR ?cR ?kR ?aWi ?lWi ?cWi ?kWi ?aZ ?lZ ?cZ ?kZ ?pg ?hd ?po ?sa ?mk ?kc ?nX ?nY ?ha ?hn ?htk ?hm ?kTC ?kCC ?sf ?kNC ?kBC ?kIC ?kSC ?kLC ?pgT ?hdT ?poT ?saT ?mkT ?kcT ?nTT ?haT ?hmT ?kLT ?kTT ?neT ?ntT ?nlT ?z_isinstance ?z_len ?z_int ?z_bool ?z_tuple ?z_range ?z_max ?z_min ?z_list ?z_all ?z_repr ?z_super ?aCF ?tpI ?tsI ?aCIp ?lCIp ?rvIp ?saIp ?gaIp ?ggIp ?noIp ?inIp ?tyIp ?kpIp ?exIp ?tcIp ?hdIp ?suIp ?veIp ?mrIp ?lgIp ?cgIp ?lcIp ?vfIp ?flIp ?lnIp ?leIp ?caIp ?moIp ?emIp ?ksIp ?aCFl ?lCFl ?rvFl ?saFl ?gaFl ?ggFl ?noFl ?inFl ?tyFl ?kpFl ?exFl ?tcFl ?hdFl ?suFl ?veFl ?mrFl ?lgFl ?cgFl ?lcFl ?vfFl ?flFl ?lnFl ?leFl ?caFl ?moFl ?emFl ?ksFl ?kIL
    (case aC => first | k_is | rfl | decide +kernel)
    (case aCT => first | k_is | rfl | decide +kernel)
    (case aW => first | k_is | rfl | decide +kernel)
    (case lW => first | k_is | rfl | decide +kernel)
    (case cW => first | k_is | rfl | decide +kernel)
    (case kW => first | k_is | rfl | decide +kernel)
    (case aI => first | k_is | rfl | decide +kernel)
    (case iI => first | k_is | rfl | decide +kernel)
    (case lI => first | k_is | rfl | decide +kernel)
    (case cI => first | k_is | rfl | decide +kernel)
    (case kI => first | k_is | rfl | decide +kernel)
    (case aP => first | k_is | rfl | decide +kernel)
    (case lP => first | k_is | rfl | decide +kernel)
    (case cP => first | k_is | rfl | decide +kernel)
    (case kP => first | k_is | rfl | decide +kernel)
    (case aA => first | k_is | rfl | decide +kernel)
    (case lA => first | k_is | rfl | decide +kernel)
    (case cA => first | k_is | rfl | decide +kernel)
    (case kA => first | k_is | rfl | decide +kernel)
    (case aO => first | k_is | rfl | decide +kernel)
    (case lO => first | k_is | rfl | decide +kernel)
    (case cO => first | k_is | rfl | decide +kernel)
    (case kO => first | k_is | rfl | decide +kernel)
    (case aS => first | k_is | rfl | decide +kernel)
    (case lS => first | k_is | rfl | decide +kernel)
    (case cS => first | k_is | rfl | decide +kernel)
    (case kS => first | k_is | rfl | decide +kernel)
    (case aTI => first | k_is | rfl | decide +kernel)
    (case iTI => first | k_is | rfl | decide +kernel)
    (case lTI => first | k_is | rfl | decide +kernel)
    (case cTI => first | k_is | rfl | decide +kernel)
    (case kTI => first | k_is | rfl | decide +kernel)
    (case aCo => first | k_is | rfl | decide +kernel)
    (case iCo => first | k_is | rfl | decide +kernel)
    (case lCo => first | k_is | rfl | decide +kernel)
    (case cCo => first | k_is | rfl | decide +kernel)
    (case kCo => first | k_is | rfl | decide +kernel)
    (case aEd => first | k_is | rfl | decide +kernel)
    (case iEd => first | k_is | rfl | decide +kernel)
    (case lEd => first | k_is | rfl | decide +kernel)
    (case cEd => first | k_is | rfl | decide +kernel)
    (case kEd => first | k_is | rfl | decide +kernel)
    (case aAr => first | k_is | rfl | decide +kernel)
    (case gAr => first | k_is | rfl | decide +kernel)
    (case tAr => first | k_is | rfl | decide +kernel)
    (case rAr => first | k_is | rfl | decide +kernel)
    (case lAr => first | k_is | rfl | decide +kernel)
    (case cAr => first | k_is | rfl | decide +kernel)
    (case kAr => first | k_is | rfl | decide +kernel)
    (case aMv => first | k_is | rfl | decide +kernel)
    (case iMv => first | k_is | rfl | decide +kernel)
    (case lMv => first | k_is | rfl | decide +kernel)
    (case cMv => first | k_is | rfl | decide +kernel)
    (case kMv => first | k_is | rfl | decide +kernel)
    (case aTin => first | k_is | rfl | decide +kernel)
    (case iTin => first | k_is | rfl | decide +kernel)
    (case lTin => first | k_is | rfl | decide +kernel)
    (case cTin => first | k_is | rfl | decide +kernel)
    (case kTin => first | k_is | rfl | decide +kernel)
    (case aTeq => first | k_is | rfl | decide +kernel)
    (case iTeq => first | k_is | rfl | decide +kernel)
    (case lTeq => first | k_is | rfl | decide +kernel)
    (case cTeq => first | k_is | rfl | decide +kernel)
    (case kTeq => first | k_is | rfl | decide +kernel)
    (case aEq => first | k_is | rfl | decide +kernel)
    (case iEq => first | k_is | rfl | decide +kernel)
    (case lEq => first | k_is | rfl | decide +kernel)
    (case cEq => first | k_is | rfl | decide +kernel)
    (case kEq => first | k_is | rfl | decide +kernel)
    (case aAd => first | k_is | rfl | decide +kernel)
    (case iAd => first | k_is | rfl | decide +kernel)
    (case lAd => first | k_is | rfl | decide +kernel)
    (case cAd => first | k_is | rfl | decide +kernel)
    (case kAd => first | k_is | rfl | decide +kernel)
    (case aPm => first | k_is | rfl | decide +kernel)
    (case iPm => first | k_is | rfl | decide +kernel)
    (case lPm => first | k_is | rfl | decide +kernel)
    (case cPm => first | k_is | rfl | decide +kernel)
    (case kPm => first | k_is | rfl | decide +kernel)
    (case aH => first | k_is | rfl | decide +kernel)
    (case lH => first | k_is | rfl | decide +kernel)
    (case cH => first | k_is | rfl | decide +kernel)
    (case kH => first | k_is | rfl | decide +kernel)
    (case aD => first | k_is | rfl | decide +kernel)
    (case lD => first | k_is | rfl | decide +kernel)
    (case cD => first | k_is | rfl | decide +kernel)
    (case kD => first | k_is | rfl | decide +kernel)
    (case aPr => first | k_is | rfl | decide +kernel)
    (case lPr => first | k_is | rfl | decide +kernel)
    (case cPr => first | k_is | rfl | decide +kernel)
    (case kPr => first | k_is | rfl | decide +kernel)
    (case aLs => first | k_is | rfl | decide +kernel)
    (case lLs => first | k_is | rfl | decide +kernel)
    (case cLs => first | k_is | rfl | decide +kernel)
    (case kLs => first | k_is | rfl | decide +kernel)
    (case aCn => first | k_is | rfl | decide +kernel)
    (case lCn => first | k_is | rfl | decide +kernel)
    (case cCn => first | k_is | rfl | decide +kernel)
    (case kCn => first | k_is | rfl | decide +kernel)
    (case aWy => first | k_is | rfl | decide +kernel)
    (case lWy => first | k_is | rfl | decide +kernel)
    (case cWy => first | k_is | rfl | decide +kernel)
    (case kWy => first | k_is | rfl | decide +kernel)
    (case aR => first | k_is | rfl | decide +kernel)
    (case lR => first | k_is | rfl | decide +kernel)
    (case cR => first | k_is | rfl | decide +kernel)
    (case kR => first | k_is | rfl | decide +kernel)
    (case aWi => first | k_is | rfl | decide +kernel)
    (case lWi => first | k_is | rfl | decide +kernel)
    (case cWi => first | k_is | rfl | decide +kernel)
    (case kWi => first | k_is | rfl | decide +kernel)
    (case aZ => first | k_is | rfl | decide +kernel)
    (case lZ => first | k_is | rfl | decide +kernel)
    (case cZ => first | k_is | rfl | decide +kernel)
    (case kZ => first | k_is | rfl | decide +kernel)
    (case pg => first | k_is | rfl | decide +kernel)
    (case hd => first | k_is | rfl | decide +kernel)
    (case po => first | k_is | rfl | decide +kernel)
    (case sa => first | k_is | rfl | decide +kernel)
    (case mk => first | k_is | rfl | decide +kernel)
    (case kc => first | k_is | rfl | decide +kernel)
    (case nX => first | k_is | rfl | decide +kernel)
    (case nY => first | k_is | rfl | decide +kernel)
    (case ha => first | k_is | rfl | decide +kernel)
    (case hn => first | k_is | rfl | decide +kernel)
    (case htk => first | k_is | rfl | decide +kernel)
    (case hm => first | k_is | rfl | decide +kernel)
    (case kTC => first | k_is | rfl | decide +kernel)
    (case kCC => first | k_is | rfl | decide +kernel)
    (case sf => first | k_is | rfl | decide +kernel)
    (case kNC => first | k_is | rfl | decide +kernel)
    (case kBC => first | k_is | rfl | decide +kernel)
    (case kIC => first | k_is | rfl | decide +kernel)
    (case kSC => first | k_is | rfl | decide +kernel)
    (case kLC => first | k_is | rfl | decide +kernel)
    (case pgT => first | k_is | rfl | decide +kernel)
    (case hdT => first | k_is | rfl | decide +kernel)
    (case poT => first | k_is | rfl | decide +kernel)
    (case saT => first | k_is | rfl | decide +kernel)
    (case mkT => first | k_is | rfl | decide +kernel)
    (case kcT => first | k_is | rfl | decide +kernel)
    (case nTT => first | k_is | rfl | decide +kernel)
    (case haT => first | k_is | rfl | decide +kernel)
    (case hmT => first | k_is | rfl | decide +kernel)
    (case kLT => first | k_is | rfl | decide +kernel)
    (case kTT => first | k_is | rfl | decide +kernel)
    (case neT => first | k_is | rfl | decide +kernel)
    (case ntT => first | k_is | rfl | decide +kernel)
    (case nlT => first | k_is | rfl | decide +kernel)
    (case z_isinstance => first | k_is | rfl | decide +kernel)
    (case z_len => first | k_is | rfl | decide +kernel)
    (case z_int => first | k_is | rfl | decide +kernel)
    (case z_bool => first | k_is | rfl | decide +kernel)
    (case z_tuple => first | k_is | rfl | decide +kernel)
    (case z_range => first | k_is | rfl | decide +kernel)
    (case z_max => first | k_is | rfl | decide +kernel)
    (case z_min => first | k_is | rfl | decide +kernel)
    (case z_list => first | k_is | rfl | decide +kernel)
    (case z_all => first | k_is | rfl | decide +kernel)
    (case z_repr => first | k_is | rfl | decide +kernel)
    (case z_super => first | k_is | rfl | decide +kernel)
    (case aCF => first | k_is | rfl | decide +kernel)
    (case tpI => first | k_is | rfl | decide +kernel)
    (case tsI => first | k_is | rfl | decide +kernel)
    (case aCIp => first | k_is | rfl | decide +kernel)
    (case lCIp => first | k_is | rfl | decide +kernel)
    (case rvIp => first | k_is | rfl | decide +kernel)
    (case saIp => first | k_is | rfl | decide +kernel)
    (case gaIp => first | k_is | rfl | decide +kernel)
    (case ggIp => first | k_is | rfl | decide +kernel)
    (case noIp => first | k_is | rfl | decide +kernel)
    (case inIp => first | k_is | rfl | decide +kernel)
    (case tyIp => first | k_is | rfl | decide +kernel)
    (case kpIp => first | k_is | rfl | decide +kernel)
    (case exIp => first | k_is | rfl | decide +kernel)
    (case tcIp => first | k_is | rfl | decide +kernel)
    (case hdIp => first | k_is | rfl | decide +kernel)
    (case suIp => first | k_is | rfl | decide +kernel)
    (case veIp => first | k_is | rfl | decide +kernel)
    (case mrIp => first | k_is | rfl | decide +kernel)
    (case lgIp => first | k_is | rfl | decide +kernel)
    (case cgIp => first | k_is | rfl | decide +kernel)
    (case lcIp => first | k_is | rfl | decide +kernel)
    (case vfIp => first | k_is | rfl | decide +kernel)
    (case flIp => first | k_is | rfl | decide +kernel)
    (case lnIp => first | k_is | rfl | decide +kernel)
    (case leIp => first | k_is | rfl | decide +kernel)
    (case caIp => first | k_is | rfl | decide +kernel)
    (case moIp => first | k_is | rfl | decide +kernel)
    (case emIp => first | k_is | rfl | decide +kernel)
    (case ksIp => first | k_is | rfl | decide +kernel)
    (case aCFl => first | k_is | rfl | decide +kernel)
    (case lCFl => first | k_is | rfl | decide +kernel)
    (case rvFl => first | k_is | rfl | decide +kernel)
    (case saFl => first | k_is | rfl | decide +kernel)
    (case gaFl => first | k_is | rfl | decide +kernel)
    (case ggFl => first | k_is | rfl | decide +kernel)
    (case noFl => first | k_is | rfl | decide +kernel)
    (case inFl => first | k_is | rfl | decide +kernel)
    (case tyFl => first | k_is | rfl | decide +kernel)
    (case kpFl => first | k_is | rfl | decide +kernel)
    (case exFl => first | k_is | rfl | decide +kernel)
    (case tcFl => first | k_is | rfl | decide +kernel)
    (case hdFl => first | k_is | rfl | decide +kernel)
    (case suFl => first | k_is | rfl | decide +kernel)
    (case veFl => first | k_is | rfl | decide +kernel)
    (case mrFl => first | k_is | rfl | decide +kernel)
    (case lgFl => first | k_is | rfl | decide +kernel)
    (case cgFl => first | k_is | rfl | decide +kernel)
    (case lcFl => first | k_is | rfl | decide +kernel)
    (case vfFl => first | k_is | rfl | decide +kernel)
    (case flFl => first | k_is | rfl | decide +kernel)
    (case lnFl => first | k_is | rfl | decide +kernel)
    (case leFl => first | k_is | rfl | decide +kernel)
    (case caFl => first | k_is | rfl | decide +kernel)
    (case moFl => first | k_is | rfl | decide +kernel)
    (case emFl => first | k_is | rfl | decide +kernel)
    (case ksFl => first | k_is | rfl | decide +kernel)
    (case kIL => first | k_is | rfl | decide +kernel)
#print axioms PySem.Challenge.cw_filledonce_k15_triangles_holds
