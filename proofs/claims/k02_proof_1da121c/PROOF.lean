import PyProof.Rows.All
import Wide.All
import OpenK.AllK
import Wide.FinOn
import HandS.ForMost
import HandS.Wide
import HandS.IsInst
import HandS.Deep
import HandS.Strs
import HandS.Exc
import KE.KExcSuper
import HandS.ForExc
import PyProof.ReprRoads
import PyProof.CallFns
import KE.KExcIs
import HandS.HotCalls
import KE.DataFind
import HandS.NoneIn
import HandS.Evl
import HandS.More
import HandS.Style
import PySem.Challenge.RW_filledonce_k02_directions
set_option Elab.async false
set_option linter.all false
set_option maxRecDepth 100000
set_option maxHeartbeats 2000000
/-! own binary operators over the hand layer -/
namespace FoOps
open PySem PySem.W PyProof.Rows
section
variable {prog : Program} {w : World} {A : Around} {E : Value → Shared → Prop} {s : Shared} {K : Frag} {x C L f : Addr} {h₀ : Heap} {m : Str → Option Value} {ox : Obj} {od : Option Obj}
theorem tup_add : fillsNumberSlot (.type "tuple") "add" = pure false := by
  unfold fillsNumberSlot
  simp only [typeLookup_type, builtinLookup_eq_fast]
  kernel_rfl
theorem tup_sub : fillsNumberSlot (.type "tuple") "sub" = pure false := by
  unfold fillsNumberSlot
  simp only [typeLookup_type, builtinLookup_eq_fast]
  kernel_rfl
theorem binop_KT {op : Operator} {b : Value} {T : String} {Q : Value → Shared → Prop} (X : K.In s.heap) (I : InstAt s.heap x ox C od) (hT : s.TypeIs b T)
    (hfl : fillsNumberSlot (.type T) op.info.2 = pure false) (hc : selfFirst K C = true)
    (hs : findIn K (.ref C) (PySem.dunder op.info.2) = some (some (.ref f))) (hf : isFn K (.ref f) = true)
    (h : wpAny (model prog w) A (call (.ref f) [.ref x, b]) (PySem.W.CmpBack Q) E s) : wpAny (model prog w) A (binaryOp op (.ref x) b) Q E s := by
  obtain ⟨cd, hcd, hm⟩ := any_some hc
  obtain ⟨rest, hm⟩ : ∃ rest, cd.mro = .ref C :: rest := by
    cases q : cd.mro with
    | nil => rw [q] at hm; cases hm
    | cons a r => rw [q] at hm; exact ⟨r, by rw [List.head?_cons] at hm; cases (beq_iff_eq.mp hm); rfl⟩
  unfold binaryOp
  refine wpAny_holding (wpAny_bind ?_)
  unfold binaryOp1
  refine wpAny_bind (I.type.here (wpAny_bind (wpAny_typeOf hT (wpAny_bind ((fills_K X hcd hm hs).here ?_)))))
  have e : (Value.ref C == Value.type T) = false := by simp
  simp only [e, Bool.false_eq_true, if_false]
  refine wpAny_bind (wpAny_of_eq hfl ?_)
  simp only [Bool.and_false, Bool.false_eq_true, if_false, Bool.false_and, if_true]
  refine wpAny_bind (wpAny_pure ?_)
  simp only [Bool.false_eq_true, if_false]
  refine wpAny_bind (m := tryMethod (.ref x) _ b) ?_
  unfold tryMethod
  refine wpAny_bind (special_fn X I hs (beq_iff_eq.mp hf) (wpAny_mono h (fun v s' hv => ?_) fun _ _ e => e))
  cases v <;> first | exact hv.elim | exact wpAny_pure (wpAny_pure (wpAny_pure hv))
end
end FoOps

namespace L2
open PySem PySem.Spec PyProof.Rows
/-- an own class whose operator nm is the def at f -/
structure OwnOp (K : PySem.W.Frag) (C : Addr) (op : Operator) (f : Addr) : Prop where
  sf : PySem.W.selfFirst K C = true
  at_ : PySem.W.findIn K (.ref C) (PySem.dunder op.info.2) = some (some (.ref f))
  fn : PySem.W.isFn K (.ref f) = true
/-- a op b, a an instance of the class at C, b one too or a tracked tuple -/
def rOwnOp (C : Addr) (sp : Sp) (E : XK) : R2 := fun x y H Q => ∃ a dx fs, x = .ref a ∧ H a = some (.ins C dx fs) ∧
  ((∃ b dy gs, y = .ref b ∧ H b = some (.ins C dy gs)) ∨ ∃ b xs, y = .ref b ∧ H b = some (.tup xs)) ∧ sp [x, y] H Q E
section
variable {X : Cx} {CX : CXT} {k : Nat} {f C : Addr} {fd : FuncData} {ps : List Str} {sp : Sp} {E : XK}
theorem not_ni {z : V} {v : Value} (r : RelV z v) : v ≠ .notImplemented := by
  intro e
  subst e
  cases z <;> first | (cases r; done) | (obtain ⟨_, r⟩ := r; cases r)
theorem cmpBack_of {Q : Value → Shared → Prop} {v : Value} {s : Shared} (hn : v ≠ .notImplemented) (h : Q v s) : PySem.W.CmpBack Q v s := by
  cases v <;> first | exact h | exact absurd rfl hn
theorem op_own {op : Operator} (O : OwnOp X.K C op f) (hfl : fillsNumberSlot (.type "tuple") op.info.2 = pure false) (F : FnOk X.prog X.w X.K X.mg X.base CX k f fd ps sp) (hr : Room k X.A) (hb : Binds X.K fd ps []) (hx : Passes CX X E) :
    OpR X (binaryOp op) (rOwnOp C sp E) := by
  intro pins s σ H x y v u Q I rx ry h
  obtain ⟨a, dx, fs, rfl, ha, hy, q⟩ := h
  obtain rfl : v = Value.ref a := rx
  obtain ⟨mA, J, _⟩ := ins_get I.hok ha
  obtain ⟨od, J, _⟩ := J.look
  obtain ⟨m, hF⟩ := I.fr
  have run : wpAny (model X.prog X.w) X.A (call (.ref f) [.ref a, u]) (PySem.W.CmpBack (EP X pins σ Q)) X.xe s := by
    refine wpAny_mono (run_fn (us := [.ref a, u]) (vs := [.ref a, y]) F hr hb .nil hx I (.cons rfl (.cons ry .nil)) q) (fun r s' z => ?_) fun _ _ z => z
    obtain ⟨z1, H1, I1, rz, qz⟩ := z
    exact cmpBack_of (not_ni rz) ⟨z1, H1, I1, rz, qz⟩
  rcases hy with ⟨b, dy, gs, rfl, hb'⟩ | ⟨b, xs, rfl, hb'⟩
  · obtain rfl : u = Value.ref b := ry
    obtain ⟨mB, J', _⟩ := ins_get I.hok hb'
    obtain ⟨od', J', _⟩ := J'.look
    exact PySem.W.binop_K hF I.ok.mod.kin J J'.type O.sf O.at_ O.fn run
  · obtain rfl : u = Value.ref b := ry
    obtain ⟨_, _, _, o, h1, h2, _⟩ := (show ObjOk X.prog X.w H s.heap b (.tup xs) from I.hok b _ hb')
    exact FoOps.binop_KT I.kIn J ⟨o, h1, h2⟩ hfl O.sf O.at_ O.fn run
end
end L2
set_option Elab.async false
set_option linter.all false
set_option maxRecDepth 100000
set_option maxHeartbeats 2000000
/-! != by an own __eq__, t.index of data -/
namespace FoOps
open PySem PySem.W PyProof.Rows
theorem slot_ne : Slot "object" "__ne__" "object.__ne__" :=
  .of (owner := "object") (n := "__ne__") (by rw [typeLookup_type, builtinLookup_eq_fast]; kernel_rfl) (by decide +kernel) (by decide +kernel) (by decide +kernel)
    (by first | exact .inl (by decide +kernel) | exact .inr (by decide +kernel)) (by rw [isSubtype_type]; kernel_rfl)
section
variable {prog : Program} {w : World} {A : Around} {E : Value → Shared → Prop} {s : Shared} {K : Frag} {x C f : Addr} {ox : Obj} {od : Option Obj} {b : Value}
theorem ne_entry {Q : Fin → Shared → Prop} (X : K.In s.heap) (I : InstAt s.heap x ox C od) (hu : A.units < cLine) (hs : findIn K (.ref C) "__eq__" = some (some (.ref f))) (hf : isFn K (.ref f) = true)
    (h : wpAny (model prog w) A (call (.ref f) [.ref x, b]) (fun v s' => ∃ k, v = .bool k ∧ Q (.done (.ret (.bool (!k)))) s') E s) :
    wpAny (model prog w) A (Builtin.«object.__ne__» ⟨[.ref x, b], []⟩) Q E s := by
  unfold Builtin.«object.__ne__»
  repeat (first
    | with_reducible refine wpAny_cRoomFor hu ?_
    | (refine wpAny_bind (m := callSpecialIfBound? (.ref x) (Str.ofString "__eq__") [b])
        (PySem.W.ifBound_K X I hs hf (wpAny_mono h (fun r s' hr => by
          obtain ⟨k, rfl, hq⟩ := hr
          repeat (first | exact hq | exact wpAny_pure hq | exact wpAny_truthy_bool hq | (refine wpAny_bind (m := truthy (.bool _)) (wpAny_truthy_bool ?_)) | wp_step)) fun _ _ e => e)))
    | wp_step)
theorem ne_own {Q : Value → Shared → Prop} (X : K.In s.heap) (I : InstAt s.heap x ox C od) (hb : Looks (model prog w) s.heap (typeOf b) (.ref C)) (hu : A.units + 1 < cLine)
    (hne : findIn K (.ref C) "__ne__" = some (some (.builtin "object.__ne__"))) (hs : findIn K (.ref C) "__eq__" = some (some (.ref f))) (hf : isFn K (.ref f) = true) (hm : mroIn K C (.type "object") = some true)
    (h : wpAny (model prog w) A.in1 (call (.ref f) [.ref x, b]) (fun v s' => ∃ k, v = .bool k ∧ Q (.bool (!k)) s') E s) : wpAny (model prog w) A (richCompare .NotEq (.ref x) b) Q E s := by
  have sub : Looks (model prog w) s.heap (isInstance (.ref x) (.type "object")) true := I.type.andThen (looks_mroIn X hm)
  have one : wpAny (model prog w) A (tryCompare (.ref x) "__ne__" b) (fun r s' => ∃ v, r = some v ∧ Q v s') E s := by
    unfold tryCompare
    refine wpAny_bind ?_
    simp only [callSpecialIfBound?, bindSpecialIfBound?]
    refine wpAny_holding (wpAny_bind (wpAny_bind (wpAny_bind (I.type.here ((looks_findIn X hne).here ?_)))))
    refine wpAny_bind (wpAny_askSetting (wpAny_ite ?_))
    have fin : wpAny (model prog w) A (call (.builtin "object.__ne__") [.ref x, b]) (fun v s' => ∃ k, v = .bool k ∧ Q (.bool k) s') E s := by
      refine wpAny_call (codeAny_call_builtin slot_ne.plain F.cmpEntry_ne (check_slot F.cmpKind_ne F.cmpSplit_ne sub (F.cmpArgs_ne _ _) ?_))
      refine ne_entry (A := A.in1) X I hu hs hf (wpAny_mono h (fun v s' hv => ?_) fun _ _ z => z)
      obtain ⟨k, rfl, q⟩ := hv
      exact ⟨k, rfl, !k, rfl, q⟩
    have fin2 : wpAny (model prog w) A (call (.builtin "object.__ne__") ([.ref x] ++ [b]) >>= fun v => pure (some v)) (fun a s₁ => wpAny (model prog w) A (match a with | some .notImplemented | none => pure none | some v => pure (some v)) (fun r s' => ∃ v, r = some v ∧ Q v s') E s₁) E s := by
      refine wpAny_bind (wpAny_mono fin (fun v s' hv => ?_) fun _ _ z => z)
      obtain ⟨k, rfl, q⟩ := hv
      exact wpAny_pure (wpAny_pure ⟨_, rfl, q⟩)
    have hbind : bindSpecial (.builtin "object.__ne__") (.ref x) = pure (.builtin "object.__ne__", [.ref x]) := slot_ne.bind _
    split
    · exact wpAny_bind (wpAny_of_eq hbind (wpAny_pure (by exact fin2)))
    · exact wpAny_tryCatch (wpAny_bind (wpAny_of_eq hbind (wpAny_pure (by exact fin2))))
  unfold richCompare
  simp only [oneThing_ref]
  refine wpAny_holding (wpAny_bind (wpAny_cRoomFor (by omega) ?_))
  refine wpAny_bind (I.type.here (wpAny_bind (hb.here ?_)))
  simp only [bne_self_eq_false, Bool.false_eq_true, if_false]
  refine wpAny_bind (wpAny_pure ?_)
  simp only [Bool.false_eq_true, if_false]
  refine wpAny_bind (wpAny_mono one (fun r s' z => ?_) fun _ _ e => e)
  obtain ⟨v, rfl, hq⟩ := z
  exact wpAny_pure hq
end
end FoOps
namespace L2
open PySem PySem.Spec PyProof.Rows
/-- an own class with an own __eq__ at f, and no __ne__ -/
structure OwnEqC (K : PySem.W.Frag) (C f : Addr) : Prop where
  eq : PySem.W.findIn K (.ref C) "__eq__" = some (some (.ref f))
  fn : PySem.W.isFn K (.ref f) = true
  ne : PySem.W.findIn K (.ref C) "__ne__" = some (some (.builtin "object.__ne__"))
  mo : PySem.W.mroIn K C (.type "object") = some true
  nt : PySem.W.notFirst K C (.type "tuple") = true
def rOwnEq (C : Addr) (sp : Sp) (E : XK) : R2 := fun x y H Q => ∃ a dx fs, x = .ref a ∧ H a = some (.ins C dx fs) ∧
  ((∃ b dy gs, y = .ref b ∧ H b = some (.ins C dy gs)) ∨ ∃ b xs, y = .ref b ∧ H b = some (.tup xs)) ∧ sp [x, y] H Q E
def rOwnNe (C : Addr) (sp : Sp) (E : XK) : R2 := fun x y H Q => ∃ a dx fs b dy gs, x = .ref a ∧ H a = some (.ins C dx fs) ∧ y = .ref b ∧ H b = some (.ins C dy gs) ∧
  sp [x, y] H (fun v H' => ∃ k, v = .bl k ∧ Q (.bl (!k)) H') E
section
variable {X : Cx} {CX : CXT} {k : Nat} {f C : Addr} {fd : FuncData} {ps : List Str} {sp : Sp} {E : XK}
theorem op_ownEq (O : OwnEqC X.K C f) (F : FnOk X.prog X.w X.K X.mg X.base CX k f fd ps sp) (hr : Room k X.A) (hb : Binds X.K fd ps []) (hx : Passes CX X E) :
    OpR X (compareOp .Eq) (rOwnEq C sp E) := by
  intro pins s σ H x y v u Q I rx ry h
  obtain ⟨a, dx, fs, rfl, ha, hy, q⟩ := h
  obtain rfl : v = Value.ref a := rx
  obtain ⟨mA, J, _⟩ := ins_get I.hok ha
  obtain ⟨od, J, _⟩ := J.look
  obtain ⟨m, hF⟩ := I.fr
  have run : wpAny (model X.prog X.w) X.A (call (.ref f) [.ref a, u]) (PySem.W.CmpBack (EP X pins σ Q)) X.xe s := by
    refine wpAny_mono (run_fn (us := [.ref a, u]) (vs := [.ref a, y]) F hr hb .nil hx I (.cons rfl (.cons ry .nil)) q) (fun r s' z => ?_) fun _ _ z => z
    obtain ⟨z1, H1, I1, rz, qz⟩ := z
    exact cmpBack_of (not_ni rz) ⟨z1, H1, I1, rz, qz⟩
  show wpAny (model X.prog X.w) X.A (richCompare .Eq (.ref a) u) (EP X pins σ Q) X.xe s
  rcases hy with ⟨b, dy, gs, rfl, hb'⟩ | ⟨b, xs, rfl, hb'⟩
  · obtain rfl : u = Value.ref b := ry
    obtain ⟨mB, J', _⟩ := ins_get I.hok hb'
    obtain ⟨od', J', _⟩ := J'.look
    exact PySem.W.cmp_K (op := .Eq) (tb := .ref C) hr.units0 hF I.ok.mod.kin J J'.type (by simp [PySem.W.notFirst]) O.eq O.fn run
  · obtain rfl : u = Value.ref b := ry
    obtain ⟨_, _, _, o, h1, h2, _⟩ := (show ObjOk X.prog X.w H s.heap b (.tup xs) from I.hok b _ hb')
    have lk : PySem.W.Looks (model X.prog X.w) s.heap (typeOf (.ref b)) (.type "tuple") := fun A Q E s' k q => wpAny_typeOf ⟨o, k _ _ h1, h2⟩ q
    exact PySem.W.cmp_K (op := .Eq) (tb := .type "tuple") hr.units0 hF I.ok.mod.kin J lk O.nt O.eq O.fn run
theorem op_ownNe (O : OwnEqC X.K C f) (F : FnOk X.prog X.w X.K X.mg X.base CX k f fd ps sp) (hr : Room (k + 1) X.A) (hb : Binds X.K fd ps []) (hx : Passes CX X E) :
    OpR X (compareOp .NotEq) (rOwnNe C sp E) := by
  intro pins s σ H x y v u Q I rx ry h
  obtain ⟨a, dx, fs, b, dy, gs, rfl, ha, rfl, hb', q⟩ := h
  obtain rfl : v = Value.ref a := rx
  obtain rfl : u = Value.ref b := ry
  obtain ⟨mA, J, _⟩ := ins_get I.hok ha
  obtain ⟨od, J, _⟩ := J.look
  obtain ⟨mB, J', _⟩ := ins_get I.hok hb'
  obtain ⟨od', J', _⟩ := J'.look
  show wpAny (model X.prog X.w) X.A (richCompare .NotEq (.ref a) (.ref b)) (EP X pins σ Q) X.xe s
  refine FoOps.ne_own I.kIn J J'.type (hu_of hr) O.ne O.eq O.fn O.mo ?_
  have hl := F.len _ _ _ _ q
  have r2 : Vals [V.ref a, V.ref b] [Value.ref a, Value.ref b] := .cons rfl (.cons rfl .nil)
  refine wpAny_call (codeAny_mono (F.run X.A.in1 X.stack s H ⟨[.ref a, .ref b], []⟩ [.ref a, .ref b] [.ref a, .ref b] _ E hr.in1 I.env0.in1 (by
    have := hb s [.ref a, .ref b] I.kIn (by simpa using hl)
    simpa using this) r2 q) fun r s' hq => ?_)
  cases r with
  | error e => exact hx pins σ H s e s' I hq
  | ok fl =>
    cases fl with
    | ret w =>
      obtain ⟨z, H', I', rz, kk, ez, ex⟩ := I.after hq
      subst ez
      cases rz
      exact ⟨kk, rfl, .bl (!kk), H', I', rfl, ex⟩
    | next => exact False.elim hq
    | brk => exact False.elim hq
    | cont => exact False.elim hq
/-- two lists of the very same objects -/
def rNeRefs : R2 := fun x y H Q => ∃ (a b : Addr) (rs : List Addr), x = .ref a ∧ y = .ref b ∧ H a = some (.lst (rs.map V.ref)) ∧ H b = some (.lst (rs.map V.ref)) ∧ Q (.bl false) H
theorem vals_refs : ∀ {rs : List Addr} {us : List Value}, Vals (rs.map V.ref) us → us = rs.map Value.ref
  | [], _, h => by
    cases h
    rfl
  | r :: rs, _, h => by
    cases h with
    | cons h1 h2 =>
      have e1 := vals_refs h2
      cases h1
      rw [e1]
      rfl
theorem op_neRefs (hu : X.A.units < cLine) : OpR X (compareOp .NotEq) rNeRefs := by
  intro pins s σ H x y v u Q I rx ry h
  obtain ⟨a, b, rs, rfl, rfl, ha, hb, q⟩ := h
  obtain rfl : v = Value.ref a := rx
  obtain rfl : u = Value.ref b := ry
  obtain ⟨_, its, n1, r1, e1⟩ := (show ObjOk X.prog X.w H s.heap a (.lst (rs.map V.ref)) from I.hok a _ ha)
  obtain ⟨_, its2, n2, r2, e2⟩ := (show ObjOk X.prog X.w H s.heap b (.lst (rs.map V.ref)) from I.hok b _ hb)
  have q1 := vals_refs r1
  have q2 := vals_refs r2
  subst q1
  subst q2
  have hl1 : s.heap.IsList a (rs.map Value.ref).toArray := ⟨_, e1, rfl, _, rfl⟩
  have hl2 : s.heap.IsList b (rs.map Value.ref).toArray := ⟨_, e2, rfl, _, rfl⟩
  have k := PySem.SeqAt.RcNeAt.lists (A := X.A) (s := s) (e := fun _ => true) hl1 hl2 rfl hu (fun j h1 h2 => PySem.SeqAt.EqAt.same _)
  have e : (!(List.range (rs.map Value.ref).toArray.size).all fun _ => true) = false := by simp
  rw [e] at k
  exact k X.prog X.w X.xe _ ⟨.bl false, H, I, rfl, q⟩
/-- t.index(x) of data: the first place of an equal one -/
def rTIndexD (K : PySem.W.Frag) : V → List V → Hp → VK → Prop := fun x xs H Q => ∃ (a : Addr) (y : V) (d : PyData) (ds : List PyData) (j : Nat) (z : PyData), x = V.ref a ∧ xs = [y] ∧ Dp K H (V.ref a) (.tuple ds) ∧ Dp K H y d ∧
  SeqAt.shaped (.tuple ds) = true ∧ SeqAt.shaped d = true ∧ ds[j]? = some z ∧ PyData.eqv z d = true ∧ (∀ (m : Nat) (z' : PyData), m < j → ds[m]? = some z' → PyData.eqv z' d = false) ∧ Q (.int (j : Nat)) H
theorem mt_tindexD (hu : X.A.units + 65 < cLine) : MtR X "tuple.index" (rTIndexD X.K) := by
  intro pins s σ H x xs v us Q I rx rxs h
  obtain ⟨a, y, d, ds, j, z, rfl, rfl, hl, hy, sl, sd, hz, hzj, hno, q⟩ := h
  cases rx
  cases rxs with
  | cons ry rt =>
    rename_i uy ut
    cases rt
    obtain ⟨bs, r1⟩ := Dp.reads I d y uy hy ry
    have hxs : PyData.canLayAll0 ds = true := SeqAt.canLay_of_shaped sl
    have hroom : X.A.units + 1 + min (PyData.depthAll ds) d.depth < cLine := room_in_shaped sd hu
    cases hl with
    | tup hs ha =>
      obtain ⟨its, rv, pl, hlen⟩ := I.tuple hs
      obtain ⟨⟨cls, dd, dt, sls⟩, ho, hc, n, hd⟩ := pl
      simp only at hc hd
      subst hc
      subst hd
      obtain ⟨as, h4⟩ := Dp.readsAll I ds _ its ha rv
      have hn : its.length = ds.length := SeqAt.ReadsAll.length ds its as h4
      have hmap : its.map (SeqAt.readOf s.heap) = ds := SeqAt.readsAll_map ds its as hxs h4
      obtain ⟨hjd, _⟩ := List.getElem?_eq_some_iff.mp hz
      have hjl : j < its.length := by omega
      have hj : j < its.toArray.size := by simpa using hjl
      have at_ : ∀ (m : Nat) (hm : m < its.toArray.size) (z' : PyData), ds[m]? = some z' → SeqAt.readOf s.heap its.toArray[m] = z' := by
        intro m hm z' hz'
        have hml : m < its.length := by simpa using hm
        rw [← hmap, List.getElem?_map, List.getElem?_eq_getElem hml] at hz'
        have e1 : SeqAt.readOf s.heap its[m] = z' := Option.some.inj (show some (SeqAt.readOf s.heap its[m]) = some z' from hz')
        simpa using e1
      refine call_meets PySem.F.slot_tuple_index ⟨_, ho, rfl⟩ PySem.F.entry_tuple_index (PySem.F.args_tuple_index_2 _ _)
        (TI.tuple_indexAt a its.toArray n dd sls uy (fun u => PyData.eqv (SeqAt.readOf s.heap u) d) j hj ?_ ?_) ⟨ho, SeqAt.items_eqAt (vs := its.toArray) (show ReadsAll s.heap its.toArray.toList ds as from h4) r1 hxs (SeqAt.canLay_of_shaped sd) hroom, ?_⟩
      · show PyData.eqv (SeqAt.readOf s.heap its.toArray[j]) d = true
        rw [at_ j hj z hz]
        exact hzj
      · intro m hm hmj
        have hmd : m < ds.length := by omega
        have hz' : ds[m]? = some ds[m] := List.getElem?_eq_getElem hmd
        show PyData.eqv (SeqAt.readOf s.heap its.toArray[m]) d = false
        rw [at_ m hm _ hz']
        exact hno m _ hmj hz'
      · exact ⟨.int (j : Nat), H, I.tok _, ⟨_, rfl⟩, q⟩
end
end L2
set_option Elab.async false
set_option linter.all false
set_option maxRecDepth 100000
set_option maxHeartbeats 2000000
/-! a * n by an own __mul__, n an int -/
namespace FoOps
open PySem PySem.W PyProof.Rows
theorem int_mul : fillsNumberSlot (.type "int") "mul" = pure true := by
  unfold fillsNumberSlot
  simp only [typeLookup_type, builtinLookup_eq_fast]
  kernel_rfl
theorem look_int : typeLookup (.type "int") (dunderR "mul") = pure (some (.builtin "int.__rmul__")) := by
  rw [typeLookup_type, builtinLookup_eq_fast]
  kernel_rfl
section
variable {prog : Program} {w : World} {A : Around} {E : Value → Shared → Prop} {s : Shared} {K : Frag} {x C f g : Addr} {ox : Obj} {od : Option Obj}
theorem inPython_K {M : Model} {h : Heap} {nm : String} (X : K.In h) (hs : findIn K (.ref C) (PySem.dunder nm) = some (some (.ref f))) (hr : findIn K (.ref C) (dunderR nm) = some (some (.ref g))) : Looks M h (numberSlotInPython (.ref C) nm) true := by
  intro A Q E s k q
  unfold numberSlotInPython
  refine wpAny_bind (looks_findIn X hs A _ E s k ?_)
  show wpAny M A (calledByName (.ref C) (PySem.dunder nm) (some (.ref f)) >>= _) Q E s
  refine wpAny_bind (wpAny_pure ?_)
  refine wpAny_bind (looks_findIn X hr A _ E s k ?_)
  show wpAny M A (calledByName (.ref C) (dunderR nm) (some (.ref g)) >>= _) Q E s
  refine wpAny_bind (wpAny_pure ?_)
  rw [if_pos (by rfl)]
  exact wpAny_pure q
theorem mul_KI {i : Int} {t : Tok} {Q : Value → Shared → Prop} (X : K.In s.heap) (I : InstAt s.heap x ox C od) (hc : selfFirst K C = true) (hsub : subIn K (.type "int") (.ref C) = some false)
    (hs : findIn K (.ref C) (PySem.dunder "mul") = some (some (.ref f))) (hf : isFn K (.ref f) = true) (hr : findIn K (.ref C) (dunderR "mul") = some (some (.ref g)))
    (h : wpAny (model prog w) A (call (.ref f) [.ref x, .int i t]) (PySem.W.CmpBack Q) E s) : wpAny (model prog w) A (binaryOp .Mult (.ref x) (.int i t)) Q E s := by
  obtain ⟨cd, hcd, hm⟩ := any_some hc
  obtain ⟨rest, hm⟩ : ∃ rest, cd.mro = .ref C :: rest := by
    cases q : cd.mro with
    | nil => rw [q] at hm; cases hm
    | cons a r => rw [q] at hm; exact ⟨r, by rw [List.head?_cons] at hm; cases (beq_iff_eq.mp hm); rfl⟩
  unfold binaryOp
  refine wpAny_holding (wpAny_bind ?_)
  show wpAny _ _ (binaryOp1 "mul" (.ref x) (.int i t)) _ _ _
  unfold binaryOp1
  refine wpAny_bind (I.type.here (wpAny_bind (wpAny_typeOf (T := "int") rfl (wpAny_bind ((fills_K X hcd hm hs).here ?_)))))
  have e : (Value.ref C == Value.type "int") = false := by simp
  simp only [e, Bool.false_eq_true, if_false]
  refine wpAny_bind (wpAny_of_eq int_mul ?_)
  simp only [Bool.and_self, if_true]
  refine wpAny_bind ((looks_subIn X hsub).here ?_)
  simp only [Bool.false_eq_true, if_false, Bool.not_false, Bool.and_true, if_true]
  refine wpAny_bind ((inPython_K X hs hr).here ?_)
  simp only [if_true]
  refine wpAny_bind (wpAny_of_eq (show numberSlotInPython (.type "int") "mul" = pure false from rfl) ?_)
  simp only [Bool.not_false, if_true]
  refine wpAny_bind (wpAny_of_eq look_int ?_)
  dsimp only
  refine wpAny_bind (m := tryMethod (.ref x) _ _) ?_
  unfold tryMethod
  refine wpAny_bind (special_fn X I hs (beq_iff_eq.mp hf) (wpAny_mono h (fun v s' hv => ?_) fun _ _ e => e))
  cases v <;> first | exact hv.elim | exact wpAny_pure (wpAny_pure (wpAny_pure hv))
end
end FoOps
namespace L2
open PySem PySem.Spec PyProof.Rows
structure OwnMul (K : PySem.W.Frag) (C f g : Addr) : Prop where
  sf : PySem.W.selfFirst K C = true
  at_ : PySem.W.findIn K (.ref C) "__mul__" = some (some (.ref f))
  fn : PySem.W.isFn K (.ref f) = true
  rat : PySem.W.findIn K (.ref C) "__rmul__" = some (some (.ref g))
  sb : PySem.W.subIn K (.type "int") (.ref C) = some false
def rOwnMul (C : Addr) (sp : Sp) (E : XK) : R2 := fun x y H Q => ∃ a dx fs i, x = .ref a ∧ H a = some (.ins C dx fs) ∧ y = .int i ∧ sp [x, y] H Q E
section
variable {X : Cx} {CX : CXT} {k : Nat} {f g C : Addr} {fd : FuncData} {ps : List Str} {sp : Sp} {E : XK}
theorem op_ownMul (O : OwnMul X.K C f g) (F : FnOk X.prog X.w X.K X.mg X.base CX k f fd ps sp) (hr : Room k X.A) (hb : Binds X.K fd ps []) (hx : Passes CX X E) :
    OpR X (binaryOp .Mult) (rOwnMul C sp E) := by
  intro pins s σ H x y v u Q I rx ry h
  obtain ⟨a, dx, fs, i, rfl, ha, rfl, q⟩ := h
  obtain rfl : v = Value.ref a := rx
  obtain ⟨mA, J, _⟩ := ins_get I.hok ha
  obtain ⟨od, J, _⟩ := J.look
  have run : wpAny (model X.prog X.w) X.A (call (.ref f) [.ref a, u]) (PySem.W.CmpBack (EP X pins σ Q)) X.xe s := by
    refine wpAny_mono (run_fn (us := [.ref a, u]) (vs := [.ref a, .int i]) F hr hb .nil hx I (.cons rfl (.cons ry .nil)) q) (fun r s' z => ?_) fun _ _ z => z
    obtain ⟨z1, H1, I1, rz, qz⟩ := z
    exact cmpBack_of (not_ni rz) ⟨z1, H1, I1, rz, qz⟩
  obtain ⟨t, rfl⟩ := ry
  exact FoOps.mul_KI I.kIn J O.sf O.sb O.at_ O.fn O.rat run
end
end L2
set_option Elab.async false
set_option linter.all false
set_option maxRecDepth 100000
set_option maxHeartbeats 2000000
/-! an own error over ValueError (perhaps over others between), whose __init__ says super().__init__(text) and keeps one field -/
namespace FoX
open PySem PySem.W PySem.Calls PyProof.Rows PySem.HandSPX
theorem one_sz (v : Value) : [v].length ≤ sizeLine := by
  rw [sizeLine_eq]
  exact (by decide : 1 ≤ 16777216)
section
variable {prog : Program} {w : World} {A : Around} {E : Value → Shared → Prop} {h : Heap} {g : Array GenState} {d : Drawn} {t : Nat} {os : OsState}
/-- the bound built-in __init__ called -/
theorem mw_call {nm q : Str} {C N u e t0 : Addr} {bs bm : List Value} {hdct : Bool} {sn : List Str} {sub : List Value} {ab : Bool} {col : Option Bool} {dd : Option Addr} {k0 k1 k2 k3 k5 : Option Value} {rest : List Value} {Q : Value → Shared → Prop}
    (hC : h.get? C = some (excClassObj nm q C N bs bm hdct sn sub ab col dd k0 k1 k2 k3 k5 "ValueError.__new__")) (he : h.get? e = some (HandSPX.excO C t0)) (hu : h.get? u = some (kxs_mw "ValueError.__init__" e)) (hz : rest.length ≤ sizeLine)
    (hq : ∀ h' t1, (∀ b o, b ≠ e → h.get? b = some o → h'.get? b = some o) → h'.get? e = some (HandSPX.excO C t1) → Q .none ⟨h', g, d, t, os⟩) :
    wpAny (model prog w) A (call (.ref u) rest) Q E ⟨h, g, d, t, os⟩ := by
  refine wpAny_call (codeAny_of_tree ?_)
  show wpAny (model prog w) A.in1 (callAny (.ref u) ⟨rest, []⟩) _ _ _
  simp only [callAny]
  refine wpAny_bind (wpAny_load hu ?_)
  have tb : (Value.type "method-wrapper" == Value.type "method" || Value.type "method-wrapper" == Value.type "builtin_function_or_method" || Value.type "method-wrapper" == Value.type "method-wrapper") = true := by decide
  simp only [kxs_mw, tb, if_true]
  refine KFB.if_so (by decide) (wpAny_bind (check_bound_init F.excBase_ValueError.toExcCallFacts hC he rfl ?_))
  refine wpAny_bind (wpAny_pure (wpAny_pure ⟨plainId_quiet F.excBase_ValueError.init.plain _, codeAny_builtin F.excBase_ValueError.initEntry ?_⟩))
  exact exc_init_tree (cls := .ref C) (t0 := t0) (dv := none) (c2 := .none) (c3 := .none) (b4 := .bool false) he hz fun h' k e' _ => hq h' _ k e'
end
end FoX
set_option Elab.async false
set_option linter.all false
set_option maxRecDepth 100000
set_option maxHeartbeats 2000000
namespace FoX_thing
open PySem PySem.W PySem.Calls PyProof.Rows PySem.HandSPX FoX
/-- the text of such an __init__ -/
def xB (msg : Str) (a1 a2 a3 a4 a5 a6 q1 q2 q3 q4 : Pos) (j : Nat) : List Stmt :=
  [.Expr (.Call (.Attribute (.Call (.Name "super" a1) [] [] a2) "__init__" a3) [.Constant (.str msg) j a4] [] a5) a6, .Assign [.Attribute (.Name "self" q1) (Str.ofString "thing") q2] (.Name (Str.ofString "thing") q3) q4]
def xS : Scope := { kind := .function, names := [(Str.ofString "self", .local), ((Str.ofString "thing"), .local), (Str.ofString "__class__", .free), (Str.ofString "super", .globalImplicit)], isGenerator := false, isCoroutine := false, more := [] }
def xA (p1 p2 : Pos) : Arguments := { posonlyargs := [], args := [{ arg := "self", annotation := none, pos := p1 }, { arg := (Str.ofString "thing"), annotation := none, pos := p2 }], vararg := none, kwonlyargs := [], kw_defaults := [], kwarg := none, defaults := [] }
/-- what the written part says of the class at C and its __init__ at fI -/
structure XTxt (P : Program) (K : Frag) (mg : Str → Option Value) (C fI : Addr) : Prop where
  cls : ∃ nm q N bs bm sn sub ab col dd k0 k1 k2 k3 k5, K.lookup C = some (excClassObj nm q C N bs bm true sn sub ab col dd k0 k1 k2 k3 k5 "ValueError.__new__") ∧ refsVE bm = true
  sa : findIn K (.ref C) "__setattr__" = some (some (.builtin "object.__setattr__"))
  ga : findIn K (.ref C) "__getattribute__" = some (some (.builtin "BaseException.__getattribute__"))
  gg : findIn K (.ref C) "__getattr__" = some none
  noN : findIn K (.ref C) (Str.ofString "thing") = some none
  iC : findIn K (.ref C) "__init__" = some (some (.ref fI))
  tC : typeIn K (.ref fI) = some (.type "function")
  kC : keepIn K (.ref C) = true
  exC : subIn K (.ref C) (.type "BaseException") = some true
  tyC : typeIn K (.ref C) = some (.type "type")
  hdC : hasDictIn K C = true
  sup : ks_superIn K C C "__init__" = some (some (.builtin "ValueError.__init__"))
  tp : nsIn K cStatics "thirdparty.any" = some none
  zs : mg "super" = none
  ve : subIn K (.ref C) (.type "ValueError") = some true
  mr : mroIn K C (.ref C) = some true
  top : (P.main.scope.names.lookup ("super" : Str)).isSome = false
  fn : ∃ (qual msg : Str) (oc : Value) (od : Option Addr) (doc pm kV : Value) (an : Option Addr) (cc cda : Addr) (ct : Value) (osl : Array (Option Value)) (p1 p2 a1 a2 a3 a4 a5 a6 q1 q2 q3 q4 : Pos) (j : Nat) (ccl cl : Value) (cdd cld : Option Addr) (vs : Array Value) (ccs csl : Array (Option Value)) (file : Str) (tf : Tok),
    K.lookup fI = some ⟨oc, od, .func (ksFn "__init__" qual (xA p1 p2) (xB msg a1 a2 a3 a4 a5 a6 q1 q2 q3 q4 j) xS .none kV doc pm an (.ref cda) ct cc), osl⟩ ∧ codeIn K (.ref cda) qual = true ∧
    K.lookup cda = some ⟨ccl, cdd, .fields vs, ccs⟩ ∧ vs[2]? = some (.str file tf) ∧ ((P.main.file : Str) == file) = true ∧ (a3.endLine == a5.line) = true ∧ K.lookup cc = some ⟨cl, cld, .cell (some (.ref C)), csl⟩
theorem xcel : ∀ y ∈ xS.names, y.2 ≠ .cell := by decide
/-- the call of super's method, its tree -/
theorem x_tree (msg : Str) (a1 a2 a3 a4 a5 : Pos) (j : Nat) (env : Env) (hl : (a3.endLine == a5.line) = true) : eval (.Call (.Attribute (.Call (.Name "super" a1) [] [] a2) "__init__" a3) [.Constant (.str msg) j a4] [] a5) env = (do
      let ov ← attributeBase (.Call (.Name "super" a1) [] [] a2) "__init__" env (eval (.Call (.Name "super" a1) [] [] a2) env)
      standAt a3.atName
      let (f, first) ← holding [ov] (getMethod ov "__init__" (do return (← importBound (.Call (.Name "super" a1) [] [] a2) env).getD true))
      callWith a5 f first (backTo a5 (starEach [.Constant (.str msg) j a4] env)) []) := by
  rw [arm_eval_Call]
  unfold methodCall methodCallPos
  simp only [hl, Bool.or_true, if_true]
  rfl
/-- what __init__ leaves of a fresh error at x -/
structure XEnd (h h' : Heap) (x C dx : Addr) (v : Value) : Prop where
  keep : ∀ b o, b ≠ x → h.get? b = some o → h'.get? b = some o
  obj : ∃ t1 : Addr, h'.get? x = some { cls := .ref C, dict := some dx, data := .fields #[.ref t1, .none, .none, .none, .bool false, .none] }
  dbig : h.objs.size ≤ dx
  dne : dx ≠ x
  ns : h'.Ns1 dx (fun y => if y = (Str.ofString "thing") then some v else none)
section
variable {prog : Program} {w : World} {A : Around} {E : Value → Shared → Prop} {R : Result → Shared → Prop} {s : Shared} {K : Frag} {mg : Str → Option Value} {C fI : Addr}
theorem x_init (T : XTxt prog K mg C fI) {x t0 : Addr} {v : Value} (X : K.In s.heap) (hg : s.heap.Ns mainGlobals mg) (hbl : ∃ mb, s.heap.Ns builtinsNs mb ∧ ∀ y : Str, y ≠ "__name__" → mb y = bootBuiltins y) (hlim : s.heap.NoLimit)
    (hx : s.heap.get? x = some (HandSPX.excO C t0)) (hnx : K.lookup x = none) (hroom : A.depth < recursionLimit) (hq : ∀ h' tk dx, XEnd s.heap h' x C dx v → R (.ok (.ret .none)) { s with heap := h', toks := tk }) :
    codeAny (model prog w) A (.call (.ref fI) ⟨[.ref x, v], []⟩) R s := by
  obtain ⟨qual, msg, oc, od, doc, pm, kV, an, cc, cda, ct, osl, p1, p2, a1, a2, a3, a4, a5, a6, q1, q2, q3, q4, j, ccl, cl, cdd, cld, vs, ccs, csl, file, tf, ho, hcd, hcode, hvs, hfile, hline, hcell⟩ := T.fn
  obtain ⟨nm, q, N, bs, bm, sn, sub, ab, col, dd, k0, k1, k2, k3, k5, hC, hbm⟩ := T.cls
  have hcl : clsIn K C = some { name := nm, bases := bs, mro := .ref C :: bm, ns := N, qualname := q, hasDict := true, slotNames := sn, subclasses := sub, abstract := ab, collection := col, hasDel := false } := by unfold clsIn; rw [hC] <;> rfl
  obtain ⟨hp, g, d, tk, os⟩ := s
  refine ks_codeAny_call_defAt (fd := ksFn "__init__" qual (xA p1 p2) (xB msg a1 a2 a3 a4 a5 a6 q1 q2 q3 q4 j) xS .none kV doc pm an (.ref cda) ct cc) (body := xB msg a1 a2 a3 a4 a5 a6 q1 q2 q3 q4 j) (binds := [(Str.ofString "self", .ref x), ((Str.ofString "thing"), v)]) hroom (X _ _ ho) rfl hlim (codeRec_of X hcd) rfl (BindsTo.of_eq rfl) xcel ?_ (fun h₁ hns k => ?_) rfl rfl rfl
  · intro y hy
    rcases List.mem_cons.mp hy with rfl | hy
    · exact rfl
    · rcases List.mem_cons.mp hy with rfl | hy
      · exact rfl
      · cases hy
  have X₁ : K.In h₁ := X.keeps k
  have hx₁ : h₁.get? x = some (HandSPX.excO C t0) := k _ _ hx
  have I₁ : InstAt h₁ x (HandSPX.excO C t0) C none := ⟨hx₁, rfl, rfl, trivial⟩
  have vself : (fun y : Str => List.lookup y (List.reverse [((Str.ofString "self"), Value.ref x), ((Str.ofString "thing"), v)])) (Str.ofString "self") = some (.ref x) := by
    have e : ((Str.ofString "self") == (Str.ofString "thing")) = false := by decide +kernel
    simp [List.lookup, e]
  have vfld : (fun y : Str => List.lookup y (List.reverse [((Str.ofString "self"), Value.ref x), ((Str.ofString "thing"), v)])) (Str.ofString "thing") = some v := by
    simp [List.lookup]
  obtain ⟨mb, hb1, hb2⟩ := hbl
  -- super().__init__(text)
  refine ks_wpAt_execs_cons (ks_wpAt_Expr_any (ks_wpAt_MethodCall ?_ (x_tree msg a1 a2 a3 a4 a5 j _ hline)) rfl rfl)
  refine ks_wpAt_super_base (f := fI) (fd := ksFn "__init__" qual (xA p1 p2) (xB msg a1 a2 a3 a4 a5 a6 q1 q2 q3 q4 j) xS .none kV doc pm an (.ref cda) ct cc) (ar := { arg := "self", annotation := none, pos := p1 }) rfl rfl rfl rfl (X₁ _ _ ho) rfl rfl rfl (X₁ _ _ hcode) rfl hvs hfile T.top ?_
  refine ks_loadName_global rfl rfl (loadGlobal_builtin (hg.keeps k) T.zs (hb1.keeps k) ((hb2 _ (by decide +kernel)).trans (by decide +kernel)) ⟨rfl, ?_⟩)
  refine wpAny_loadName_free rfl rfl rfl ⟨_, X₁ _ _ hcell, rfl⟩ ?_
  refine wpAny_loadName_local rfl rfl hns vself ?_
  obtain ⟨oD, hD1, hD2⟩ : ∃ oD, h₁.get? C = some oD ∧ oD.data = .cls { name := nm, bases := bs, mro := .ref C :: bm, ns := N, qualname := q, hasDict := true, slotNames := sn, subclasses := sub, abstract := ab, collection := col, hasDel := false } := ⟨_, X₁ _ _ hC, rfl⟩
  refine ks_wpAny_isType_cls hD1 hD2 ⟨rfl, ?_⟩
  refine ks_wpAny_call_super hD1 hD2 hx₁ rfl (fun c e => by cases e) (looks_mroIn X₁ T.mr) (fun h₂ e₂ k₂ => ?_)
  have X₂ : K.In h₂ := X₁.keeps k₂
  have hx₂ : h₂.get? x = some (HandSPX.excO C t0) := k₂ _ _ hx₁
  have I₂ : InstAt h₂ x (HandSPX.excO C t0) C none := ⟨hx₂, rfl, rfl, trivial⟩
  have hsup := T.sup
  unfold ks_superIn at hsup
  rw [hcl] at hsup
  have hmro : Looks (model prog w) h₂ (mroOf (.ref C)) (.ref C :: bm) := (looks_clsIn X₂ hcl).andThen .now
  refine kxs_getMethod kxs_ValueError e₂ (looks_opaque X₂ T.tp) hmro rfl X₂ hsup (I₂.type.andThen (looks_subIn X₂ T.ve)) (ks_ne X₂ I₂ hcl) rfl ?_
  -- the wrapper called
  have hk₃ : ∀ b o, h₂.get? b = some o → (h₂.push (kxs_mw "ValueError.__init__" x)).get? b = some o := fun b o e => Heap.get?_push_of_some _ e
  have hu₃ : (h₂.push (kxs_mw "ValueError.__init__" x)).get? h₂.objs.size = some (kxs_mw "ValueError.__init__" x) := Heap.get?_push_at rfl rfl
  refine kxs_callWith (i := "ValueError.__init__") (x := x) rfl (evalArgs_plain (Calls.spliced_cons (Calls.Constant_str (pos := a4) (k := j) (Calls.spliced_nil ⟨hu₃, ?_⟩))))
  refine mw_call (X₂.keeps hk₃ _ _ hC) (hk₃ _ _ hx₂) hu₃ (one_sz _) (fun h₄ t1 k₄ hx₄ => ?_)
  have kall : ∀ b o, b ≠ x → hp.get? b = some o → h₄.get? b = some o := fun b o hb e => k₄ b o hb (hk₃ b o (k₂ b o (k b o e)))
  have xC : x ≠ C := ks_ne X₂ I₂ hcl
  have X₄ : K.In h₄ := fun b o e => kall b o (fun z => by rw [z, hnx] at e; cases e) (X b o e)
  have hL : hp.objs.size ≠ x := Nat.ne_of_gt (Heap.lt_size hx)
  have hns₄ : h₄.Ns hp.objs.size (fun y => List.lookup y (List.reverse [((Str.ofString "self"), Value.ref x), ((Str.ofString "thing"), v)])) := by
    obtain ⟨oL, es, ep, hoL, r⟩ := hns
    exact ⟨oL, es, ep, k₄ _ _ hL (hk₃ _ _ (k₂ _ _ hoL)), r⟩
  -- self.field = field
  refine wpAt_of_wpAny ?_
  refine wpAny_execs_cons (plainObj_wpAny_Assign_Attribute ?_)
  refine wpAny_Name (wpAny_loadName_local rfl rfl hns₄ vfld (wpAny_Name (wpAny_loadName_local rfl rfl hns₄ vself ?_) (by decide))) (by decide)
  refine set_plain X₄ (ox := HandSPX.excO C t1) (od := none) ⟨hx₄, rfl, rfl, trivial⟩ T.sa ?_
  refine exc_osa X₄ hx₄ hcl (show refsVE (.ref C :: bm) = true from hbm) rfl T.noN (fun h₅ tk₅ dx k₅ dn dne hx₅ hn₅ => ?_)
  refine wpAny_execs_nil (hq h₅ tk₅ dx ⟨fun b o hb e => k₅ b o hb (kall b o hb e), ⟨t1, hx₅⟩, ?_, dne, hn₅⟩)
  have z1 : hp.objs.size < h₄.objs.size := hns₄.lt
  exact Nat.le_of_lt (Nat.lt_of_lt_of_le z1 dn)
/-- a made error -/
structure XMade (h h' : Heap) (e C d : Addr) (v : Value) : Prop where
  keep : ∀ b o, h.get? b = some o → h'.get? b = some o
  new : h.objs.size ≤ e
  obj : ∃ oe vs, h'.get? e = some oe ∧ oe.cls = .ref C ∧ oe.dict = some d ∧ oe.data = .fields vs ∧ vs[1]? = some .none
  dbig : h.objs.size ≤ d
  dne : d ≠ e
  ns : h'.Ns1 d (fun y => if y = (Str.ofString "thing") then some v else none)
theorem x_made (T : XTxt prog K mg C fI) {v : Value} (X : K.In s.heap) (hg : s.heap.Ns mainGlobals mg) (hbl : ∃ mb, s.heap.Ns builtinsNs mb ∧ ∀ y : Str, y ≠ "__name__" → mb y = bootBuiltins y) (hlim : s.heap.NoLimit) (hroom : A.depth + 1 < recursionLimit)
    (hq : ∀ h' tk e d, XMade s.heap h' e C d v → R (.ok (.ret (.ref e))) { s with heap := h', toks := tk }) : codeAny (model prog w) A (.call (.ref C) ⟨[v], []⟩) R s := by
  obtain ⟨nm, q, N, bs, bm, sn, sub, ab, col, dd, k0, k1, k2, k3, k5, hC, hbm⟩ := T.cls
  obtain ⟨hp, g, dr, tk, os⟩ := s
  have k : ∀ b o, hp.get? b = some o → ((hp.push (kdv_tup [v])).push (HandSPX.excO C hp.objs.size)).get? b = some o := fun b o e => Heap.get?_push_of_some _ (Heap.get?_push_of_some _ e)
  have hget : ((hp.push (kdv_tup [v])).push (HandSPX.excO C hp.objs.size)).get? (hp.objs.size + 1) = some (HandSPX.excO C hp.objs.size) := by heap_get
  have hnx : K.lookup (hp.objs.size + 1) = none := by
    cases e : K.lookup (hp.objs.size + 1) with
    | none => rfl
    | some o => exact absurd (Nat.lt_of_succ_lt (Heap.lt_size (X _ _ e))) (Nat.lt_irrefl _)
  refine call_own F.excBase_ValueError (fun Y => refsVE_contains Y bm hbm) (X _ _ hC) (looks_findIn X T.iC) (fun self => bind_fn X self T.tC) (one_sz v) ?_
  obtain ⟨mb, hb1, hb2⟩ := hbl
  refine x_init (s := ⟨(hp.push (kdv_tup [v])).push (HandSPX.excO C hp.objs.size), g, dr, tk, os⟩) T (X.keeps k) (hg.keeps k) ⟨mb, hb1.keeps k, hb2⟩ (hlim.keeps k) hget hnx ?_ fun h' tk' dx ⟨k', ⟨t1, hx⟩, dn, dne, hns⟩ => ?_
  · show A.depth + 1 < recursionLimit
    exact hroom
  · have old : ∀ b o, hp.get? b = some o → h'.get? b = some o := fun b o e => k' b o (Nat.ne_of_lt (Nat.lt_succ_of_lt (Heap.lt_size e))) (k b o e)
    have z : hp.objs.size + 1 + 1 ≤ dx := by
      first
        | (simpa only [Heap.size_push] using dn)
        | exact dn
        | (have q := dn; rw [Heap.size_push, Heap.size_push] at q; exact q)
    exact ⟨rfl, hq h' tk' (hp.objs.size + 1) dx ⟨old, Nat.le_succ _, ⟨_, _, hx, rfl, rfl, rfl, rfl⟩, Nat.le_trans (Nat.le_trans (Nat.le_succ _) (Nat.le_succ _)) z, dne, hns⟩⟩
end
end FoX_thing
namespace L2
open PySem PySem.Spec PyProof.Rows
theorem relO_thing {v : V} {v' : Value} (r : RelV v v') (f : Str) : RelO (List.lookup f [((Str.ofString "thing"), v)]) (if f = (Str.ofString "thing") then some v' else none) := by
  by_cases hw : f = (Str.ofString "thing")
  · subst hw
    rw [if_pos rfl]
    have q : List.lookup (Str.ofString "thing") [((Str.ofString "thing"), v)] = some v := by simp [List.lookup]
    rw [q]
    exact r
  · rw [if_neg hw]
    have qw : (f == (Str.ofString "thing")) = false := by simpa using hw
    have q2 : List.lookup f [((Str.ofString "thing"), v)] = none := by simp [List.lookup, qw]
    rw [q2]
    trivial
section
variable {X : Cx} {C fI : Addr} {nm : Str}
/-- Name(e) -/
def tMkX_thing (C : Addr) (ta : TA) : St → Hp → XK → Prop := fun σ H Q => ta σ H fun vs H1 => ∃ v, vs = [v] ∧ ∀ d, H1 d = none → Q (.ref C) (some d) (upd H1 d (.xd [((Str.ofString "thing"), v)]))
theorem pmk_thing {a : Expr} {ta : TA} {p pos : Pos} {k : Nat} (T : FoX_thing.XTxt X.prog X.K X.mg C fI) (gC : X.mg nm = some (.ref C)) (hr : Room k X.A) (ha : PA X [a] ta) (hg : Gl X nm) (hdb : (nm == ("__debug__" : Str)) = false)
    (he : starEach (a :: []) X.env = (false, eval a X.env) :: starEach [] X.env := by rfl) (hpl : (backTo pos (starEach [] X.env)).any (·.1) = false := by rfl) :
    PMk X (.Call (.Name nm p) [a] [] pos) (tMkX_thing C ta) := by
  intro pins s σ H Q I h
  refine wpAny_Call_Name_kw (ld_glob I hg gC ?_ hdb)
  refine PySem.W.callWith_K (h₀ := X.base) I.ok.mod.kin T.kC (thn (ha.run pos pins s σ H _ I h) fun us s1 hh => ?_) he hpl
  obtain ⟨vs, H1, I1, r1, v, ev, q1⟩ := hh
  subst ev
  refine ⟨I1.kIn, ?_⟩
  cases r1 with
  | cons rv rn =>
    rename_i v' us'
    cases rn
    show wpAny _ _ (call (.ref C) [v']) _ _ _
    have hlim := I1.nolimit
    have hgl : s1.heap.Ns mainGlobals X.mg := I1.mod.glob.keeps I1.bk
    obtain ⟨mb, hb1, hb2⟩ := I1.mod.blt
    have hbl : ∃ mb, s1.heap.Ns builtinsNs mb ∧ ∀ y : Str, y ≠ "__name__" → mb y = bootBuiltins y := ⟨mb, hb1.keeps I1.bk, hb2⟩
    obtain ⟨hp, g, dr, tk, os⟩ := s1
    refine wpAny_call (FoX_thing.x_made T I1.kIn hgl hbl hlim (by have := hr.dp; omega) fun h' tk' e d M => ?_)
    show MkP X pins σ Q (.ref e) ⟨h', g, dr, tk', os⟩
    obtain ⟨oe, fv, hoe, hc, hd, hdat, h1⟩ := M.obj
    have hns := M.ns
    obtain ⟨G', g1, g2⟩ := restrict h' fun b => decide (b ≠ e)
    have gk : ∀ b, b ≠ e → G'.get? b = h'.get? b := fun b hb => g1 b (decide_eq_true hb)
    have ge : G'.get? e = none := g2 e (by simp)
    have old : ∀ b o, hp.get? b = some o → G'.get? b = some o := fun b o q => (gk b (Nat.ne_of_lt (Nat.lt_of_lt_of_le (Heap.lt_size q) M.new))).trans (M.keep b o q)
    have ob : ObjOk X.prog X.w (upd H1 d (.xd [((Str.ofString "thing"), v)])) G' d (.xd [((Str.ofString "thing"), v)]) :=
      ⟨_, hns.at (fun o q => (gk d M.dne).trans q), fun f => relO_thing rv f⟩
    have J : Inv X pins σ (upd H1 d (.xd [((Str.ofString "thing"), v)])) ⟨G', g, dr, tk', os⟩ := I1.laid (t' := tk') old M.dbig ob
    refine ⟨e, oe, fv, ⟨G', g, dr, tk', os⟩, _, .ref C, some d, rfl, J, fun b o q => ?_, ge, hoe, ⟨hc, hd⟩, hdat, h1, ?_, rfl, I1.bare, raises_own T.exC T.tyC, q1 d (I1.hok.fresh M.dbig)⟩
    · by_cases hb : b = e
      · have q' : G'.get? b = some o := q
        rw [hb, ge] at q'; cases q'
      · exact (gk b hb).symm.trans q
    · rw [upd_ne (Ne.symm M.dne)]
      exact I1.hok.fresh M.new
/-- raise Name(e) -/
def tRaiseX_thing (C : Addr) (W : WX) (ta : TA) : TS := fun _ σ H => tMkX_thing C ta σ H fun cls d H' => W cls d σ H'
theorem ps_raise_thing {a : Expr} {ta : TA} {W : WX} {p pos pos2 : Pos} {k : Nat} (hc : X.calm = true) (T : FoX_thing.XTxt X.prog X.K X.mg C fI) (gC : X.mg nm = some (.ref C)) (hr : Room k X.A) (tk : Takes X W) (ha : PA X [a] ta) (hg : Gl X nm := by rfl) (hdb : (nm == ("__debug__" : Str)) = false := by decide)
    (he : starEach (a :: []) X.env = (false, eval a X.env) :: starEach [] X.env := by rfl) (hpl : (backTo pos (starEach [] X.env)).any (·.1) = false := by rfl) :
    PS X (.Raise (some (.Call (.Name nm p) [a] [] pos)) none pos2) (tRaiseX_thing C W ta) := ps_raise hc tk (pmk_thing T gC hr ha hg hdb he hpl)
/-- e.field, e the error that the suite holds (at a; its class cls, its dict d) -/
def tByX_thing (C : Addr) (a : Addr) (cls : Value) (d : Option Addr) (te : TE) : TE := fun σ H Q => te σ H fun x H1 => x = .ref a ∧ cls = .ref C ∧ ∃ (dd : Addr) (v : V), d = some dd ∧ H1 dd = some (.xd [((Str.ofString "thing"), v)]) ∧ Q v H1
theorem pe_by_thing {a : Addr} {oe : Obj} {cls : Value} {d : Option Addr} {pn : List (Addr × Obj)} {e : Expr} {te : TE} {pos : Pos} (T : FoX_thing.XTxt X.prog X.K X.mg C fI) (hz : Zc cls d oe) (hf : ∃ vs, oe.data = .fields vs) (he : PE (X.suite a ((a, oe) :: pn)) e te)
    (hb : attributeBase e (Str.ofString "thing") X.env (eval e X.env) = eval e X.env := by rfl) :
    PE (X.suite a ((a, oe) :: pn)) (.Attribute e (Str.ofString "thing") pos) (tByX_thing C a cls d te) := by
  refine ⟨fun pins s σ H Q I h => ?_⟩
  refine attr_of hb (thn (he.run pins s σ H _ I h) fun u s1 hh => ?_)
  obtain ⟨x, H1, I1, rx, ex, ec, dd, v, ed, ea, q⟩ := hh
  subst ex
  obtain rfl : u = Value.ref a := rx
  subst ec
  subst ed
  obtain ⟨ha, _⟩ := I1.pin (a, oe) (List.mem_append_left _ List.mem_cons_self)
  obtain ⟨vs, hd⟩ := hf
  have hx : ObjOk X.prog X.w H1 s1.heap dd (.xd [((Str.ofString "thing"), v)]) := I1.hok dd _ ea
  obtain ⟨mA, hns, hr⟩ := hx
  obtain ⟨od, ho, hl⟩ := lookIn_ns hns
  have l : List.lookup (Str.ofString "thing") [((Str.ofString "thing"), v)] = some v := by simp [List.lookup]
  obtain ⟨u, hu, ru⟩ := RelO.some_of (v := v) (o := mA (Str.ofString "thing")) (by rw [← l]; exact hr (Str.ofString "thing"))
  have J : PySem.W.InstAt s1.heap a oe C (some od) := ⟨ha, hz.1, by unfold PySem.W.notCls; rw [hd] <;> rfl, by rw [hz.2]; exact ho⟩
  exact HandSPX.exc_get I1.kIn J T.ga T.gg T.exC (PySem.W.findObj_own T.hdC T.noN rfl (by rw [hl, hu])) (handed_of ru) ⟨v, H1, I1.tok _, ru, q⟩
end
end L2
set_option Elab.async false
set_option linter.all false
set_option maxRecDepth 100000
set_option maxHeartbeats 2000000
/-! defs that are called where no guard stands (so that repr of lists and tuples can be told) -/
namespace L2
open PySem PySem.Spec PyProof.Rows
/-- the promise of a def, where nothing is being shown around it -/
structure FnG (P : Program) (w : World) (K : PySem.W.Frag) (mg : Str → Option Value) (base : Heap) (CX : CXT) (k : Nat) (f : Addr) (fd : FuncData) (ps : List Str) (sp : Sp) : Prop where
  len : ∀ vs H Q E, sp vs H Q E → vs.length = ps.length
  run : ∀ (A : Around), A.guards = some [] → ∀ (outer : List Env) (s : Shared) (H : Hp) (args : Args) (us : List Value) (vs : List V) (Q : VK) (E : XK), Room k A → Env0 P w K mg base A outer s H → BindsTo s fd args (ps.zip us) → Vals vs us → sp vs H Q E →
    codeAny (model P w) A (.call (.ref f) args) (CR CX outer P w H s Q E) s
section
variable {P : Program} {w : World} {K : PySem.W.Frag} {mg : Str → Option Value} {base : Heap}
/-- by its body -/
theorem Fun.okG {x qual : Str} {st : Stmt} {f : Addr} {fd : FuncData} {N ps : List Str} {k : Nat} {sp : Sp} (F : Fun K x qual st f fd) (S : FnScope N ps (defScope st)) (len : ∀ vs H Q E, sp vs H Q E → vs.length = ps.length)
    (walk : ∀ (cdv : Value) (A : Around) (outer : List Env) (s : Shared) (H : Hp) (vs : List V) (Q : VK) (E : XK), A.guards = some [] → Room k (A.deeper (envOfC qual (defScope st) s.heap.objs.size f cdv)) → sp vs H Q E →
      ∃ t, PSs (cxOf CX0 P w K mg base N qual (defScope st) f cdv A outer s H E).nox (defBody st) t ∧ t { nx := fun _ H' => Q .non H', rt := Q } (start N vs) H) : FnG P w K mg base CX0 (k + 1) f fd ps sp := by
  obtain ⟨oc, od, kV, doc, pm, an, cdv, ct, osl, rfl, lk, hcd⟩ := F.ex
  constructor
  · exact len
  intro A hgd outer s H args us vs Q E room env bind rel want
  have inB : ∀ b o, base.get? b = some o → s.heap.get? b = some o := fun b o z => (env.bs b o z).1
  have inK := env.mod.kin.keeps inB
  have kinds : ∀ y ∈ ps.zip us, (defScope st).names.lookup y.1 = some .local ∨ ((defScope st).names.lookup y.1 = some .cell ∧ ((cellsFrom (s.heap.objs.size + 1) (defScope st).names []).lookup y.1).isSome = true) := by
    rintro ⟨n, v⟩ hy
    exact (S.par n (List.of_mem_zip hy).1).imp id fun q => ⟨q, PySem.W.cellsFrom_some _ _ _ (.inl q)⟩
  refine codeAny_call_function room.depth (inK _ _ lk) rfl S.co S.gen rfl (PySem.W.codeRec_of inK hcd) (bind _ _ _ _ (wpAny_newFunctionEnv_cells S.kind kinds ?_))
  rintro _ rfl s1 entry
  refine ⟨(env.mod.nolimit.keeps inB).keeps entry.toInCall.keep, codeAny_func ?_⟩
  obtain ⟨t, body, told⟩ := walk cdv A outer s H vs Q E hgd (room.deeper _) want
  have start0 := inv_start (CX := CX0) (E := E) S room.hd env (len _ _ _ _ want) rel entry
  refine wpAny_mono (body.nox.run [] s1 (start N vs) H _ start0 told) ?_ fun _ _ z => z
  intro fl s' z
  cases fl with
  | ret u =>
    obtain ⟨v, σ', H', J, rv, q⟩ := z
    exact ⟨v, H', J.os, J.bare, J.base, J.hok, rv, q⟩
  | next =>
    obtain ⟨σ', H', J, q⟩ := z
    exact ⟨.non, H', J.os, J.bare, J.base, J.hok, rfl, q⟩
  | brk => exact z.elim fun _ z => z.elim fun _ z => z.2.elim
  | cont => exact z.elim fun _ z => z.elim fun _ z => z.2.elim
end
section
variable {X : Cx} {CX : CXT} {k : Nat} {f : Addr} {fd : FuncData} {ps : List Str} {sp : Sp} {E : XK} {x : Str} {p pos : Pos} {e : Expr} {es : List Expr} {t : TA}
/-- f(e, ..) of such a def -/
theorem pe_callG (F : FnG X.prog X.w X.K X.mg X.base CX k f fd ps sp) (hgd : X.A.guards = some []) (hr : Room k X.A) (hg : Gl X x) (hm : X.mg x = some (.ref f)) (hk : PySem.W.keepIn X.K (.ref f) = true) (hb : Binds X.K fd ps []) (hx : Passes CX X E)
    (ha : PA X (e :: es) t) (hdb : (x == ("__debug__" : Str)) = false := by decide) (he : starEach (e :: es) X.env = (false, eval e X.env) :: starEach es X.env := by rfl) (hpl : (backTo pos (starEach es X.env)).any (·.1) = false := by rfl) :
    PE X (.Call (.Name x p) (e :: es) [] pos) (tCall sp [] E t) := by
  constructor
  intro pins s σ H Q I h
  refine wpAny_Call_Name_kw (ld_glob I hg hm (PySem.W.callWith_K (h₀ := X.base) I.ok.mod.kin hk (thn (ha.run pos pins s σ H _ I h) ?_) he hpl) hdb)
  rintro us s1 ⟨vs, H1, I1, rel, want⟩
  refine ⟨I1.kIn, ?_⟩
  rw [List.append_nil] at want
  have ln : us.length = ps.length := rel.length.symm.trans (F.len _ _ _ _ want)
  have bnd := hb s1 us I1.kIn (by rw [List.append_nil]; exact ln)
  rw [List.append_nil] at bnd
  refine wpAny_call (codeAny_mono (F.run X.A hgd X.stack s1 H1 ⟨us, []⟩ us vs Q E hr I1.env0 bnd rel want) ?_)
  intro r s' z
  rcases r with e | (u | _ | _ | _)
  · exact hx pins σ H1 s1 e s' I1 z
  all_goals first | exact I1.after z | exact False.elim z
end
end L2
namespace L2
open PySem PySem.Spec PyProof.Rows
/-- the end of a law whose def is such a one -/
theorem walk_ofG {l : PySem.W.OpenLaw} {n k : Nat} {q : Program} {loose : List Str} {XP : (Str → Option Value) → Heap → Prop} {YP : World → Heap → Prop} {d : DefRec} {K : Params → PySem.W.Frag} {sp : World → Sp} {x : Str}
    (hn : l.most = some n) (hn2 : n ≤ sizeLine) (hdf : d.params.defaults = []) (hr : Room k callerA) (hY : ∀ (w : World) (h : Heap), YP w h → (K w.params).In h)
    (F : ∀ (w : World) (mg : Str → Option Value) (fa : Addr) (h : Heap), (K w.params).In h → h.Ns mainGlobals mg → mg d.name = some (.ref fa) →
      ∃ fd : FuncData, (∀ (s : Shared) (u : Value), BindsTo s fd ⟨[u], []⟩ [(x, u)]) ∧ ∀ base : Heap, (K w.params).In base → base.Ns mainGlobals mg → FnG l.prog w (K w.params) mg base CX0 k fa fd [x] (sp w))
    (hsp : ∀ (w : World) (H : Hp) (a : Addr) (ns : List Int), ns.length ≤ n → SqL (K w.params) H a (ns.map V.int) → sp w [.ref a] H (fun v _ => v = .bl true) E0) :
    PySem.W.WalkO q loose XP YP l.row.toRowW d [] (fun f vs => PySem.call f vs) := by
  refine Att.attach_call hn hdf fun w s₀ s₁ mg mb fa o pm cd doc a vs ns G Y _ _ _ hmg hobj hints hlen hg => ?_
  have inK := hY w _ Y
  obtain ⟨fd, bind, told⟩ := F w mg fa _ inK G.T.g hmg
  have rel := vals_ints hints
  have long : ns.length ≤ sizeLine := Nat.le_trans hlen hn2
  -- any abstract heap that knows at most the script, as it lies
  have key : ∀ H : Hp, (∀ b u, H b = some u → b = a ∧ (K w.params).lookup a = none ∧ u = .frz { cls := .type "list", data := .seq vs.toArray } (.lst (ns.map V.int))) → SqL (K w.params) H a (ns.map V.int) → HOk l.prog w H s₁.heap →
      codeAny (model l.prog w) callerA (.call (.ref fa) ⟨[.ref a], []⟩) (fun r s' => r = .ok (.ret (.bool true)) ∧ OldK s₁.heap s'.heap ∧ s'.os = s₁.os ∧ AllBare s'.gens) s₁ := by
    intro H only sq ok
    have keepN : ∀ {b : Addr} {m : Str → Option Value}, s₁.heap.Ns b m → (hidT s₁.heap H).Ns b m := by
      rintro b m ⟨ob, es, ep, h1, h2, r⟩
      refine ⟨ob, es, ep, hidT_get h1 ?_, h2, r⟩
      cases hH : H b with
      | none => rfl
      | some u =>
        obtain ⟨rfl, _, _⟩ := only b u hH
        rw [hobj] at h1
        cases h1
        cases h2
    have kIn' : (K w.params).In (hidT s₁.heap H) := fun b ob z => hidT_get (inK b ob z) (by
      cases hH : H b with
      | none => rfl
      | some u =>
        obtain ⟨rfl, hno, _⟩ := only b u hH
        rw [hno] at z
        cases z)
    obtain ⟨mc, c1, c2⟩ := G.T.nolimit
    have env : Env0 l.prog w (K w.params) mg (hidT s₁.heap H) callerA [] s₁ H := by
      refine ⟨rfl, ⟨kIn', keepN G.T.g, ⟨mb, keepN G.T.b, G.T.builtins⟩, ⟨mc, keepN c1, c2⟩⟩, fun b ob z => of_hidT z, Nat.le_of_eq (hidT_size _ _), trivial, fun b hb => ?_, ok, .of_eq hg⟩
      have hb' : b ∈ ([] : List Addr) := hb
      cases hb'
    refine codeAny_mono ((told _ kIn' (keepN G.T.g)).run callerA rfl [] s₁ H ⟨[.ref a], []⟩ [.ref a] [.ref a] _ _ hr env (bind s₁ (.ref a)) (.cons rfl .nil) (hsp w H a ns hlen sq)) ?_
    intro r s' z
    cases r with
    | error e => exact False.elim z
    | ok fl =>
      cases fl with
      | next => exact False.elim z
      | brk => exact False.elim z
      | cont => exact False.elim z
      | ret u =>
        obtain ⟨v, H', os, bare, un, ok', rv, ev⟩ := z
        have ev' : v = .bl true := ev
        subst ev'
        obtain rfl : u = Value.bool true := rv
        refine ⟨rfl, OldK.of_keep fun b ob hb => ?_, os, bare⟩
        cases hH : H b with
        | none =>
          refine un.keep b ob hb hH (fun hm => ?_) (by simp)
          have hm' : b ∈ ([] : List Addr) := hm
          cases hm'
        | some u =>
          obtain ⟨rfl, _, rfl⟩ := only b u hH
          obtain ⟨e1, _⟩ := ok b _ hH
          obtain ⟨e2, _⟩ := ok' b _ (un.frzs b _ _ hH)
          rw [hb] at e1
          cases e1
          exact e2
  by_cases hk : (K w.params).lookup a = none
  · refine key (fun b => if b = a then some (.frz { cls := .type "list", data := .seq vs.toArray } (.lst (ns.map V.int))) else none) (fun b u z => ?_) (.inl (.inr ⟨_, if_pos rfl⟩)) (fun b u z => ?_)
    · try dsimp only at z
      by_cases hb : b = a
      · rw [if_pos hb] at z
        exact ⟨hb, hk, (Option.some.inj z).symm⟩
      · rw [if_neg hb] at z
        cases z
    · try dsimp only at z
      by_cases hb : b = a
      · rw [if_pos hb] at z
        cases z
        subst hb
        exact ⟨hobj, by rw [List.length_map]; exact long, vs, _, rel, hobj⟩
      · rw [if_neg hb] at z
        cases z
  · obtain ⟨ob, hob⟩ := Option.ne_none_iff_exists'.mp hk
    have same := inK a ob hob
    rw [hobj] at same
    cases same
    refine key (fun _ => none) (fun b u z => by cases z) (.inr ⟨_, vs.toArray, _, hob, rfl, rfl, rfl, ?_, by simpa using rel⟩) (fun b u z => by cases z)
    rw [List.size_toArray, hints.length]
    exact long
end L2
set_option Elab.async false
set_option linter.all false
set_option maxRecDepth 100000
set_option maxHeartbeats 2000000
/-! repr of data, where no guard stands -/
namespace L2
open PySem PySem.Spec PyProof.Rows
def rReprD (K : PySem.W.Frag) : List V → Hp → VK → Prop := fun xs H Q => ∃ x d, xs = [x] ∧ Dp K H x d ∧ d.showable = true ∧ d.hasDict = false ∧ d.depth ≤ 60 ∧ d.shown.length ≤ sizeLine ∧ Q (.str d.shown) H
theorem call_reprD {X : Cx} (hgd : X.A.guards = some []) (hu : X.A.units + 64 < cLine) : CallR X (.builtin "repr") (rReprD X.K) := by
  intro pins s σ H xs us Q I r h
  obtain ⟨x, d, rfl, hd, hs, hnd, hdp, hz, q⟩ := h
  obtain ⟨u, rfl, rx⟩ := vals1 r
  obtain ⟨as, rd⟩ := Dp.reads I d x u hd rx
  cases hd with
  | non =>
    obtain rfl : u = Value.none := rx
    exact PySem.P.repr_of_none ⟨.str "None", H, I.tok _, ⟨_, rfl⟩, q⟩
  | bl b =>
    obtain rfl : u = Value.bool b := rx
    exact PySem.P.repr_of_bool ⟨.str _, H, I.tok _, ⟨_, rfl⟩, q⟩
  | int i =>
    obtain ⟨t, rfl⟩ := rx
    exact PySem.P.repr_of_int (by simpa [PyData.showable] using hs) ⟨.str (toString i), H, I.tok _, ⟨_, rfl⟩, q⟩
  | str y =>
    obtain ⟨t, rfl⟩ := rx
    exact PySem.P.repr_of_str ⟨.str (reprText y), H, I.tok _, ⟨_, rfl⟩, q⟩ hz
  | @lst a ys ds h1 h2 =>
    obtain rfl : u = Value.ref a := rx
    exact repr_of_reads' rd hs (fun z => by rw [hnd] at z; cases z) hgd (by omega) (fun _ _ z => z) (fun h' v tk k => ⟨.str _, H, I.kept k, ⟨_, rfl⟩, q⟩) hz
  | @tup a ys ds h1 h2 =>
    obtain rfl : u = Value.ref a := rx
    exact repr_of_reads' rd hs (fun z => by rw [hnd] at z; cases z) hgd (by omega) (fun _ _ z => z) (fun h' v tk k => ⟨.str _, H, I.kept k, ⟨_, rfl⟩, q⟩) hz
end L2
namespace L2
open PySem PySem.Spec PyProof.Rows
/-- what an own error class says, so that isinstance asks its instances rightly -/
structure XIsC (K : PySem.W.Frag) (D : Addr) : Prop where
  hg : PySem.W.findIn K (.ref D) "__getattribute__" = some (some (.builtin "BaseException.__getattribute__"))
  hk : PySem.W.findIn K (.ref D) "__getattr__" = some none
  hs : PySem.W.subIn K (.ref D) (.type "BaseException") = some true
  hd : PySem.W.hasDictIn K D = true
  ha : PySem.W.findIn K (.ref D) "__class__" = some (some (.builtin "object.__class__"))
  hn : PySem.W.specialIn K (.builtin "object.__class__") "__get__" = some (some (.builtin "getset_descriptor.__get__"))
  ht : PySem.W.takesIn K (.builtin "object.__class__") = some true
  hm : PySem.W.mroIn K D (.type "object") = some true
end L2
namespace L2
open PySem PySem.Spec PyProof.Rows
/-- isinstance(e, c), e the error that the suite holds (at a; its class cls, its dict d) -/
def rIsX (K : PySem.W.Frag) (a : Addr) (cls : Value) (d : Option Addr) : List V → Hp → VK → Prop := fun xs H Q => ∃ (D dd : Addr) (fs : List (Str × V)) (c : V) (cv : Value) (b : Bool), xs = [.ref a, c] ∧ cls = .ref D ∧ d = some dd ∧ H dd = some (.xd fs) ∧ ClsV c cv ∧ XIsC K D ∧
  PySem.W.kitOne K (.ref D) cv = some b ∧ Q (.bl b) H
theorem call_isX {X : Cx} {a : Addr} {oe : Obj} {cls : Value} {d : Option Addr} {pn : List (Addr × Obj)} (hz : Zc cls d oe) (hf : ∃ vs, oe.data = .fields vs) : CallR (X.suite a ((a, oe) :: pn)) (.builtin "isinstance") (rIsX X.K a cls d) := by
  intro pins s σ H xs us Q I r h
  obtain ⟨D, dd, fs, c, cv, b, rfl, rfl, rfl, hdd, hcv, T, e, q⟩ := h
  obtain ⟨u1, u2, rfl, r1, r2⟩ := vals2 r
  obtain rfl : u1 = Value.ref a := r1
  obtain rfl := hcv.eq r2
  obtain ⟨ha, _⟩ := I.pin (a, oe) (List.mem_append_left _ List.mem_cons_self)
  obtain ⟨vs, hd⟩ := hf
  obtain ⟨mA, hns, _⟩ := (show ObjOk X.prog X.w H s.heap dd (.xd fs) from I.hok dd _ hdd)
  obtain ⟨od, ho, _⟩ := lookIn_ns hns
  have J : PySem.W.InstAt s.heap a oe D (some od) := ⟨ha, hz.1, by unfold PySem.W.notCls; rw [hd] <;> rfl, by rw [hz.2]; exact ho⟩
  have hcl : (PySem.W.clsIn X.K D).isSome = true := by
    obtain ⟨cd, hc, _⟩ := PySem.W.any_some T.hd
    rw [hc]
    rfl
  exact PySem.W.kia_one (PySem.W.kitx_exc hcl T.hg T.hk T.hs T.ha T.hn T.ht T.hm) I.kIn J e (fun z => nomatch z) fun tk => ⟨.bl b, H, I.kept (t' := tk) fun _ _ z => z, rfl, q⟩
end L2
set_option Elab.async false
set_option linter.all false
set_option maxRecDepth 100000
set_option maxHeartbeats 2000000
/-! promises joined; a def called within an except suite with the error -/
namespace L2
open PySem PySem.Spec PyProof.Rows
section
variable {P : Program} {w : World} {K : PySem.W.Frag} {mg : Str → Option Value} {base : Heap} {k j : Nat} {f : Addr} {fd : FuncData} {ps : List Str} {sp sp' : Sp}
theorem FnOk.or {CX : CXT} (a : FnOk P w K mg base CX k f fd ps sp) (b : FnOk P w K mg base CX k f fd ps sp') : FnOk P w K mg base CX k f fd ps (fun vs H Q E => sp vs H Q E ∨ sp' vs H Q E) :=
  ⟨fun vs H Q E h => h.elim (a.len vs H Q E) (b.len vs H Q E), fun A outer s H args us vs Q E hr e0 hb r h => h.elim (a.run A outer s H args us vs Q E hr e0 hb r) (b.run A outer s H args us vs Q E hr e0 hb r)⟩
theorem FnOk.up {CX : CXT} (a : FnOk P w K mg base CX0 k f fd ps sp) : FnOk P w K mg base CX k f fd ps sp :=
  ⟨a.len, fun A outer s H args us vs Q E hr e0 hb r h => codeAny_mono (a.run A outer s H args us vs Q E hr e0 hb r h) fun r s' z => by
    cases r with
    | error e => exact False.elim z
    | ok fl => cases fl <;> exact z⟩
theorem FnOk.lift {CX : CXT} (a : FnOk P w K mg base CX k f fd ps sp) (h : k ≤ j) : FnOk P w K mg base CX j f fd ps sp :=
  ⟨a.len, fun A outer s H args us vs Q E hr e0 hb r => a.run A outer s H args us vs Q E (hr.mono h) e0 hb r⟩
end
/-- what a def promises that is called within an except suite, the error (at p) among its arguments, where nothing is being shown -/
structure FnE (P : Program) (w : World) (K : PySem.W.Frag) (mg : Str → Option Value) (base : Heap) (k : Nat) (f : Addr) (fd : FuncData) (ps : List Str) (sp : Addr × Obj → Sp) : Prop where
  len : ∀ p vs H Q E, sp p vs H Q E → vs.length = ps.length
  run : ∀ (A : Around), A.guards = some [] → ∀ (outer : List Env) (s : Shared) (H : Hp) (args : Args) (us : List Value) (vs : List V) (Q : VK) (E : XK) (p : Addr × Obj), L2H.RoomH k A → L2H.PinOk outer H s p → Env0 P w K mg base A outer s H → BindsTo s fd args (ps.zip us) → Vals vs us → sp p vs H Q E →
    codeAny (model P w) A (.call (.ref f) args) (CR CX0 outer P w H s Q E) s
section
variable {P : Program} {w : World} {K : PySem.W.Frag} {mg : Str → Option Value} {base : Heap}
theorem Fun.okE {x qual : Str} {st : Stmt} {f : Addr} {fd : FuncData} {N ps : List Str} {k : Nat} {sp : Addr × Obj → Sp} (F : Fun K x qual st f fd) (S : FnScope N ps (defScope st)) (len : ∀ p vs H Q E, sp p vs H Q E → vs.length = ps.length)
    (walk : ∀ (cdv : Value) (A : Around) (outer : List Env) (s : Shared) (H : Hp) (vs : List V) (Q : VK) (E : XK) (p : Addr × Obj), A.guards = some [] → L2H.RoomH k (A.deeper (envOfC qual (defScope st) s.heap.objs.size f cdv)) → sp p vs H Q E →
      ∃ t, PSs (L2H.cxH CX0 P w K mg base N qual (defScope st) f cdv A outer s H E p).nox (defBody st) t ∧ t { nx := fun _ H' => Q .non H', rt := Q } (start N vs) H) : FnE P w K mg base (k + 1) f fd ps sp := by
  obtain ⟨oc, od, kV, doc, pm, an, cdv, ct, osl, rfl, lk, hcd⟩ := F.ex
  refine ⟨len, fun A hgd outer s H args us vs Q E p room hpin env bind rel want => ?_⟩
  have inB : ∀ b o, base.get? b = some o → s.heap.get? b = some o := fun b o z => (env.bs b o z).1
  have inK := env.mod.kin.keeps inB
  have kinds : ∀ y ∈ ps.zip us, (defScope st).names.lookup y.1 = some .local ∨ ((defScope st).names.lookup y.1 = some .cell ∧ ((cellsFrom (s.heap.objs.size + 1) (defScope st).names []).lookup y.1).isSome = true) := by
    rintro ⟨n, v⟩ hy
    exact (S.par n (List.of_mem_zip hy).1).imp id fun q => ⟨q, PySem.W.cellsFrom_some _ _ _ (.inl q)⟩
  refine codeAny_call_function room.depth (inK _ _ lk) rfl S.co S.gen rfl (PySem.W.codeRec_of inK hcd) (bind _ _ _ _ (wpAny_newFunctionEnv_cells S.kind kinds ?_))
  rintro _ rfl s1 entry
  refine ⟨(env.mod.nolimit.keeps inB).keeps entry.toInCall.keep, codeAny_func ?_⟩
  obtain ⟨t, body, told⟩ := walk cdv A outer s H vs Q E p hgd (room.deeper _) want
  have start0 : Inv (L2H.cxH CX0 P w K mg base N qual (defScope st) f cdv A outer s H E p) [] (L2.start N vs) H s1 := L2H.inv_startH S hpin env (len _ _ _ _ _ want) rel entry
  refine wpAny_mono (body.nox.run [] s1 (start N vs) H _ start0 told) ?_ fun _ _ z => z
  intro fl s' z
  cases fl with
  | ret u =>
    obtain ⟨v, σ', H', J, rv, q⟩ := z
    exact ⟨v, H', J.os, J.bare, J.base, J.hok, rv, q⟩
  | next =>
    obtain ⟨σ', H', J, q⟩ := z
    exact ⟨.non, H', J.os, J.bare, J.base, J.hok, rfl, q⟩
  | brk => exact z.elim fun _ z => z.elim fun _ z => z.2.elim
  | cont => exact z.elim fun _ z => z.elim fun _ z => z.2.elim
end
section
variable {X : Cx} {k : Nat} {f : Addr} {fd : FuncData} {ps : List Str} {sp : Addr × Obj → Sp} {x : Str} {q pos : Pos} {e : Expr} {es : List Expr} {t : TA} {p : Addr × Obj}
theorem pe_callE {sp' : Sp} (hsp : ∀ vs H Q, sp' vs H Q E0 → sp p vs H Q E0) (F : FnE X.prog X.w X.K X.mg X.base k f fd ps sp) (hgd : X.A.guards = some []) (hr : L2H.RoomH k X.A) (hp : p ∈ X.pn) (hg : Gl X x) (hm : X.mg x = some (.ref f)) (hk : PySem.W.keepIn X.K (.ref f) = true) (hb : Binds X.K fd ps [])
    (ha : PA X (e :: es) t) (hdb : (x == ("__debug__" : Str)) = false := by decide) (he : starEach (e :: es) X.env = (false, eval e X.env) :: starEach es X.env := by rfl) (hpl : (backTo pos (starEach es X.env)).any (·.1) = false := by rfl) :
    PE X (.Call (.Name x q) (e :: es) [] pos) (tCall sp' [] E0 t) := by
  constructor
  intro pins s σ H Q I h
  refine wpAny_Call_Name_kw (ld_glob I hg hm (PySem.W.callWith_K (h₀ := X.base) I.ok.mod.kin hk (thn (ha.run pos pins s σ H _ I h) ?_) he hpl) hdb)
  rintro us s1 ⟨vs, H1, I1, rel, want⟩
  refine ⟨I1.kIn, ?_⟩
  rw [List.append_nil] at want
  replace want := hsp _ _ _ want
  have ln : us.length = ps.length := rel.length.symm.trans (F.len _ _ _ _ _ want)
  have bnd := hb s1 us I1.kIn (by rw [List.append_nil]; exact ln)
  rw [List.append_nil] at bnd
  have P1 := I1.pin p (List.mem_append_left _ hp)
  have hpin : L2H.PinOk X.stack H1 s1 p := ⟨P1.1, P1.2.1, fun hm => (List.mem_cons.mp (I1.stkSub p.1 hm)).elim P1.2.2.1 P1.2.2.2.1, P1.2.2.2.2⟩
  refine wpAny_call (codeAny_mono (F.run X.A hgd X.stack s1 H1 ⟨us, []⟩ us vs Q E0 p hr hpin I1.env0 bnd rel want) ?_)
  intro r s' z
  rcases r with e | (u | _ | _ | _)
  all_goals first | exact I1.after z | exact False.elim z
end
/-- isinstance(e, c), e an error that is pinned -/
theorem call_isP {X : Cx} {a : Addr} {oe : Obj} {cls : Value} {d : Option Addr} (hp : (a, oe) ∈ X.pn) (hz : Zc cls d oe) (hf : ∃ vs, oe.data = .fields vs) : CallR X (.builtin "isinstance") (rIsX X.K a cls d) := by
  intro pins s σ H xs us Q I r h
  obtain ⟨D, dd, fs, c, cv, b, rfl, rfl, rfl, hdd, hcv, T, e, q⟩ := h
  obtain ⟨u1, u2, rfl, r1, r2⟩ := vals2 r
  obtain rfl : u1 = Value.ref a := r1
  obtain rfl := hcv.eq r2
  obtain ⟨ha, _⟩ := I.pin (a, oe) (List.mem_append_left _ hp)
  obtain ⟨vs, hd⟩ := hf
  obtain ⟨mA, hns, _⟩ := (show ObjOk X.prog X.w H s.heap dd (.xd fs) from I.hok dd _ hdd)
  obtain ⟨od, ho, _⟩ := lookIn_ns hns
  have J : PySem.W.InstAt s.heap a oe D (some od) := ⟨ha, hz.1, by unfold PySem.W.notCls; rw [hd] <;> rfl, by rw [hz.2]; exact ho⟩
  have hcl : (PySem.W.clsIn X.K D).isSome = true := by
    obtain ⟨cd, hc, _⟩ := PySem.W.any_some T.hd
    rw [hc]
    rfl
  exact PySem.W.kia_one (PySem.W.kitx_exc hcl T.hg T.hk T.hs T.ha T.hn T.ht T.hm) I.kIn J e (fun z => nomatch z) fun tk => ⟨.bl b, H, I.kept (t' := tk) fun _ _ z => z, rfl, q⟩
/-- e.thing of such a one -/
def tByP (P : Program) (K : PySem.W.Frag) (mg : Str → Option Value) (a : Addr) (cls : Value) (d : Option Addr) (te : TE) : TE := fun σ H Q => te σ H fun x H1 => x = .ref a ∧ ∃ C fI : Addr, FoX_thing.XTxt P K mg C fI ∧ cls = .ref C ∧ ∃ (dd : Addr) (v : V), d = some dd ∧ H1 dd = some (.xd [((Str.ofString "thing"), v)]) ∧ Q v H1
theorem pe_byP {X : Cx} {a : Addr} {oe : Obj} {cls : Value} {d : Option Addr} {e : Expr} {te : TE} {pos : Pos} (hp : (a, oe) ∈ X.pn) (hz : Zc cls d oe) (hf : ∃ vs, oe.data = .fields vs) (he : PE X e te)
    (hb : attributeBase e (Str.ofString "thing") X.env (eval e X.env) = eval e X.env := by rfl) :
    PE X (.Attribute e (Str.ofString "thing") pos) (tByP X.prog X.K X.mg a cls d te) := by
  refine ⟨fun pins s σ H Q I h => ?_⟩
  refine attr_of hb (thn (he.run pins s σ H _ I h) fun u s1 hh => ?_)
  obtain ⟨x, H1, I1, rx, ex, C, fI, T, ec, dd, v, ed, ea, q⟩ := hh
  subst ex
  obtain rfl : u = Value.ref a := rx
  subst ec
  subst ed
  obtain ⟨ha, _⟩ := I1.pin (a, oe) (List.mem_append_left _ hp)
  obtain ⟨vs, hd⟩ := hf
  have hx : ObjOk X.prog X.w H1 s1.heap dd (.xd [((Str.ofString "thing"), v)]) := I1.hok dd _ ea
  obtain ⟨mA, hns, hr⟩ := hx
  obtain ⟨od, ho, hl⟩ := lookIn_ns hns
  have l : List.lookup (Str.ofString "thing") [((Str.ofString "thing"), v)] = some v := by simp [List.lookup]
  obtain ⟨u, hu, ru⟩ := RelO.some_of (v := v) (o := mA (Str.ofString "thing")) (by rw [← l]; exact hr (Str.ofString "thing"))
  have J : PySem.W.InstAt s1.heap a oe C (some od) := ⟨ha, hz.1, by unfold PySem.W.notCls; rw [hd] <;> rfl, by rw [hz.2]; exact ho⟩
  exact HandSPX.exc_get I1.kIn J T.ga T.gg T.exC (PySem.W.findObj_own T.hdC T.noN rfl (by rw [hl, hu])) (handed_of ru) ⟨v, H1, I1.tok _, ru, q⟩
end L2
set_option Elab.async false
set_option linter.all false
set_option maxRecDepth 100000
set_option maxHeartbeats 2000000
namespace L2
open PySem PySem.Spec PyProof.Rows
/-- l.count(x) of data -/
def rCountD (K : PySem.W.Frag) : V → List V → Hp → VK → Prop := fun x xs H Q => ∃ (a : Addr) (y : V) (d : PyData) (ds : List PyData), x = V.ref a ∧ xs = [y] ∧ Dp K H (V.ref a) (.list ds) ∧ Dp K H y d ∧
  SeqAt.shaped (.list ds) = true ∧ SeqAt.shaped d = true ∧ Q (.int ((ds.countP fun z => PyData.eqv z d : Nat) : Int)) H
theorem mt_countD {X : Cx} (hu : X.A.units + 65 < cLine) : MtR X "list.count" (rCountD X.K) := by
  intro pins s σ H x xs v us Q I rx rxs h
  obtain ⟨a, y, d, ds, rfl, rfl, hl, hy, sl, sd, q⟩ := h
  cases rx
  cases rxs with
  | cons ry rt =>
    rename_i uy ut
    cases rt
    obtain ⟨bs, r1⟩ := Dp.reads I d y uy hy ry
    have hxs : PyData.canLayAll0 ds = true := SeqAt.canLay_of_shaped sl
    have hroom : X.A.units + 1 + min (PyData.depthAll ds) d.depth < cLine := room_in_shaped sd hu
    cases hl with
    | lst hs ha =>
      obtain ⟨its, rv, ⟨⟨cls, dd, data, sls⟩, n, ho, hc, hdn, hdt⟩, hlen⟩ := I.list hs
      simp only at hc hdt
      subst hc hdt
      obtain ⟨as, h4⟩ := Dp.readsAll I ds _ its ha rv
      have hmap : its.map (SeqAt.readOf s.heap) = ds := SeqAt.readsAll_map ds its as hxs h4
      have e : its.toArray.toList.countP (fun u => PyData.eqv (SeqAt.readOf s.heap u) d) = ds.countP fun z => PyData.eqv z d := by
        rw [← hmap, List.countP_map]
        rfl
      refine call_meets PySem.F.slot_list_count ⟨_, ho, rfl⟩ PySem.F.entry_list_count (PySem.F.args_list_count_2 _ _)
        (SeqAt.list_countAt a its.toArray n dd sls uy (fun u => PyData.eqv (SeqAt.readOf s.heap u) d)) ⟨ho, SeqAt.items_eqAt (vs := its.toArray) (show ReadsAll s.heap its.toArray.toList ds as from h4) r1 hxs (SeqAt.canLay_of_shaped sd) hroom, ?_⟩
      rw [e]
      exact ⟨.int _, H, I.tok _, ⟨_, rfl⟩, q⟩
end L2
set_option linter.all false
/-! ### directions: kinds, the order round, the sort by insertion -/
namespace Fo
def kd (a : Int × Int) : Nat := if 0 < a.1 then (if a.2 = 0 then 0 else if 0 < a.2 then 1 else 7) else if a.1 = 0 then (if 0 < a.2 then 2 else 6) else (if 0 < a.2 then 3 else if a.2 = 0 then 4 else 5)
def crs (a b : Int × Int) : Int := a.1 * b.2 - a.2 * b.1
def dot (a b : Int × Int) : Int := a.1 * b.1 + a.2 * b.2
def bef (a b : Int × Int) : Bool := if kd a = kd b then decide (0 < crs a b) else decide (kd a < kd b)
def Dir (a : Int × Int) : Prop := a.1 ≠ 0 ∨ a.2 ≠ 0
def qtr (a : Int × Int) : Int × Int := (-a.2, a.1)
theorem crs_swap (a b : Int × Int) : crs b a = -crs a b := by
  unfold crs
  grind
theorem bef_asym {a b : Int × Int} (h : bef a b = true) : bef b a = false := by
  unfold bef at *
  by_cases e : kd a = kd b
  · rw [if_pos e] at h
    rw [if_pos e.symm]
    have h := of_decide_eq_true h
    have := crs_swap a b
    exact decide_eq_false (by omega)
  · rw [if_neg e] at h
    rw [if_neg (fun z => e z.symm)]
    have h := of_decide_eq_true h
    exact decide_eq_false (by omega)
theorem bef_irrefl (a : Int × Int) : bef a a = false := by
  unfold bef
  rw [if_pos rfl]
  have := crs_swap a a
  exact decide_eq_false (by omega)
/-- the signs of one kind -/
theorem kd_pos {a b : Int × Int} (h : kd a = kd b) : (0 < a.1 ↔ 0 < b.1) ∧ (0 < a.2 ↔ 0 < b.2) ∨ (¬ Dir a ∨ ¬ Dir b) := by
  unfold kd at h
  unfold Dir
  repeat' (split at h)
  all_goals first | (left; omega) | (right; omega) | omega
theorem kd_sign {a b : Int × Int} (ha : Dir a) (hb : Dir b) (h : kd a = kd b) : (0 < a.1 ↔ 0 < b.1) ∧ (a.1 = 0 ↔ b.1 = 0) ∧ (0 < a.2 ↔ 0 < b.2) ∧ (a.2 = 0 ↔ b.2 = 0) := by
  unfold kd at h
  unfold Dir at *
  repeat' (split at h)
  all_goals omega
theorem crs_trans {a b c : Int × Int} (ha : Dir a) (hb : Dir b) (hc : Dir c) (h1 : kd a = kd b) (h2 : kd b = kd c) (h : 0 < crs a c) : 0 < crs a b ∨ 0 < crs b c := by
  obtain ⟨p1, z1, p2, z2⟩ := kd_sign ha hb h1
  obtain ⟨r1, y1, r2, y2⟩ := kd_sign hb hc h2
  by_cases n1 : 0 < crs a b
  · exact .inl n1
  by_cases n2 : 0 < crs b c
  · exact .inr n2
  exfalso
  have id1 : crs a c * b.1 = crs a b * c.1 + crs b c * a.1 := by
    unfold crs
    grind
  have id2 : crs a c * b.2 = crs a b * c.2 + crs b c * a.2 := by
    unfold crs
    grind
  have np : ∀ u v : Int, ¬ 0 < u → 0 < v → u * v ≤ 0 := fun u v hu hv => Int.mul_nonpos_of_nonpos_of_nonneg (by omega) (by omega)
  have nn : ∀ u v : Int, ¬ 0 < u → v < 0 → 0 ≤ u * v := fun u v hu hv => Int.mul_nonneg_of_nonpos_of_nonpos (by omega) (by omega)
  rcases Int.lt_trichotomy b.1 0 with hb1 | hb1 | hb1
  · have q1 := nn _ c.1 n1 (by omega)
    have q2 := nn _ a.1 n2 (by omega)
    have q3 : crs a c * b.1 < 0 := Int.mul_neg_of_pos_of_neg h hb1
    omega
  · -- on the axis all crosses are 0
    have a0 : a.1 = 0 := z1.mpr hb1
    have c0 : c.1 = 0 := y1.mp hb1
    have : crs a c = 0 := by
      unfold crs
      rw [a0, c0]
      omega
    omega
  · have q1 := np _ c.1 n1 (by omega)
    have q2 := np _ a.1 n2 (by omega)
    have q3 : 0 < crs a c * b.1 := Int.mul_pos h hb1
    omega
theorem bef_nt {a b c : Int × Int} (ha : Dir a) (hb : Dir b) (hc : Dir c) (h : bef a c = true) : bef a b = true ∨ bef b c = true := by
  unfold bef at *
  by_cases e1 : kd a = kd b
  · by_cases e2 : kd b = kd c
    · rw [if_pos (e1.trans e2)] at h
      rw [if_pos e1, if_pos e2]
      rcases crs_trans ha hb hc e1 e2 (of_decide_eq_true h) with r | r
      · exact .inl (decide_eq_true r)
      · exact .inr (decide_eq_true r)
    · rw [if_neg (by omega)] at h
      rw [if_neg e2]
      have h := of_decide_eq_true h
      exact .inr (decide_eq_true (by omega))
  · by_cases e2 : kd b = kd c
    · rw [if_neg (by omega)] at h
      rw [if_neg e1]
      have h := of_decide_eq_true h
      exact .inl (decide_eq_true (by omega))
    · rw [if_neg e1, if_neg e2]
      by_cases e3 : kd a = kd c
      · have : kd a < kd b ∨ kd b < kd c := by omega
        rcases this with r | r
        · exact .inl (decide_eq_true r)
        · exact .inr (decide_eq_true r)
      · rw [if_neg e3] at h
        have h := of_decide_eq_true h
        have : kd a < kd b ∨ kd b < kd c := by omega
        rcases this with r | r
        · exact .inl (decide_eq_true r)
        · exact .inr (decide_eq_true r)
/-- two that are met at once are alike -/
theorem bef_alike {a b : Int × Int} (ha : Dir a) (hb : Dir b) (h1 : bef a b = false) (h2 : bef b a = false) : crs a b = 0 ∧ 0 < dot a b := by
  unfold bef at *
  by_cases e : kd a = kd b
  · rw [if_pos e] at h1
    rw [if_pos e.symm] at h2
    have h1 := of_decide_eq_false h1
    have h2 := of_decide_eq_false h2
    have := crs_swap a b
    refine ⟨by omega, ?_⟩
    obtain ⟨p1, z1, p2, z2⟩ := kd_sign ha hb e
    unfold dot
    have key : ∀ u v : Int, (0 < u ↔ 0 < v) → (u = 0 ↔ v = 0) → 0 ≤ u * v ∧ (u ≠ 0 → 0 < u * v) := by
      intro u v p z
      rcases Int.lt_trichotomy u 0 with hu | hu | hu
      · have hv : v < 0 := by omega
        have := Int.mul_pos_of_neg_of_neg hu hv
        exact ⟨by omega, fun _ => this⟩
      · rw [hu]
        simp
      · have hv : 0 < v := p.mp hu
        have := Int.mul_pos hu hv
        exact ⟨by omega, fun _ => this⟩
    have k1 := key a.1 b.1 p1 z1
    have k2 := key a.2 b.2 p2 z2
    rcases ha with ha | ha
    · have := k1.2 ha
      omega
    · have := k2.2 ha
      omega
  · rw [if_neg e] at h1
    rw [if_neg (fun z => e z.symm)] at h2
    have h1 := of_decide_eq_false h1
    have h2 := of_decide_eq_false h2
    omega
/-! ### the sort -/
section
variable {α : Type} (f : α → Int × Int)
def insB (e : α) (l : List α) : List α := l.takeWhile (fun x => !bef (f e) (f x)) ++ e :: l.dropWhile (fun x => !bef (f e) (f x))
def sortB (l : List α) : List α := l.foldl (fun acc e => insB f e acc) []
def Srt (l : List α) : Prop := l.Pairwise fun a b => bef (f b) (f a) = false
def Dirs (l : List α) : Prop := ∀ a ∈ l, Dir (f a)
variable {f}
theorem insB_perm (e : α) (l : List α) : (insB f e l).Perm (e :: l) := by
  unfold insB
  have h : (l.takeWhile (fun x => !bef (f e) (f x)) ++ l.dropWhile (fun x => !bef (f e) (f x))) = l := List.takeWhile_append_dropWhile
  refine List.perm_middle.trans ?_
  rw [h]
theorem foldl_ins_perm (l : List α) : ∀ acc : List α, (l.foldl (fun acc e => insB f e acc) acc).Perm (acc ++ l) := by
  induction l with
  | nil =>
    intro acc
    rw [List.append_nil]
    exact List.Perm.refl _
  | cons e l ih =>
    intro acc
    refine (ih (insB f e acc)).trans ?_
    have h := (insB_perm (f := f) e acc).append_right l
    refine h.trans ?_
    exact List.perm_middle.symm
theorem sortB_perm (l : List α) : (sortB f l).Perm l := foldl_ins_perm l []
theorem mem_takeWhile_p {p : α → Bool} {l : List α} {x : α} (h : x ∈ l.takeWhile p) : p x = true := by
  induction l with
  | nil => simp at h
  | cons a l ih =>
    rw [List.takeWhile_cons] at h
    by_cases c : p a = true
    · rw [if_pos c] at h
      rcases List.mem_cons.mp h with h | h
      · rw [h]
        exact c
      · exact ih h
    · rw [if_neg c] at h
      simp at h
/-- all from the first that e comes before on -/
theorem drop_bef {e : α} {l : List α} (hs : Srt f l) (hd : Dirs f l) (he : Dir (f e)) : ∀ x ∈ l.dropWhile (fun x => !bef (f e) (f x)), bef (f e) (f x) = true := by
  induction l with
  | nil =>
    intro x hx
    simp at hx
  | cons a l ih =>
    intro x hx
    have hs' := List.pairwise_cons.mp hs
    rw [List.dropWhile_cons] at hx
    by_cases c : (!bef (f e) (f a)) = true
    · rw [if_pos c] at hx
      exact ih hs'.2 (fun b hb => hd b (List.mem_cons_of_mem _ hb)) x hx
    · rw [if_neg c] at hx
      have c' : bef (f e) (f a) = true := by
        cases h : bef (f e) (f a) with
        | true => rfl
        | false => rw [h] at c; exact absurd rfl c
      rcases List.mem_cons.mp hx with hx | hx
      · rw [hx]
        exact c'
      · rcases bef_nt (b := f x) he (hd x (List.mem_cons_of_mem _ hx)) (hd a List.mem_cons_self) c' with r | r
        · exact r
        · rw [hs'.1 x hx] at r
          cases r
theorem insB_srt {e : α} {l : List α} (hs : Srt f l) (hd : Dirs f l) (he : Dir (f e)) : Srt f (insB f e l) := by
  have hdrop := drop_bef hs hd he
  have hl : (l.takeWhile (fun x => !bef (f e) (f x)) ++ l.dropWhile (fun x => !bef (f e) (f x))) = l := List.takeWhile_append_dropWhile
  have hs2 : Srt f (l.takeWhile (fun x => !bef (f e) (f x)) ++ l.dropWhile (fun x => !bef (f e) (f x))) := by
    rw [hl]
    exact hs
  have h3 := List.pairwise_append.mp hs2
  unfold insB Srt
  refine List.pairwise_append.mpr ⟨h3.1, List.pairwise_cons.mpr ⟨fun x hx => bef_asym (hdrop x hx), h3.2.1⟩, fun x hx y hy => ?_⟩
  rcases List.mem_cons.mp hy with hy | hy
  · rw [hy]
    have := mem_takeWhile_p hx
    simpa using this
  · exact h3.2.2 x hx y hy
theorem insB_dirs {e : α} {l : List α} (hd : Dirs f l) (he : Dir (f e)) : Dirs f (insB f e l) := fun a ha => by
  rcases List.mem_cons.mp ((insB_perm e l).mem_iff.mp ha) with h | h
  · rw [h]
    exact he
  · exact hd a h
theorem foldl_srt (l : List α) : ∀ acc : List α, Srt f acc → Dirs f acc → Dirs f l → Srt f (l.foldl (fun acc e => insB f e acc) acc) := by
  induction l with
  | nil =>
    intro acc h _ _
    exact h
  | cons e l ih =>
    intro acc h1 h2 h3
    have he := h3 e List.mem_cons_self
    exact ih _ (insB_srt h1 h2 he) (insB_dirs h2 he) fun a ha => h3 a (List.mem_cons_of_mem _ ha)
theorem sortB_srt {l : List α} (hd : Dirs f l) : Srt f (sortB f l) := foldl_srt l [] List.Pairwise.nil (fun a ha => by simp at ha) hd
theorem sortB_dirs {l : List α} (hd : Dirs f l) : Dirs f (sortB f l) := fun a ha => hd a ((sortB_perm l).mem_iff.mp ha)
theorem sortB_length (l : List α) : (sortB f l).length = l.length := (sortB_perm l).length_eq
theorem takeWhile_all {p : α → Bool} {l : List α} (h : ∀ x ∈ l, p x = true) : l.takeWhile p = l ∧ l.dropWhile p = [] := by
  induction l with
  | nil => exact ⟨rfl, rfl⟩
  | cons a l ih =>
    have h1 := h a List.mem_cons_self
    have h2 := ih fun x hx => h x (List.mem_cons_of_mem _ hx)
    rw [List.takeWhile_cons, if_pos h1, List.dropWhile_cons, if_pos h1, h2.1, h2.2]
    exact ⟨rfl, rfl⟩
theorem insB_end {e : α} {l : List α} (h : ∀ x ∈ l, bef (f e) (f x) = false) : insB f e l = l ++ [e] := by
  unfold insB
  have := takeWhile_all (p := fun x => !bef (f e) (f x)) (l := l) fun x hx => by
    show (!bef (f e) (f x)) = true
    rw [h x hx]
    rfl
  rw [this.1, this.2]
theorem insB_front {e : α} {l : List α} (h : ∀ x ∈ l, bef (f e) (f x) = true) : insB f e l = e :: l := by
  unfold insB
  cases l with
  | nil => rfl
  | cons a l =>
    have ha := h a List.mem_cons_self
    rw [List.takeWhile_cons, List.dropWhile_cons, ha]
    rfl
theorem foldl_fix (l : List α) : ∀ acc : List α, Srt f (acc ++ l) → l.foldl (fun acc e => insB f e acc) acc = acc ++ l := by
  induction l with
  | nil =>
    intro acc _
    rw [List.append_nil]
    rfl
  | cons e l ih =>
    intro acc h
    have h3 := List.pairwise_append.mp h
    show l.foldl (fun acc e => insB f e acc) (insB f e acc) = acc ++ e :: l
    rw [insB_end (fun x hx => h3.2.2 x hx e List.mem_cons_self)]
    have e2 : acc ++ e :: l = (acc ++ [e]) ++ l := by simp
    rw [e2] at h ⊢
    exact ih _ h
theorem sortB_fix {l : List α} (h : Srt f l) : sortB f l = l := foldl_fix l [] h
/-- strictly in order -/
def Str' (f : α → Int × Int) (l : List α) : Prop := l.Pairwise fun a b => bef (f a) (f b) = true
theorem sortB_rev {l : List α} (h : Str' f l) : sortB f l.reverse = l := by
  induction l with
  | nil => rfl
  | cons a l ih =>
    have h3 := List.pairwise_cons.mp h
    unfold sortB
    rw [List.reverse_cons, List.foldl_append]
    show insB f a (sortB f l.reverse) = a :: l
    rw [ih h3.2]
    exact insB_front h3.1
theorem srt_of_str {l : List α} (h : Str' f l) : Srt f l := List.Pairwise.imp (fun h => bef_asym h) h
theorem str_unique : ∀ {l m : List α}, Str' f l → Str' f m → l.Perm m → l = m
  | [], m, _, _, p => by
    have := p.length_eq
    cases m with
    | nil => rfl
    | cons b m => simp at this
  | a :: l, [], _, _, p => by
    have := p.length_eq
    simp at this
  | a :: l, b :: m, hl, hm, p => by
    have hl3 := List.pairwise_cons.mp hl
    have hm3 := List.pairwise_cons.mp hm
    have eab : a = b := by
      have h1 : a ∈ b :: m := p.mem_iff.mp List.mem_cons_self
      have h2 : b ∈ a :: l := p.mem_iff.mpr List.mem_cons_self
      rcases List.mem_cons.mp h1 with h1 | h1
      · exact h1
      · rcases List.mem_cons.mp h2 with h2 | h2
        · exact h2.symm
        · have q1 := hm3.1 a h1
          have q2 := hl3.1 b h2
          rw [bef_asym q1] at q2
          cases q2
    subst eab
    rw [str_unique hl3.2 hm3.2 (List.Perm.cons_inv p)]
/-- the place: all ahead of it are not behind e, all from it on are -/
theorem insB_place {e : α} : ∀ {l : List α} {i : Nat}, (∀ j (h : j < l.length), j < i → bef (f e) (f l[j]) = false) → (∀ j (h : j < l.length), i ≤ j → bef (f e) (f l[j]) = true) → l.take i ++ [e] ++ l.drop i = insB f e l
  | [], i, _, _ => by simp [insB]
  | a :: l, 0, _, h2 => by
    have : ∀ x ∈ a :: l, bef (f e) (f x) = true := fun x hx => by
      obtain ⟨j, hj, rfl⟩ := List.getElem_of_mem hx
      exact h2 j hj (Nat.zero_le _)
    rw [insB_front this]
    rfl
  | a :: l, i + 1, h1, h2 => by
    have ha : bef (f e) (f a) = false := h1 0 (Nat.succ_pos _) (Nat.succ_pos _)
    have ih := insB_place (e := e) (l := l) (i := i) (fun j h hj => h1 (j + 1) (Nat.succ_lt_succ h) (Nat.succ_lt_succ hj)) (fun j h hj => h2 (j + 1) (Nat.succ_lt_succ h) (Nat.succ_le_succ hj))
    have e1 : insB f e (a :: l) = a :: insB f e l := by
      unfold insB
      rw [List.takeWhile_cons, List.dropWhile_cons, ha]
      rfl
    rw [e1, ← ih]
    simp
end
end Fo
set_option linter.all false
namespace Fo
theorem kd_lt (a : Int × Int) : kd a < 8 := by
  unfold kd
  repeat' split
  all_goals omega
theorem kd_qtr {a : Int × Int} (h : Dir a) : kd (qtr a) = (kd a + 2) % 8 := by
  obtain ⟨x, y⟩ := a
  unfold Dir at h
  unfold kd qtr
  simp only at *
  repeat' split
  all_goals omega
theorem kd_neg {a : Int × Int} (h : Dir a) : kd (-a.1, -a.2) = (kd a + 4) % 8 := by
  obtain ⟨x, y⟩ := a
  unfold Dir at h
  unfold kd
  simp only at *
  repeat' split
  all_goals omega
theorem mul_sign {x m : Int} (hm : 0 < m) : (0 < x * m ↔ 0 < x) ∧ (x * m = 0 ↔ x = 0) := by
  rcases Int.lt_trichotomy x 0 with h | h | h
  · have := Int.mul_neg_of_neg_of_pos h hm
    omega
  · rw [h]
    simp
  · have := Int.mul_pos h hm
    omega
theorem kd_mul (a : Int × Int) {m : Int} (hm : 0 < m) : kd (a.1 * m, a.2 * m) = kd a := by
  obtain ⟨x, y⟩ := a
  have h1 := mul_sign (x := x) hm
  have h2 := mul_sign (x := y) hm
  unfold kd
  simp only at *
  simp only [h1.1, h2.1, h1.2, h2.2]
theorem crs_qtr (a b : Int × Int) : crs (qtr a) (qtr b) = crs a b := by
  unfold crs qtr
  grind
theorem sq_pos {x : Int} (h : x ≠ 0) : 0 < x * x := by
  rcases Int.lt_trichotomy x 0 with h1 | h1 | h1
  · exact Int.mul_pos_of_neg_of_neg h1 h1
  · exact absurd h1 h
  · exact Int.mul_pos h1 h1
theorem sq_nn (x : Int) : 0 ≤ x * x := by
  by_cases h : x = 0
  · rw [h]
    decide
  · exact Int.le_of_lt (sq_pos h)
theorem crs_self_qtr {a : Int × Int} (h : Dir a) : 0 < crs a (qtr a) := by
  have e : crs a (qtr a) = a.1 * a.1 + a.2 * a.2 := by
    unfold crs qtr
    grind
  rw [e]
  have h1 := sq_nn a.1
  have h2 := sq_nn a.2
  rcases h with h | h
  · have := sq_pos h
    omega
  · have := sq_pos h
    omega
theorem dir_qtr {a : Int × Int} (h : Dir a) : Dir (qtr a) := by
  unfold Dir qtr at *
  simp only
  omega
theorem dir_mul {a : Int × Int} {m : Int} (h : Dir a) (hm : 0 < m) : Dir (a.1 * m, a.2 * m) := by
  have h1 := (mul_sign (x := a.1) hm).2
  have h2 := (mul_sign (x := a.2) hm).2
  unfold Dir at *
  simp only
  omega
/-- turned, both below kind 6 or both from 6 on -/
theorem bef_qtr {a b : Int × Int} (ha : Dir a) (hb : Dir b) (h : kd a < 6 ↔ kd b < 6) : bef (qtr a) (qtr b) = bef a b := by
  have la := kd_lt a
  have lb := kd_lt b
  unfold bef
  rw [kd_qtr ha, kd_qtr hb, crs_qtr]
  by_cases e : kd a = kd b
  · rw [if_pos e, if_pos (by omega)]
  · rw [if_neg e, if_neg (by omega)]
    by_cases c : kd a < kd b
    · rw [decide_eq_true c, decide_eq_true (by omega)]
    · rw [decide_eq_false c, decide_eq_false (by omega)]
theorem bef_turned {a b : Int × Int} (ha : Dir a) (hb : Dir b) (h1 : kd a < 6) (h2 : ¬ kd b < 6) : bef (qtr b) (qtr a) = true := by
  have la := kd_lt a
  have lb := kd_lt b
  unfold bef
  rw [kd_qtr ha, kd_qtr hb, if_neg (by omega)]
  exact decide_eq_true (by omega)
section
variable {α : Type} {f : α → Int × Int}
/-- no two alike -/
def Apart (f : α → Int × Int) (l : List α) : Prop := l.Pairwise fun a b => ¬ (crs (f a) (f b) = 0 ∧ 0 < dot (f a) (f b))
theorem alike_symm {a b : Int × Int} (h : ¬ (crs a b = 0 ∧ 0 < dot a b)) : ¬ (crs b a = 0 ∧ 0 < dot b a) := by
  intro z
  apply h
  have e1 := crs_swap a b
  have e2 : dot b a = dot a b := by
    unfold dot
    grind
  omega
theorem apart_perm {l m : List α} (h : Apart f l) (p : l.Perm m) : Apart f m := (p.pairwise_iff fun h => alike_symm h).mp h
theorem str_of {l : List α} (hs : Srt f l) (hd : Dirs f l) (ha : Apart f l) : Str' f l := by
  induction l with
  | nil => exact List.Pairwise.nil
  | cons a l ih =>
    have s := List.pairwise_cons.mp hs
    have t := List.pairwise_cons.mp ha
    refine List.pairwise_cons.mpr ⟨fun b hb => ?_, ih s.2 (fun x hx => hd x (List.mem_cons_of_mem _ hx)) t.2⟩
    cases h : bef (f a) (f b) with
    | true => rfl
    | false => exact absurd (bef_alike (hd a List.mem_cons_self) (hd b (List.mem_cons_of_mem _ hb)) h (s.1 b hb)) (t.1 b hb)
theorem sortB_str {l : List α} (hd : Dirs f l) (ha : Apart f l) : Str' f (sortB f l) := str_of (sortB_srt hd) (sortB_dirs hd) (apart_perm ha (sortB_perm l).symm)
end
/-- below kind 6 stands first -/
theorem split6 : ∀ {l : List (Int × Int)}, Srt id l → ∃ n, n ≤ l.length ∧ (∀ x ∈ l.take n, kd x < 6) ∧ ∀ x ∈ l.drop n, ¬ kd x < 6
  | [], _ => ⟨0, Nat.le_refl _, fun x hx => by simp at hx, fun x hx => by simp at hx⟩
  | a :: l, h => by
    have s := List.pairwise_cons.mp h
    by_cases c : kd a < 6
    · obtain ⟨n, hn, h1, h2⟩ := split6 s.2
      refine ⟨n + 1, Nat.succ_le_succ hn, fun x hx => ?_, h2⟩
      rw [List.take_succ_cons] at hx
      rcases List.mem_cons.mp hx with hx | hx
      · rw [hx]
        exact c
      · exact h1 x hx
    · refine ⟨0, Nat.zero_le _, fun x hx => by simp at hx, fun x hx => ?_⟩
      rw [List.drop_zero] at hx
      rcases List.mem_cons.mp hx with hx | hx
      · rw [hx]
        exact c
      · have h3 := s.1 x hx
        unfold bef at h3
        simp only [id] at h3
        by_cases e : kd x = kd a
        · omega
        · rw [if_neg e] at h3
          have h3 := of_decide_eq_false h3
          omega
/-- the turned directions in order are those in order, turned, begun elsewhere -/
theorem turned_round {l : List (Int × Int)} (hd : Dirs id l) (ha : Apart id l) : ∃ n, n ≤ l.length ∧
    sortB id (l.map qtr) = ((sortB id l).map qtr).drop n ++ ((sortB id l).map qtr).take n := by
  have hs := sortB_srt hd
  have hst := sortB_str hd ha
  have hds := sortB_dirs hd
  obtain ⟨n, hn, h1, h2⟩ := split6 hs
  rw [sortB_length] at hn
  refine ⟨n, hn, ?_⟩
  have hsd : Dirs id (l.map qtr) := fun x hx => by
    obtain ⟨y, hy, rfl⟩ := List.mem_map.mp hx
    exact dir_qtr (hd y hy)
  have hap : Apart id (l.map qtr) := by
    refine List.pairwise_map.mpr (List.Pairwise.imp ?_ ha)
    intro a b h z
    apply h
    have e2 : dot (qtr a) (qtr b) = dot a b := by
      unfold dot qtr
      grind
    have e1 := crs_qtr a b
    simp only [id] at *
    omega
  refine str_unique (f := id) (sortB_str hsd hap) ?_ ?_
  · rw [← List.map_drop, ← List.map_take]
    have hdl : ∀ x ∈ (sortB id l).drop n, Dir x := fun x hx => hds x (List.mem_of_mem_drop hx)
    have htl : ∀ x ∈ (sortB id l).take n, Dir x := fun x hx => hds x (List.mem_of_mem_take hx)
    refine List.pairwise_append.mpr ⟨?_, ?_, ?_⟩
    · refine List.pairwise_map.mpr ?_
      have p : ((sortB id l).drop n).Pairwise fun a b => bef a b = true := List.Pairwise.drop hst
      refine List.Pairwise.imp_of_mem ?_ p
      intro a b ma mb h
      have k1 := h2 a ma
      have k2 := h2 b mb
      simp only [id]
      rw [bef_qtr (hdl a ma) (hdl b mb) (by omega)]
      exact h
    · refine List.pairwise_map.mpr ?_
      have p : ((sortB id l).take n).Pairwise fun a b => bef a b = true := List.Pairwise.take hst
      refine List.Pairwise.imp_of_mem ?_ p
      intro a b ma mb h
      have k1 := h1 a ma
      have k2 := h1 b mb
      simp only [id]
      rw [bef_qtr (htl a ma) (htl b mb) (by omega)]
      exact h
    · intro x hx y hy
      obtain ⟨u, hu, rfl⟩ := List.mem_map.mp hx
      obtain ⟨v, hv, rfl⟩ := List.mem_map.mp hy
      exact bef_turned (htl v hv) (hdl u hu) (h1 v hv) (h2 u hu)
  · refine (sortB_perm _).trans ?_
    have p1 : (((sortB id l).map qtr).drop n ++ ((sortB id l).map qtr).take n).Perm (((sortB id l).map qtr).take n ++ ((sortB id l).map qtr).drop n) := List.perm_append_comm
    rw [List.take_append_drop] at p1
    exact (p1.trans ((sortB_perm l).map qtr)).symm
/-! ### the shortest -/
def gcI (a : Int × Int) : Int := (Int.gcd a.1 a.2 : Int)
def low (a : Int × Int) : Int × Int := (a.1 / gcI a, a.2 / gcI a)
theorem gcI_pos {a : Int × Int} (h : Dir a) : 0 < gcI a := by
  unfold gcI
  have : Int.gcd a.1 a.2 ≠ 0 := by
    intro z
    have := Int.gcd_eq_zero_iff.mp z
    rcases h with h | h
    · exact h this.1
    · exact h this.2
  omega
theorem gcI_dvd1 (a : Int × Int) : gcI a ∣ a.1 := Int.gcd_dvd_left ..
theorem gcI_dvd2 (a : Int × Int) : gcI a ∣ a.2 := Int.gcd_dvd_right ..
theorem low_mul {a : Int × Int} (h : Dir a) {m : Int} (hm : 0 < m) : low (a.1 * m, a.2 * m) = low a := by
  have e : gcI (a.1 * m, a.2 * m) = gcI a * m := by
    unfold gcI
    simp only
    rw [Int.gcd_mul_right]
    rw [Int.natCast_mul]
    congr 1
    omega
  unfold low
  rw [e]
  simp only
  rw [Int.mul_ediv_mul_of_pos_left _ _ hm, Int.mul_ediv_mul_of_pos_left _ _ hm]
theorem low_qtr {a : Int × Int} : low (qtr a) = qtr (low a) := by
  have e : gcI (qtr a) = gcI a := by
    unfold gcI qtr
    simp only
    rw [Int.neg_gcd, Int.gcd_comm]
  unfold low
  rw [e]
  unfold qtr
  simp only
  rw [Int.neg_ediv_of_dvd (gcI_dvd2 a)]
end Fo
set_option linter.all false
namespace Fo
theorem mmmc (a b c d : Int) : a * b * (c * d) = a * c * (b * d) := by
  rw [Int.mul_assoc, Int.mul_left_comm b c d, ← Int.mul_assoc]
theorem low_mul_gc {a : Int × Int} : (low a).1 * gcI a = a.1 ∧ (low a).2 * gcI a = a.2 := ⟨Int.ediv_mul_cancel (gcI_dvd1 a), Int.ediv_mul_cancel (gcI_dvd2 a)⟩
theorem low_dir {a : Int × Int} (h : Dir a) : Dir (low a) := by
  obtain ⟨h1, h2⟩ := low_mul_gc (a := a)
  rcases h with h | h
  · refine .inl fun z => h ?_
    rw [← h1, z, Int.zero_mul]
  · refine .inr fun z => h ?_
    rw [← h2, z, Int.zero_mul]
theorem low_low {a : Int × Int} (h : Dir a) : low (low a) = low a := by
  have e := low_mul (low_dir h) (gcI_pos h)
  obtain ⟨h1, h2⟩ := low_mul_gc (a := a)
  rw [h1, h2] at e
  exact e.symm
theorem low_prime {a : Int × Int} (h : Dir a) {m : Int} (hm : 2 ≤ m) : ¬ ((low a).1 % m = 0 ∧ (low a).2 % m = 0) := by
  rintro ⟨h1, h2⟩
  have g : Int.gcd (low a).1 (low a).2 = 1 := by
    have p := gcI_pos h
    unfold gcI at p
    exact Int.gcd_ediv_gcd_ediv_gcd (by omega)
  have d := Int.dvd_coe_gcd (Int.dvd_of_emod_eq_zero h1) (Int.dvd_of_emod_eq_zero h2)
  rw [g] at d
  have := Int.le_of_dvd (by decide) d
  omega
def sw (a b : Int × Int) : Bool := decide (a.1 * b.2 = a.2 * b.1) && decide (0 < a.1 * b.1 + a.2 * b.2)
theorem nn_pos {a : Int × Int} (h : Dir a) : 0 < a.1 * a.1 + a.2 * a.2 := by
  have h1 := sq_nn a.1
  have h2 := sq_nn a.2
  rcases h with h | h
  · have := sq_pos h
    omega
  · have := sq_pos h
    omega
theorem sw_low {a : Int × Int} (h : Dir a) : sw (low a) a = true := by
  obtain ⟨h1, h2⟩ := low_mul_gc (a := a)
  have p := gcI_pos h
  have n := nn_pos (low_dir h)
  generalize low a = b at *
  generalize gcI a = g at *
  obtain ⟨x, y⟩ := b
  obtain ⟨u, v⟩ := a
  unfold sw
  simp only at *
  subst h1
  subst h2
  have e1 : x * (y * g) = y * (x * g) := by
    rw [← Int.mul_assoc, ← Int.mul_assoc, Int.mul_comm x y]
  have e2 : x * (x * g) + y * (y * g) = (x * x + y * y) * g := by
    rw [Int.add_mul, Int.mul_assoc, Int.mul_assoc]
  rw [decide_eq_true e1, e2, decide_eq_true (Int.mul_pos n p)]
  rfl
/-- alike ones are multiples -/
theorem sw_mul {a c : Int × Int} (h : sw a c = true) : ∃ D : Int, 0 < D ∧ a.1 * (c.1 * c.1 + c.2 * c.2) = c.1 * D ∧ a.2 * (c.1 * c.1 + c.2 * c.2) = c.2 * D := by
  unfold sw at h
  rw [Bool.and_eq_true] at h
  have h1 := of_decide_eq_true h.1
  have h2 := of_decide_eq_true h.2
  obtain ⟨x, y⟩ := a
  obtain ⟨u, v⟩ := c
  simp only at *
  refine ⟨x * u + y * v, h2, ?_, ?_⟩
  · have e : x * (v * v) = u * (y * v) := by
      rw [← Int.mul_assoc, h1, Int.mul_assoc, Int.mul_left_comm]
    rw [Int.mul_add, Int.mul_add, e, Int.mul_left_comm x u u]
  · have e : y * (u * u) = v * (x * u) := by
      rw [← Int.mul_assoc, ← h1, Int.mul_assoc, Int.mul_left_comm]
    rw [Int.mul_add, Int.mul_add, e, Int.mul_left_comm y v v]
theorem sw_bef {a b c : Int × Int} (hc : Dir c) (h1 : sw a c = true) (h2 : sw b c = true) : bef a b = false := by
  obtain ⟨D1, p1, e1, e2⟩ := sw_mul h1
  obtain ⟨D2, p2, e3, e4⟩ := sw_mul h2
  have n := nn_pos hc
  generalize c.1 * c.1 + c.2 * c.2 = N at *
  have k1 : kd a = kd c := by
    have r1 := kd_mul a n
    have r2 := kd_mul c p1
    rw [e1, e2] at r1
    rw [← r1, r2]
  have k2 : kd b = kd c := by
    have r1 := kd_mul b n
    have r2 := kd_mul c p2
    rw [e3, e4] at r1
    rw [← r1, r2]
  have z : crs a b = 0 := by
    have q : crs a b * (N * N) = 0 := by
      unfold crs
      have q1 : (a.1 * b.2 - a.2 * b.1) * (N * N) = (a.1 * N) * (b.2 * N) - (a.2 * N) * (b.1 * N) := by
        rw [Int.sub_mul]
        congr 1
        · rw [mmmc]
        · rw [mmmc]
      rw [q1, e1, e2, e3, e4]
      have q2 : c.1 * D1 * (c.2 * D2) = c.2 * D1 * (c.1 * D2) := by
        rw [mmmc, mmmc c.2, Int.mul_comm c.1 c.2]
      rw [q2]
      exact Int.sub_self _
    have nn : N * N ≠ 0 := Int.ne_of_gt (Int.mul_pos n n)
    rcases Int.mul_eq_zero.mp q with q | q
    · exact q
    · exact absurd q nn
  unfold bef
  rw [if_pos (k1.trans k2.symm), z]
  rfl
theorem ins_filter {e c : Int × Int} {l : List (Int × Int)} (hs : Srt id l) (hd : Dirs id l) (he : Dir e) (hc : Dir c) : (insB id e l).filter (fun x => sw x c) = l.filter (fun x => sw x c) ++ [e].filter (fun x => sw x c) := by
  have hl : (l.takeWhile (fun x => !bef (id e) (id x)) ++ l.dropWhile (fun x => !bef (id e) (id x))) = l := List.takeWhile_append_dropWhile
  have hdrop := drop_bef (f := id) hs hd he
  unfold insB
  conv => rhs; rw [← hl]
  generalize l.takeWhile (fun x => !bef (id e) (id x)) = A at *
  generalize l.dropWhile (fun x => !bef (id e) (id x)) = B at *
  rw [List.filter_append, List.filter_append, List.append_assoc]
  congr 1
  rw [show e :: B = [e] ++ B from rfl, List.filter_append]
  by_cases q : sw e c = true
  · have hB : B.filter (fun x => sw x c) = [] := by
      rw [List.filter_eq_nil_iff]
      intro x hx hq
      have r := hdrop x hx
      have r2 := sw_bef hc q hq
      simp only [id] at r
      rw [r2] at r
      cases r
    rw [hB, List.nil_append, List.append_nil]
  · have he' : [e].filter (fun x => sw x c) = [] := by
      rw [List.filter_eq_nil_iff]
      intro x hx
      rw [List.mem_singleton] at hx
      rw [hx]
      exact q
    rw [he', List.nil_append, List.append_nil]
theorem foldl_filter {c : Int × Int} (hc : Dir c) (l : List (Int × Int)) : ∀ acc : List (Int × Int), Srt id acc → Dirs id acc → Dirs id l → (l.foldl (fun acc e => insB id e acc) acc).filter (fun x => sw x c) = acc.filter (fun x => sw x c) ++ l.filter (fun x => sw x c) := by
  induction l with
  | nil =>
    intro acc _ _ _
    simp
  | cons e l ih =>
    intro acc hs hd hl
    have he : Dir e := hl e List.mem_cons_self
    rw [List.foldl_cons, ih _ (insB_srt hs hd he) (insB_dirs hd he) (fun x hx => hl x (List.mem_cons_of_mem _ hx)), ins_filter hs hd he hc, List.append_assoc, ← List.filter_append]
    rfl
theorem sort_filter {c : Int × Int} (hc : Dir c) {l : List (Int × Int)} (hl : Dirs id l) : (sortB id l).filter (fun x => sw x c) = l.filter (fun x => sw x c) := by
  have := foldl_filter hc l [] List.Pairwise.nil (fun a ha => by simp at ha) hl
  unfold sortB
  simpa using this
theorem srt_next {l : List (Int × Int)} (h : Srt id l) {i : Nat} (h1 : i + 1 < l.length) : bef l[i + 1] l[i] = false := List.pairwise_iff_getElem.mp h i (i + 1) (by omega) h1 (by omega)
end Fo

set_option Elab.async false
set_option linter.all false
set_option maxRecDepth 100000
set_option maxHeartbeats 2000000
namespace Fo
open PySem L2
/-! ### the text by places -/
def top (i : Nat) : Stmt := PySem.Challenge.pw_filledonce_k02_directions.main.body.getD i (.Pass ⟨0, 0, 0, 0⟩)
abbrev sWhole : Stmt := top 6
abbrev sInit : Stmt := inClass (top 10) 0
abbrev sAdd : Stmt := inClass (top 10) 3
abbrev sSub : Stmt := inClass (top 10) 5
abbrev sCross : Stmt := inClass (top 10) 9
abbrev sMul : Stmt := inClass (top 10) 7
abbrev sEq : Stmt := inClass (top 10) 2
abbrev sPairM : Stmt := inClass (top 10) 10
abbrev sIsPoint : Stmt := top 11
abbrev sAsPoint : Stmt := top 12
abbrev sOperand : Stmt := top 13
/-! ### data -/
theorem xy_ : ¬ (("x" : Str) = "y") := by decide +kernel
theorem yx_ : ¬ (("y" : Str) = "x") := by decide +kernel
def ptF (x y : Int) : List (Str × V) := putF "y" (.int y) (putF "x" (.int x) [])
theorem ptF_x (x y : Int) : (ptF x y).lookup ("x" : Str) = some (.int x) := by
  unfold ptF
  rw [lookup_putF, if_neg xy_, lookup_putF, if_pos rfl]
theorem ptF_y (x y : Int) : (ptF x y).lookup ("y" : Str) = some (.int y) := by
  unfold ptF
  rw [lookup_putF, if_pos rfl]
theorem ptF_no (x y : Int) {m : Str} (h1 : ¬ m = "y") (h2 : ¬ m = "x") : (ptF x y).lookup m = none := by
  unfold ptF
  rw [lookup_putF, if_neg h1, lookup_putF, if_neg h2]
  all_goals rfl
/-- an instance of Point with these numbers -/
def IsP (C : Addr) (v : V) (x y : Int) (H : Hp) : Prop := ∃ a dx, v = .ref a ∧ H a = some (.ins C dx (ptF x y))
/-- it, or a pair that stands for it -/
def IsPt (C : Addr) (v : V) (x y : Int) (H : Hp) : Prop := ∃ a, v = .ref a ∧ ((∃ dx, H a = some (.ins C dx (ptF x y))) ∨ H a = some (.tup [.int x, .int y]))
theorem IsP.ex {C : Addr} {v : V} {x y : Int} {H H' : Hp} (e : Same H H') (h : IsP C v x y H) : IsP C v x y H' := by
  obtain ⟨a, dx, rfl, h⟩ := h
  exact ⟨a, dx, rfl, e _ _ h⟩
theorem IsPt.ex {C : Addr} {v : V} {x y : Int} {H H' : Hp} (e : Same H H') (h : IsPt C v x y H) : IsPt C v x y H' := by
  obtain ⟨a, rfl, h⟩ := h
  rcases h with ⟨dx, h⟩ | h
  · exact ⟨a, rfl, .inl ⟨dx, e _ _ h⟩⟩
  · exact ⟨a, rfl, .inr (e _ _ h)⟩
theorem IsP.pt {C : Addr} {v : V} {x y : Int} {H : Hp} (h : IsP C v x y H) : IsPt C v x y H := by
  obtain ⟨a, dx, rfl, h⟩ := h
  exact ⟨a, rfl, .inl ⟨dx, h⟩⟩
theorem same_new {H : Hp} {p : Addr} {o : HO} (h : H p = none) : Same H (upd H p o) := fun a u e => by
  rw [upd_ne (ne_of_none e h)]
  exact e
def Sm (n : Nat) (x : Int) : Prop := x.natAbs < 2 ^ n
theorem Sm.mul {n : Nat} {x y : Int} (hx : Sm n x) (hy : Sm n y) (h0 : 0 < n) (h1 : n ≤ 1000) : CMulW x y := wide_mul hx hy h0 h0 (by omega)
theorem Sm.sub {n : Nat} {x y : Int} (hx : Sm n x) (hy : Sm n y) : Sm (n + 1) (x - y) := by
  unfold Sm at *
  rw [Nat.pow_succ]
  omega
theorem Sm.up {n m : Nat} {x : Int} (hx : Sm n x) (h : n ≤ m) : Sm m x := Nat.lt_of_lt_of_le hx (Nat.pow_le_pow_right (by decide) h)
/-! ### promises -/
def spWhole : Sp := fun vs H Q _ => ∃ i : Int, vs = [.int i] ∧ Q (.bl true) H
def spInit (C : Addr) : Sp := fun vs H Q _ => ∃ (p dx : Addr) (x y : Int), vs = [.ref p, .int x, .int y] ∧ H p = some (.ins C dx []) ∧ Q .non (upd (upd H p (.ins C dx (putF "x" (.int x) []))) p (.ins C dx (ptF x y)))
def spIsPoint (C : Addr) : Sp := fun vs H Q _ => ∃ (v : V) (x y : Int), vs = [v] ∧ IsPt C v x y H ∧ Q (.bl true) H
def spAsPoint (C : Addr) : Sp := fun vs H Q _ => ∃ (v : V) (x y : Int), vs = [v] ∧ IsPt C v x y H ∧ ∀ w H', Same H H' → IsP C w x y H' → (IsP C v x y H → w = v) → Q w H'
def spBin (C : Addr) (g : Int → Int → Int) : Sp := fun vs H Q _ => ∃ (v u : V) (x y z t : Int), vs = [v, u] ∧ IsP C v x y H ∧ IsPt C u z t H ∧ ∀ w H', Same H H' → IsP C w (g x z) (g y t) H' → Q w H'
def spCross (C : Addr) : Sp := fun vs H Q _ => ∃ (n : Nat) (v u : V) (x y z t : Int), vs = [v, u] ∧ IsP C v x y H ∧ IsPt C u z t H ∧ 0 < n ∧ n ≤ 1000 ∧ Sm n x ∧ Sm n y ∧ Sm n z ∧ Sm n t ∧ ∀ H', Same H H' → Q (.int (x * t - y * z)) H'
def sideI (ax ay bx by' px py : Int) : Int := (bx - ax) * (py - ay) - (by' - ay) * (px - ax)
def spSide (C : Addr) : Sp := fun vs H Q _ => ∃ (n : Nat) (a b p : V) (ax ay bx by' px py : Int), vs = [a, b, p] ∧ IsPt C a ax ay H ∧ IsPt C b bx by' H ∧ IsPt C p px py H ∧ n < 1000 ∧
  Sm n ax ∧ Sm n ay ∧ Sm n bx ∧ Sm n by' ∧ Sm n px ∧ Sm n py ∧ ∀ H', Same H H' → Q (.int (sideI ax ay bx by' px py)) H'
def spQuarter (C : Addr) : Sp := fun vs H Q _ => ∃ (v : V) (x y : Int), vs = [v] ∧ IsPt C v x y H ∧ ∀ w H', Same H H' → IsP C w (-y) x H' → Q w H'
/-- what the top has written of Point -/
structure Txt (K : PySem.W.Frag) (mg : Str → Option Value) (C : Addr) : Prop where
  cl : Cls K C
  nX : NoAttr K C "x"
  nY : NoAttr K C "y"
  mgC : mg "Point" = some (.ref C)
  isi : mg "isinstance" = none
  len : mg "len" = none
  int : mg "int" = none
  bool : mg "bool" = none
  tuple : mg "tuple" = none
  ha : PySem.W.findIn K (.ref C) "__class__" = some (some (.builtin "object.__class__"))
  hn : PySem.W.specialIn K (.builtin "object.__class__") "__get__" = some (some (.builtin "getset_descriptor.__get__"))
  htk : PySem.W.takesIn K (.builtin "object.__class__") = some true
  hm : PySem.W.mroIn K C (.type "object") = some true
  kTC : PySem.W.kitOne K (.type "tuple") (.ref C) = some false
  kCC : PySem.W.kitOne K (.ref C) (.ref C) = some true
section
variable {P : Program} {w : World} {K : PySem.W.Frag} {mg : Str → Option Value} {base : Heap}
theorem scWhole : FnScope ["value"] ["value"] (defScope sWhole) := ⟨rfl, rfl, rfl, by decide +kernel, rfl, by decide +kernel, by decide +kernel⟩
theorem ok_whole {f C : Addr} {fd : FuncData} (F : Fun K "is_whole" "is_whole" sWhole f fd) (T : Txt K mg C) : FnOk P w K mg base CX0 1 f fd ["value"] spWhole := by
  refine F.ok scWhole (fun vs H Q E h => ?_) (fun cdv A outer s H vs Q E hr h => ?_)
  · obtain ⟨i, rfl, _⟩ := h
    rfl
  · obtain ⟨i, rfl, k⟩ := h
    refine ⟨_, pss_one (ps_ret (pe_and (pe_callB call_isi (by rfl) T.isi (by decide +kernel) (pa_cons (pv 0) (pa_cons (pe_bltn (v := .ty "int") (by rfl) T.int (by decide +kernel) rfl) pa_nil)))
      (pe_one (pe_not (pe_callB call_isi (by rfl) T.isi (by decide +kernel) (pa_cons (pv 0) (pa_cons (pe_bltn (v := .ty "bool") (by rfl) T.bool (by decide +kernel) rfl) pa_nil))))))), ?_⟩
    refine ⟨_, rfl, _, _, _, _, true, rfl, .ty _, .base (.int i), kit_ty (by decide +kernel), true, rfl, ?_⟩
    refine iteT ?_
    exact ⟨_, rfl, _, _, _, _, false, rfl, .ty _, .base (.int i), kit_ty (by decide +kernel), false, rfl, k⟩

theorem scInit : FnScope ["self", "x", "y"] ["self", "x", "y"] (defScope sInit) := ⟨rfl, rfl, rfl, by decide +kernel, rfl, by decide +kernel, by decide +kernel⟩
theorem ok_init {f C fW : Addr} {fd fdW : FuncData} (F : Fun K "__init__" "Point.__init__" sInit f fd) (T : Txt K mg C) (FW : Fun K "is_whole" "is_whole" sWhole fW fdW) (bW : Binds K fdW ["value"] []) (mW : mg "is_whole" = some (.ref fW)) :
    FnOk P w K mg base CX0 2 f fd ["self", "x", "y"] (spInit C) := by
  have GW : FnOk P w K mg base CX0 1 fW fdW ["value"] spWhole := ok_whole FW T
  refine F.ok scInit (fun vs H Q E h => ?_) (fun cdv A outer s H vs Q E hr h => ?_)
  · obtain ⟨p, dx, x, y, rfl, _⟩ := h
    rfl
  · obtain ⟨p, dx, x, y, rfl, hp, k⟩ := h
    refine ⟨_, pss_cons (ps_if (PW.pt (pw_or (pt_not (pt_val (pe_call GW hr rfl mW FW.kp bW .nil pass0 (pa_cons (pv 1) pa_nil)))) (pw_or1 (pt_not (pt_val (pe_call GW hr rfl mW FW.kp bW .nil pass0 (pa_cons (pv 2) pa_nil))))))) (pss_one ps_never) pss_nil)
      (pss_cons (ps_fld (pv 0) (pv 1) rfl) (pss_one (ps_fld (pv 0) (pv 2) rfl))), ?_⟩
    refine ⟨_, rfl, x, rfl, true, rfl, ?_⟩
    refine iteF ?_
    refine ⟨_, rfl, y, rfl, true, rfl, ?_⟩
    refine iteF ?_
    refine ⟨_, rfl, _, rfl, p, C, dx, [], rfl, hp, T.cl, T.nX, (by show 0 < 1000; decide), ?_⟩
    refine ⟨_, rfl, _, rfl, p, C, dx, _, rfl, upd_same, T.cl, T.nY, (by show 1 < 1000; decide), ?_⟩
    exact k
theorem ty_ins {C a dx : Addr} {fs : List (Str × V)} {H : Hp} (T : Txt K mg C) (h : H a = some (.ins C dx fs)) : TyX K H (.ref a) (.ref C) := .base (.ins h T.cl T.ha T.hn T.htk T.hm)
theorem scIsPoint : FnScope ["thing"] ["thing"] (defScope sIsPoint) := ⟨rfl, rfl, rfl, by decide +kernel, rfl, by decide +kernel, by decide +kernel⟩
theorem ok_is_point {f C fW : Addr} {fd fdW : FuncData} (F : Fun K "is_point" "is_point" sIsPoint f fd) (T : Txt K mg C) (FW : Fun K "is_whole" "is_whole" sWhole fW fdW) (bW : Binds K fdW ["value"] []) (mW : mg "is_whole" = some (.ref fW)) :
    FnOk P w K mg base CX0 2 f fd ["thing"] (spIsPoint C) := by
  have GW : FnOk P w K mg base CX0 1 fW fdW ["value"] spWhole := ok_whole FW T
  refine F.ok scIsPoint (fun vs H Q E h => ?_) (fun cdv A outer s H vs Q E hr h => ?_)
  · obtain ⟨v, x, y, rfl, _⟩ := h
    rfl
  · obtain ⟨v, x, y, rfl, ⟨a, rfl, hv⟩, k⟩ := h
    refine ⟨_, pss_cons (ps_if (pt_val (pe_callB call_isi (by rfl) T.isi (by decide +kernel) (pa_cons (pv 0) (pa_cons (pe_glob (v := .ref C) rfl T.mgC rfl) pa_nil)))) (pss_one (ps_ret pe_bl)) pss_nil)
      (pss_one (ps_ret (pe_and (pe_callB call_isi (by rfl) T.isi (by decide +kernel) (pa_cons (pv 0) (pa_cons (pe_bltn (v := .ty "tuple") (by rfl) T.tuple (by decide +kernel) rfl) pa_nil)))
        (pe_and (pe_cmpR op_eq (pe_callB call_len_seq (by rfl) T.len PySem.boot_len (pa_cons (pv 0) pa_nil)) pe_int (nomark _))
        (pe_and (pe_call GW hr rfl mW FW.kp bW .nil pass0 (pa_cons (pe_ix ix_tup (pv 0) pe_int (fun _ _ => rfl)) pa_nil))
        (pe_one (pe_call GW hr rfl mW FW.kp bW .nil pass0 (pa_cons (pe_ix ix_tup (pv 0) pe_int (fun _ _ => rfl)) pa_nil)))))))), ?_⟩
    rcases hv with ⟨dx, hv⟩ | hv
    · refine ⟨_, rfl, _, _, _, _, true, rfl, .own C, ty_ins T hv, T.kCC, true, rfl, ?_⟩
      refine iteT ?_
      exact k
    · refine ⟨_, rfl, _, _, _, _, false, rfl, .own C, .base (.tup hv), T.kTC, false, rfl, ?_⟩
      refine iteF ?_
      refine ⟨_, rfl, _, _, _, _, true, rfl, .ty _, .base (.tup hv), kit_ty (by decide +kernel), true, rfl, ?_⟩
      refine iteT ?_
      refine ⟨_, rfl, a, _, rfl, .inr (SqT.of hv), rfl, true, rfl, ?_⟩
      refine iteT ?_
      refine ⟨_, rfl, a, _, _, _, rfl, rfl, SqT.of hv, atI_nat (j := 0) rfl, x, rfl, true, rfl, ?_⟩
      refine iteT ?_
      exact ⟨_, rfl, a, _, _, _, rfl, rfl, SqT.of hv, atI_nat (j := 1) rfl, y, rfl, k⟩

/-- a new Point -/
theorem made_same {C x dx : Addr} {H : Hp} {X Y : Int} (nx : H x = none) (nd : H dx = none) : Same H (upd (upd (upd (upd H dx (.own x)) x (.ins C dx [])) x (.ins C dx (putF "x" (.int X) []))) x (.ins C dx (ptF X Y))) := fun b o e => by
  have n1 : b ≠ x := ne_of_none e nx
  have n2 : b ≠ dx := ne_of_none e nd
  rw [upd_ne n1, upd_ne n1, upd_ne n1, upd_ne n2]
  exact e
theorem made_is {C x dx : Addr} {H : Hp} {X Y : Int} : IsP C (.ref x) X Y (upd (upd (upd (upd H dx (.own x)) x (.ins C dx [])) x (.ins C dx (putF "x" (.int X) []))) x (.ins C dx (ptF X Y))) := ⟨x, dx, rfl, upd_same⟩
/-- Point(a, b) of two numbers: spInit's reading at a new instance -/
theorem make_pt {C : Addr} {H : Hp} {X Y : Int} {Q : VK} {E : XK} (k : ∀ v H', Same H H' → IsP C v X Y H' → Q v H') :
    ∀ x dx, H x = none → H dx = none → dx ≠ x → spInit C (.ref x :: ([.int X, .int Y] ++ [])) (upd (upd H dx (.own x)) x (.ins C dx [])) (fun v H2 => v = .non ∧ Q (.ref x) H2) E := fun x dx nx nd _ =>
  ⟨x, dx, X, Y, rfl, upd_same, rfl, k _ _ (made_same nx nd) made_is⟩
/-- the program's defs that others call, as they stand -/
structure Defs (K : PySem.W.Frag) (mg : Str → Option Value) (C fW fI fP fA fO : Addr) (fdW fdI fdP fdA fdO : FuncData) : Prop where
  T : Txt K mg C
  FW : Fun K "is_whole" "is_whole" sWhole fW fdW
  bW : Binds K fdW ["value"] []
  mW : mg "is_whole" = some (.ref fW)
  M : Mk K C fI
  FI : Fun K "__init__" "Point.__init__" sInit fI fdI
  bI : Binds K fdI ["self", "x", "y"] []
  FP : Fun K "is_point" "is_point" sIsPoint fP fdP
  bP : Binds K fdP ["thing"] []
  mP : mg "is_point" = some (.ref fP)
  FA : Fun K "as_point" "as_point" sAsPoint fA fdA
  bA : Binds K fdA ["thing"] []
  mA : mg "as_point" = some (.ref fA)
  FO : Fun K "operand" "operand" sOperand fO fdO
  bO : Binds K fdO ["thing"] []
  mO : mg "operand" = some (.ref fO)
variable {C fW fI fP fA fO : Addr} {fdW fdI fdP fdA fdO : FuncData}
theorem Defs.GW (D : Defs K mg C fW fI fP fA fO fdW fdI fdP fdA fdO) : FnOk P w K mg base CX0 1 fW fdW ["value"] spWhole := ok_whole D.FW D.T
theorem Defs.GI (D : Defs K mg C fW fI fP fA fO fdW fdI fdP fdA fdO) : FnOk P w K mg base CX0 2 fI fdI ["self", "x", "y"] (spInit C) := ok_init D.FI D.T D.FW D.bW D.mW
theorem Defs.GP (D : Defs K mg C fW fI fP fA fO fdW fdI fdP fdA fdO) : FnOk P w K mg base CX0 2 fP fdP ["thing"] (spIsPoint C) := ok_is_point D.FP D.T D.FW D.bW D.mW
theorem scAsPoint : FnScope ["thing"] ["thing"] (defScope sAsPoint) := ⟨rfl, rfl, rfl, by decide +kernel, rfl, by decide +kernel, by decide +kernel⟩
theorem Defs.GA (D : Defs K mg C fW fI fP fA fO fdW fdI fdP fdA fdO) : FnOk P w K mg base CX0 4 fA fdA ["thing"] (spAsPoint C) := by
  have GP : FnOk P w K mg base CX0 2 fP fdP ["thing"] (spIsPoint C) := D.GP
  have GI : FnOk P w K mg base CX0 2 fI fdI ["self", "x", "y"] (spInit C) := D.GI
  have T := D.T
  refine D.FA.ok scAsPoint (fun vs H Q E h => ?_) (fun cdv A outer s H vs Q E hr h => ?_)
  · obtain ⟨v, x, y, rfl, _⟩ := h
    rfl
  · obtain ⟨v, x, y, rfl, hp, k⟩ := h
    refine ⟨_, pss_cons (ps_if (pt_not (pt_val (pe_call GP (hr.mono (by decide)) rfl D.mP D.FP.kp D.bP .nil pass0 (pa_cons (pv 0) pa_nil)))) (pss_one ps_never) pss_nil)
      (pss_cons (ps_if (pt_val (pe_callB call_isi (by rfl) T.isi (by decide +kernel) (pa_cons (pv 0) (pa_cons (pe_glob (v := .ref C) rfl T.mgC rfl) pa_nil)))) (pss_one (ps_ret (pv 0))) pss_nil)
      (pss_one (ps_ret (pe_make D.M GI hr rfl T.mgC D.bI .nil pass0 (pa_cons (pe_ix ix_tup (pv 0) pe_int (fun _ _ => rfl)) (pa_cons (pe_ix ix_tup (pv 0) pe_int (fun _ _ => rfl)) pa_nil)))))), ?_⟩
    refine ⟨_, rfl, v, x, y, rfl, hp, true, rfl, ?_⟩
    refine iteF ?_
    obtain ⟨a, rfl, hv⟩ := hp
    rcases hv with ⟨dx, hv⟩ | hv
    · refine ⟨_, rfl, _, _, _, _, true, rfl, .own C, ty_ins T hv, T.kCC, true, rfl, ?_⟩
      refine iteT ?_
      exact ⟨_, rfl, k _ _ (Same.refl _) ⟨a, dx, rfl, hv⟩ fun _ => rfl⟩
    · refine ⟨_, rfl, _, _, _, _, false, rfl, .own C, .base (.tup hv), T.kTC, false, rfl, ?_⟩
      refine iteF ?_
      refine ⟨_, rfl, a, _, _, _, rfl, rfl, SqT.of hv, atI_nat (j := 0) rfl, _, rfl, a, _, _, _, rfl, rfl, SqT.of hv, atI_nat (j := 1) rfl, ?_⟩
      refine make_pt fun v H2 e2 h2 => k v H2 e2 h2 fun hp => ?_
      obtain ⟨b, dy, q1, q2⟩ := hp
      cases q1
      rw [hv] at q2
      cases q2
theorem scOperand : FnScope ["thing"] ["thing"] (defScope sOperand) := ⟨rfl, rfl, rfl, by decide +kernel, rfl, by decide +kernel, by decide +kernel⟩
theorem Defs.GO (D : Defs K mg C fW fI fP fA fO fdW fdI fdP fdA fdO) : FnOk P w K mg base CX0 5 fO fdO ["thing"] (spAsPoint C) := by
  have GP : FnOk P w K mg base CX0 2 fP fdP ["thing"] (spIsPoint C) := D.GP
  have GA : FnOk P w K mg base CX0 4 fA fdA ["thing"] (spAsPoint C) := D.GA
  refine D.FO.ok scOperand (fun vs H Q E h => ?_) (fun cdv A outer s H vs Q E hr h => ?_)
  · obtain ⟨v, x, y, rfl, _⟩ := h
    rfl
  · obtain ⟨v, x, y, rfl, hp, k⟩ := h
    refine ⟨_, pss_cons (ps_if (pt_not (pt_val (pe_call GP (hr.mono (by decide)) rfl D.mP D.FP.kp D.bP .nil pass0 (pa_cons (pv 0) pa_nil)))) (pss_one ps_never) pss_nil)
      (pss_one (ps_ret (pe_call GA hr rfl D.mA D.FA.kp D.bA .nil pass0 (pa_cons (pv 0) pa_nil)))), ?_⟩
    refine ⟨_, rfl, v, x, y, rfl, hp, true, rfl, ?_⟩
    refine iteF ?_
    exact ⟨_, rfl, v, x, y, rfl, hp, k⟩
theorem scAdd : FnScope ["self", "other", "by"] ["self", "other"] (defScope sAdd) := ⟨rfl, rfl, rfl, by decide +kernel, rfl, by decide +kernel, by decide +kernel⟩
theorem ok_add {f : Addr} {fd : FuncData} (F : Fun K "__add__" "Point.__add__" sAdd f fd) (D : Defs K mg C fW fI fP fA fO fdW fdI fdP fdA fdO) : FnOk P w K mg base CX0 6 f fd ["self", "other"] (spBin C (· + ·)) := by
  have GO : FnOk P w K mg base CX0 5 fO fdO ["thing"] (spAsPoint C) := D.GO
  have GI : FnOk P w K mg base CX0 2 fI fdI ["self", "x", "y"] (spInit C) := D.GI
  have T := D.T
  refine F.ok scAdd (fun vs H Q E h => ?_) (fun cdv A outer s H vs Q E hr h => ?_)
  · obtain ⟨v, u, x, y, z, t, rfl, _⟩ := h
    rfl
  · obtain ⟨v, u, x, y, z, t, rfl, hv, hu, k⟩ := h
    refine ⟨_, pss_cons (ps_set (i := 2) scAdd.nd rfl (Or.inl rfl) (pe_call GO hr rfl D.mO D.FO.kp D.bO .nil pass0 (pa_cons (pv 1) pa_nil)))
      (pss_one (ps_ret (pe_make D.M GI (hr.mono (by decide)) rfl T.mgC D.bI .nil pass0 (pa_cons (pe_op op_add (pe_fld (pv 0) rfl) (pe_fld (pv 2) rfl)) (pa_cons (pe_op op_add (pe_fld (pv 0) rfl) (pe_fld (pv 2) rfl)) pa_nil))))), ?_⟩
    refine ⟨_, rfl, u, z, t, rfl, hu, fun w H' e hw _ => ?_⟩
    obtain ⟨a, dx, rfl, ha⟩ := hv.ex e
    obtain ⟨b, dy, rfl, hb⟩ := hw
    refine ⟨_, rfl, a, C, dx, _, _, rfl, ha, T.cl, T.nX, ptF_x _ _, _, rfl, b, C, dy, _, _, rfl, hb, T.cl, T.nX, ptF_x _ _, _, _, rfl, rfl, ?_⟩
    refine ⟨_, rfl, a, C, dx, _, _, rfl, ha, T.cl, T.nY, ptF_y _ _, _, rfl, b, C, dy, _, _, rfl, hb, T.cl, T.nY, ptF_y _ _, _, _, rfl, rfl, ?_⟩
    exact make_pt fun v H2 e2 h2 => k v H2 (e.trans e2) h2
theorem scSub : FnScope ["self", "other", "by"] ["self", "other"] (defScope sSub) := ⟨rfl, rfl, rfl, by decide +kernel, rfl, by decide +kernel, by decide +kernel⟩
theorem ok_sub {f : Addr} {fd : FuncData} (F : Fun K "__sub__" "Point.__sub__" sSub f fd) (D : Defs K mg C fW fI fP fA fO fdW fdI fdP fdA fdO) : FnOk P w K mg base CX0 6 f fd ["self", "other"] (spBin C (· - ·)) := by
  have GO : FnOk P w K mg base CX0 5 fO fdO ["thing"] (spAsPoint C) := D.GO
  have GI : FnOk P w K mg base CX0 2 fI fdI ["self", "x", "y"] (spInit C) := D.GI
  have T := D.T
  refine F.ok scSub (fun vs H Q E h => ?_) (fun cdv A outer s H vs Q E hr h => ?_)
  · obtain ⟨v, u, x, y, z, t, rfl, _⟩ := h
    rfl
  · obtain ⟨v, u, x, y, z, t, rfl, hv, hu, k⟩ := h
    refine ⟨_, pss_cons (ps_set (i := 2) scSub.nd rfl (Or.inl rfl) (pe_call GO hr rfl D.mO D.FO.kp D.bO .nil pass0 (pa_cons (pv 1) pa_nil)))
      (pss_one (ps_ret (pe_make D.M GI (hr.mono (by decide)) rfl T.mgC D.bI .nil pass0 (pa_cons (pe_op op_sub (pe_fld (pv 0) rfl) (pe_fld (pv 2) rfl)) (pa_cons (pe_op op_sub (pe_fld (pv 0) rfl) (pe_fld (pv 2) rfl)) pa_nil))))), ?_⟩
    refine ⟨_, rfl, u, z, t, rfl, hu, fun w H' e hw _ => ?_⟩
    obtain ⟨a, dx, rfl, ha⟩ := hv.ex e
    obtain ⟨b, dy, rfl, hb⟩ := hw
    refine ⟨_, rfl, a, C, dx, _, _, rfl, ha, T.cl, T.nX, ptF_x _ _, _, rfl, b, C, dy, _, _, rfl, hb, T.cl, T.nX, ptF_x _ _, _, _, rfl, rfl, ?_⟩
    refine ⟨_, rfl, a, C, dx, _, _, rfl, ha, T.cl, T.nY, ptF_y _ _, _, rfl, b, C, dy, _, _, rfl, hb, T.cl, T.nY, ptF_y _ _, _, _, rfl, rfl, ?_⟩
    exact make_pt fun v H2 e2 h2 => k v H2 (e.trans e2) h2
theorem scCross : FnScope ["self", "other", "second"] ["self", "other"] (defScope sCross) := ⟨rfl, rfl, rfl, by decide +kernel, rfl, by decide +kernel, by decide +kernel⟩
theorem ok_cross {f : Addr} {fd : FuncData} (F : Fun K "cross" "Point.cross" sCross f fd) (D : Defs K mg C fW fI fP fA fO fdW fdI fdP fdA fdO) : FnOk P w K mg base CX0 5 f fd ["self", "other"] (spCross C) := by
  have GA : FnOk P w K mg base CX0 4 fA fdA ["thing"] (spAsPoint C) := D.GA
  have T := D.T
  refine F.ok scCross (fun vs H Q E h => ?_) (fun cdv A outer s H vs Q E hr h => ?_)
  · obtain ⟨n, v, u, x, y, z, t, rfl, _⟩ := h
    rfl
  · obtain ⟨n, v, u, x, y, z, t, rfl, hv, hu, n0, n1, sx, sy, sz, st, k⟩ := h
    refine ⟨_, pss_cons (ps_set (i := 2) scCross.nd rfl (Or.inl rfl) (pe_call GA hr rfl D.mA D.FA.kp D.bA .nil pass0 (pa_cons (pv 1) pa_nil)))
      (pss_one (ps_ret (pe_op op_sub (pe_op op_mulW (pe_fld (pv 0) rfl) (pe_fld (pv 2) rfl)) (pe_op op_mulW (pe_fld (pv 0) rfl) (pe_fld (pv 2) rfl))))), ?_⟩
    refine ⟨_, rfl, u, z, t, rfl, hu, fun w H' e hw _ => ?_⟩
    obtain ⟨a, dx, rfl, ha⟩ := hv.ex e
    obtain ⟨b, dy, rfl, hb⟩ := hw
    refine ⟨_, rfl, a, C, dx, _, _, rfl, ha, T.cl, T.nX, ptF_x _ _, _, rfl, b, C, dy, _, _, rfl, hb, T.cl, T.nY, ptF_y _ _, _, _, rfl, rfl, sx.mul st n0 n1, ?_⟩
    refine ⟨_, rfl, a, C, dx, _, _, rfl, ha, T.cl, T.nY, ptF_y _ _, _, rfl, b, C, dy, _, _, rfl, hb, T.cl, T.nX, ptF_x _ _, _, _, rfl, rfl, sy.mul sz n0 n1, ?_⟩
    exact ⟨_, _, rfl, rfl, k H' e⟩
theorem IsPt.opnd {v : V} {x y : Int} {H : Hp} (h : IsPt C v x y H) : (∃ b dy gs, v = .ref b ∧ H b = some (.ins C dy gs)) ∨ ∃ b xs, v = .ref b ∧ H b = some (.tup xs) := by
  obtain ⟨a, rfl, h⟩ := h
  rcases h with ⟨dx, h⟩ | h
  · exact .inl ⟨a, dx, _, rfl, h⟩
  · exact .inr ⟨a, _, rfl, h⟩
theorem cross_no (x y : Int) : (ptF x y).lookup ("cross" : Str) = none := ptF_no _ _ (by decide +kernel) (by decide +kernel)
def spMul (C : Addr) : Sp := fun vs H Q _ => ∃ (v : V) (x y m : Int), vs = [v, .int m] ∧ IsP C v x y H ∧ CMulW x m ∧ CMulW y m ∧ ∀ w H', Same H H' → IsP C w (x * m) (y * m) H' → Q w H'
theorem scMul : FnScope ["self", "other"] ["self", "other"] (defScope sMul) := ⟨rfl, rfl, rfl, by decide +kernel, rfl, by decide +kernel, by decide +kernel⟩
theorem ok_mul {f : Addr} {fd : FuncData} (F : Fun K "__mul__" "Point.__mul__" sMul f fd) (D : Defs K mg C fW fI fP fA fO fdW fdI fdP fdA fdO) : FnOk P w K mg base CX0 4 f fd ["self", "other"] (spMul C) := by
  have GW : FnOk P w K mg base CX0 1 fW fdW ["value"] spWhole := D.GW
  have GI : FnOk P w K mg base CX0 2 fI fdI ["self", "x", "y"] (spInit C) := D.GI
  have T := D.T
  refine F.ok scMul (fun vs H Q E h => ?_) (fun cdv A outer s H vs Q E hr h => ?_)
  · obtain ⟨v, x, y, m, rfl, _⟩ := h
    rfl
  · obtain ⟨v, x, y, m, rfl, hv, c1, c2, k⟩ := h
    refine ⟨_, pss_cons (ps_if (pt_not (pt_val (pe_call GW (hr.mono (by decide)) rfl D.mW D.FW.kp D.bW .nil pass0 (pa_cons (pv 1) pa_nil)))) (pss_one ps_never) pss_nil)
      (pss_one (ps_ret (pe_make D.M GI hr rfl T.mgC D.bI .nil pass0 (pa_cons (pe_op op_mulW (pe_fld (pv 0) rfl) (pv 1)) (pa_cons (pe_op op_mulW (pe_fld (pv 0) rfl) (pv 1)) pa_nil))))), ?_⟩
    refine ⟨_, rfl, m, rfl, true, rfl, ?_⟩
    refine iteF ?_
    obtain ⟨a, dx, rfl, ha⟩ := hv
    refine ⟨_, rfl, a, C, dx, _, _, rfl, ha, T.cl, T.nX, ptF_x _ _, _, rfl, _, _, rfl, rfl, c1, ?_⟩
    refine ⟨_, rfl, a, C, dx, _, _, rfl, ha, T.cl, T.nY, ptF_y _ _, _, rfl, _, _, rfl, rfl, c2, ?_⟩
    exact make_pt k
def spEqP (C : Addr) : Sp := fun vs H Q _ => ∃ (v u : V) (x y z t : Int), vs = [v, u] ∧ IsP C v x y H ∧ ((IsP C u z t H ∧ Q (.bl (decide (x = z) && decide (y = t))) H) ∨ ((∃ b xs, u = .ref b ∧ H b = some (.tup xs)) ∧ Q (.bl false) H))
theorem scEq : FnScope ["self", "other"] ["self", "other"] (defScope sEq) := ⟨rfl, rfl, rfl, by decide +kernel, rfl, by decide +kernel, by decide +kernel⟩
theorem ok_eq {f : Addr} {fd : FuncData} (F : Fun K "__eq__" "Point.__eq__" sEq f fd) (T : Txt K mg C) : FnOk P w K mg base CX0 1 f fd ["self", "other"] (spEqP C) := by
  refine F.ok scEq (fun vs H Q E h => ?_) (fun cdv A outer s H vs Q E hr h => ?_)
  · obtain ⟨v, u, x, y, z, t, rfl, _⟩ := h
    rfl
  · obtain ⟨v, u, x, y, z, t, rfl, ⟨a, dx, rfl, ha⟩, hu⟩ := h
    refine ⟨_, pss_one (ps_ret (pe_and (pe_callB call_isi (by rfl) T.isi (by decide +kernel) (pa_cons (pv 1) (pa_cons (pe_glob (v := .ref C) rfl T.mgC rfl) pa_nil)))
      (pe_and (pe_cmpR op_eq (pe_fld (pv 0) rfl) (pe_fld (pv 1) rfl) (nomark _)) (pe_one (pe_cmpR op_eq (pe_fld (pv 0) rfl) (pe_fld (pv 1) rfl) (nomark _)))))), ?_⟩
    rcases hu with ⟨⟨b, dy, rfl, hb⟩, k⟩ | ⟨⟨b, xs, rfl, hb⟩, k⟩
    · refine ⟨_, rfl, _, _, _, _, true, rfl, .own C, ty_ins T hb, T.kCC, true, rfl, ?_⟩
      refine iteT ?_
      refine ⟨_, rfl, a, C, dx, _, _, rfl, ha, T.cl, T.nX, ptF_x _ _, _, rfl, b, C, dy, _, _, rfl, hb, T.cl, T.nX, ptF_x _ _, rfl, _, rfl, ?_⟩
      have ei : ∀ i j : Int, decide (V.int i = V.int j) = decide (i = j) := fun i j => by
        by_cases h : i = j
        · rw [h, decide_eq_true rfl, decide_eq_true rfl]
        · rw [decide_eq_false h, decide_eq_false (fun q => h (by cases q; rfl))]
      rw [ei x z]
      by_cases hxz : x = z
      · rw [decide_eq_true hxz] at *
        refine iteT ?_
        refine ⟨_, rfl, a, C, dx, _, _, rfl, ha, T.cl, T.nY, ptF_y _ _, _, rfl, b, C, dy, _, _, rfl, hb, T.cl, T.nY, ptF_y _ _, rfl, ?_⟩
        rw [ei y t]
        simpa using k
      · rw [decide_eq_false hxz] at *
        refine iteF ?_
        simpa using k
    · refine ⟨_, rfl, _, _, _, _, false, rfl, .own C, .base (.tup hb), T.kTC, false, rfl, ?_⟩
      refine iteF ?_
      exact k
def spPairM (C : Addr) : Sp := fun vs H Q _ => ∃ (v : V) (x y : Int), vs = [v] ∧ IsP C v x y H ∧ ∀ q H', H q = none → Same H H' → H' q = some (.tup [.int x, .int y]) → Q (.ref q) H'
theorem scPairM : FnScope ["self"] ["self"] (defScope sPairM) := ⟨rfl, rfl, rfl, by decide +kernel, rfl, by decide +kernel, by decide +kernel⟩
theorem ok_pairM {f : Addr} {fd : FuncData} (F : Fun K "pair" "Point.pair" sPairM f fd) (T : Txt K mg C) : FnOk P w K mg base CX0 1 f fd ["self"] (spPairM C) := by
  refine F.ok scPairM (fun vs H Q E h => ?_) (fun cdv A outer s H vs Q E hr h => ?_)
  · obtain ⟨v, x, y, rfl, _⟩ := h
    rfl
  · obtain ⟨v, x, y, rfl, ⟨a, dx, rfl, ha⟩, k⟩ := h
    refine ⟨_, pss_one (ps_ret (pe_tup (pa_cons (pe_fld (pv 0) rfl) (pa_cons (pe_fld (pv 0) rfl) pa_nil)))), ?_⟩
    refine ⟨_, rfl, a, C, dx, _, _, rfl, ha, T.cl, T.nX, ptF_x _ _, _, rfl, a, C, dx, _, _, rfl, ha, T.cl, T.nY, ptF_y _ _, (by show 2 ≤ sizeLine; decide), fun t nt => ?_⟩
    exact k t _ nt (same_new nt) upd_same
end
end Fo

set_option Elab.async false
set_option linter.all false
set_option maxRecDepth 100000
set_option maxHeartbeats 2000000
namespace Fo
open PySem L2
/-! ### filledonce.points where it raises -/
def Scal : V → Prop
  | .non => True
  | .bl _ => True
  | .int _ => True
  | .str _ => True
  | _ => False
def wholeV : V → Bool
  | .int _ => true
  | _ => false
/-- what is no point: one of some kinds -/
inductive Bad (H : Hp) : V → Prop
  | non : Bad H .non
  | bl (b : Bool) : Bad H (.bl b)
  | int (i : Int) : Bad H (.int i)
  | str (z : Str) : Bad H (.str z)
  | lst {a : Addr} {xs : List V} (h : H a = some (.lst xs)) : Bad H (.ref a)
  | tup {a : Addr} {xs : List V} (h : H a = some (.tup xs)) (n : xs.length ≠ 2) : Bad H (.ref a)
  | two {a : Addr} {u v : V} (h : H a = some (.tup [u, v])) (su : Scal u) (sv : Scal v) (n : (wholeV u && wholeV v) = false) : Bad H (.ref a)
theorem Bad.ex {H H' : Hp} {v : V} (e : Same H H') (h : Bad H v) : Bad H' v := by
  cases h with
  | non => exact .non
  | bl b => exact .bl b
  | int i => exact .int i
  | str z => exact .str z
  | lst h => exact .lst (e _ _ h)
  | tup h n => exact .tup (e _ _ h) n
  | two h su sv n => exact .two (e _ _ h) su sv n
/-- what the top says besides of Point and of the error InvalidPoint at CI -/
structure TxtX (P : Program) (K : PySem.W.Frag) (mg : Str → Option Value) (C CI fII : Addr) : Prop where
  kNC : PySem.W.kitOne K (.type "NoneType") (.ref C) = some false
  kBC : PySem.W.kitOne K (.type "bool") (.ref C) = some false
  kIC : PySem.W.kitOne K (.type "int") (.ref C) = some false
  kSC : PySem.W.kitOne K (.type "str") (.ref C) = some false
  kLC : PySem.W.kitOne K (.type "list") (.ref C) = some false
  xI : FoX_thing.XTxt P K mg CI fII
  gI : mg "InvalidPoint" = some (.ref CI)
def XD (v : V) : HO := .xd [((Str.ofString "thing"), v)]
def spWholeX : Sp := fun vs H Q _ => ∃ v : V, vs = [v] ∧ Scal v ∧ Q (.bl (wholeV v)) H
def spIsPointX (C : Addr) : Sp := fun vs H Q _ => ∃ v : V, vs = [v] ∧ Bad H v ∧ Q (.bl false) H
def spInitX (C CI : Addr) : Sp := fun vs H _ E => ∃ (p : Addr) (u v : V), vs = [.ref p, u, v] ∧ Scal u ∧ Scal v ∧ (wholeV u && wholeV v) = false ∧ ∀ t d H', Same H H' → H' t = some (.tup [u, v]) → H' d = some (XD (.ref t)) → E (.ref CI) (some d) H'
def spBadX (CI : Addr) : Sp := fun vs H _ E => ∃ v : V, vs = [v] ∧ Bad H v ∧ ∀ d H', Same H H' → H' d = some (XD v) → E (.ref CI) (some d) H'
section
variable {P : Program} {w : World} {K : PySem.W.Frag} {mg : Str → Option Value} {base : Heap} {C fW fI fP fA fO CI fII : Addr} {fdW fdI fdP fdA fdO : FuncData}
theorem ok_wholeX {f : Addr} {fd : FuncData} (F : Fun K "is_whole" "is_whole" sWhole f fd) (T : Txt K mg C) : FnOk P w K mg base CX0 1 f fd ["value"] spWholeX := by
  refine F.ok scWhole (fun vs H Q E h => ?_) (fun cdv A outer s H vs Q E hr h => ?_)
  · obtain ⟨v, rfl, _⟩ := h
    rfl
  · obtain ⟨v, rfl, sv, k⟩ := h
    refine ⟨_, pss_one (ps_ret (pe_and (pe_callB call_isi (by rfl) T.isi (by decide +kernel) (pa_cons (pv 0) (pa_cons (pe_bltn (v := .ty "int") (by rfl) T.int (by decide +kernel) rfl) pa_nil)))
      (pe_one (pe_not (pe_callB call_isi (by rfl) T.isi (by decide +kernel) (pa_cons (pv 0) (pa_cons (pe_bltn (v := .ty "bool") (by rfl) T.bool (by decide +kernel) rfl) pa_nil))))))), ?_⟩
    cases v with
    | non =>
      refine ⟨_, rfl, _, _, _, _, false, rfl, .ty _, .base .non, kit_ty (by decide +kernel), false, rfl, ?_⟩
      exact iteF k
    | bl b =>
      refine ⟨_, rfl, _, _, _, _, true, rfl, .ty _, .base (.bl b), kit_ty (by decide +kernel), true, rfl, ?_⟩
      refine iteT ?_
      exact ⟨_, rfl, _, _, _, _, true, rfl, .ty _, .base (.bl b), kit_ty (by decide +kernel), true, rfl, k⟩
    | int i =>
      refine ⟨_, rfl, _, _, _, _, true, rfl, .ty _, .base (.int i), kit_ty (by decide +kernel), true, rfl, ?_⟩
      refine iteT ?_
      exact ⟨_, rfl, _, _, _, _, false, rfl, .ty _, .base (.int i), kit_ty (by decide +kernel), false, rfl, k⟩
    | str z =>
      refine ⟨_, rfl, _, _, _, _, false, rfl, .ty _, .base (.str z), kit_ty (by decide +kernel), false, rfl, ?_⟩
      exact iteF k
    | _ => exact sv.elim
theorem ok_is_pointX (D : Defs K mg C fW fI fP fA fO fdW fdI fdP fdA fdO) (TX : TxtX P K mg C CI fII) : FnOk P w K mg base CX0 2 fP fdP ["thing"] (spIsPointX C) := by
  have GW : FnOk P w K mg base CX0 1 fW fdW ["value"] spWholeX := ok_wholeX D.FW D.T
  have T := D.T
  refine D.FP.ok scIsPoint (fun vs H Q E h => ?_) (fun cdv A outer s H vs Q E hr h => ?_)
  · obtain ⟨v, rfl, _⟩ := h
    rfl
  · obtain ⟨v, rfl, bad, k⟩ := h
    refine ⟨_, pss_cons (ps_if (pt_val (pe_callB call_isi (by rfl) T.isi (by decide +kernel) (pa_cons (pv 0) (pa_cons (pe_glob (v := .ref C) rfl T.mgC rfl) pa_nil)))) (pss_one (ps_ret pe_bl)) pss_nil)
      (pss_one (ps_ret (pe_and (pe_callB call_isi (by rfl) T.isi (by decide +kernel) (pa_cons (pv 0) (pa_cons (pe_bltn (v := .ty "tuple") (by rfl) T.tuple (by decide +kernel) rfl) pa_nil)))
        (pe_and (pe_cmpR op_eq (pe_callB call_len_seq (by rfl) T.len PySem.boot_len (pa_cons (pv 0) pa_nil)) pe_int (nomark _))
        (pe_and (pe_call GW hr rfl D.mW D.FW.kp D.bW .nil pass0 (pa_cons (pe_ix ix_tup (pv 0) pe_int (fun _ _ => rfl)) pa_nil))
        (pe_one (pe_call GW hr rfl D.mW D.FW.kp D.bW .nil pass0 (pa_cons (pe_ix ix_tup (pv 0) pe_int (fun _ _ => rfl)) pa_nil)))))))), ?_⟩
    cases bad with
    | non =>
      refine ⟨_, rfl, _, _, _, _, false, rfl, .own C, .base .non, TX.kNC, false, rfl, ?_⟩
      refine iteF ?_
      refine ⟨_, rfl, _, _, _, _, false, rfl, .ty _, .base .non, kit_ty (by decide +kernel), false, rfl, ?_⟩
      exact iteF k
    | bl b =>
      refine ⟨_, rfl, _, _, _, _, false, rfl, .own C, .base (.bl b), TX.kBC, false, rfl, ?_⟩
      refine iteF ?_
      refine ⟨_, rfl, _, _, _, _, false, rfl, .ty _, .base (.bl b), kit_ty (by decide +kernel), false, rfl, ?_⟩
      exact iteF k
    | int i =>
      refine ⟨_, rfl, _, _, _, _, false, rfl, .own C, .base (.int i), TX.kIC, false, rfl, ?_⟩
      refine iteF ?_
      refine ⟨_, rfl, _, _, _, _, false, rfl, .ty _, .base (.int i), kit_ty (by decide +kernel), false, rfl, ?_⟩
      exact iteF k
    | str z =>
      refine ⟨_, rfl, _, _, _, _, false, rfl, .own C, .base (.str z), TX.kSC, false, rfl, ?_⟩
      refine iteF ?_
      refine ⟨_, rfl, _, _, _, _, false, rfl, .ty _, .base (.str z), kit_ty (by decide +kernel), false, rfl, ?_⟩
      exact iteF k
    | lst h =>
      refine ⟨_, rfl, _, _, _, _, false, rfl, .own C, .base (.lst h), TX.kLC, false, rfl, ?_⟩
      refine iteF ?_
      refine ⟨_, rfl, _, _, _, _, false, rfl, .ty _, .base (.lst h), kit_ty (by decide +kernel), false, rfl, ?_⟩
      exact iteF k
    | @tup a xs h n =>
      refine ⟨_, rfl, _, _, _, _, false, rfl, .own C, .base (.tup h), T.kTC, false, rfl, ?_⟩
      refine iteF ?_
      refine ⟨_, rfl, _, _, _, _, true, rfl, .ty _, .base (.tup h), kit_ty (by decide +kernel), true, rfl, ?_⟩
      refine iteT ?_
      refine ⟨_, rfl, a, _, rfl, .inr (SqT.of h), rfl, _, rfl, ?_⟩
      have e : decide (V.int (xs.length : Int) = V.int 2) = false := decide_eq_false (fun q => n (by injection q with q; omega))
      rw [e]
      exact iteF k
    | @two a u v h su sv n =>
      refine ⟨_, rfl, _, _, _, _, false, rfl, .own C, .base (.tup h), T.kTC, false, rfl, ?_⟩
      refine iteF ?_
      refine ⟨_, rfl, _, _, _, _, true, rfl, .ty _, .base (.tup h), kit_ty (by decide +kernel), true, rfl, ?_⟩
      refine iteT ?_
      refine ⟨_, rfl, a, _, rfl, .inr (SqT.of h), rfl, true, rfl, ?_⟩
      refine iteT ?_
      refine ⟨_, rfl, a, _, _, _, rfl, rfl, SqT.of h, atI_nat (j := 0) rfl, u, rfl, su, _, rfl, ?_⟩
      cases hw : wholeV u with
      | false => exact iteF k
      | true =>
        rw [hw, Bool.true_and] at n
        refine iteT ?_
        refine ⟨_, rfl, a, _, _, _, rfl, rfl, SqT.of h, atI_nat (j := 1) rfl, v, rfl, sv, ?_⟩
        rw [n]
        exact k
/-- Point(u, v) of two that are not both integers -/
theorem ok_initX (D : Defs K mg C fW fI fP fA fO fdW fdI fdP fdA fdO) (TX : TxtX P K mg C CI fII) : FnOk P w K mg base (L2.CX P w) 3 fI fdI ["self", "x", "y"] (spInitX C CI) := by
  have GW : FnOk P w K mg base CX0 1 fW fdW ["value"] spWholeX := ok_wholeX D.FW D.T
  refine D.FI.okX scInit (fun vs H Q E h => ?_) (fun cdv A outer s H vs Q E hr h => ?_)
  · obtain ⟨p, u, v, rfl, _⟩ := h
    rfl
  · obtain ⟨p, u, v, rfl, su, sv, n, k⟩ := h
    have hr1 : Room 1 _ := hr.mono (by decide)
    refine ⟨_, pss_cons (ps_if (PW.pt (pw_or (pt_not (pt_val (pe_call GW hr1 rfl D.mW D.FW.kp D.bW .nil pass0 (pa_cons (pv 1) pa_nil)))) (pw_or1 (pt_not (pt_val (pe_call GW hr1 rfl D.mW D.FW.kp D.bW .nil pass0 (pa_cons (pv 2) pa_nil)))))))
        (pss_one (ps_raise_thing (W := fun cls d _ H => E cls d H) rfl TX.xI TX.gI hr (takes_of rfl rfl rfl rfl) (pa_cons (pe_tup (pa_cons (pv 1) (pa_cons (pv 2) pa_nil))) pa_nil))) pss_nil)
      (pss_cons ps_never (pss_one ps_never)), ?_⟩
    have fin : ∀ (t : Addr), H t = none → ∀ d, (upd H t (.tup [u, v])) d = none → E (.ref CI) (some d) (upd (upd H t (.tup [u, v])) d (XD (.ref t))) := fun t nt d nd => by
      refine k t d _ ((same_new nt).trans (same_new nd)) ?_ upd_same
      exact same_new nd _ _ upd_same
    refine ⟨_, rfl, u, rfl, su, _, rfl, ?_⟩
    cases hw : wholeV u with
    | false =>
      refine iteT ?_
      refine iteT ?_
      exact ⟨_, rfl, _, rfl, (by show 2 ≤ sizeLine; decide), fun t nt => ⟨_, rfl, fun d nd => fin t nt d nd⟩⟩
    | true =>
      rw [hw, Bool.true_and] at n
      refine iteF ?_
      refine ⟨_, rfl, v, rfl, sv, _, rfl, ?_⟩
      rw [n]
      refine iteT ?_
      exact ⟨_, rfl, _, rfl, (by show 2 ≤ sizeLine; decide), fun t nt => ⟨_, rfl, fun d nd => fin t nt d nd⟩⟩
theorem ok_as_pointX (D : Defs K mg C fW fI fP fA fO fdW fdI fdP fdA fdO) (TX : TxtX P K mg C CI fII) : FnOk P w K mg base (L2.CX P w) 3 fA fdA ["thing"] (spBadX CI) := by
  have GP : FnOk P w K mg base CX0 2 fP fdP ["thing"] (spIsPointX C) := ok_is_pointX D TX
  refine D.FA.okX scAsPoint (fun vs H Q E h => ?_) (fun cdv A outer s H vs Q E hr h => ?_)
  · obtain ⟨v, rfl, _⟩ := h
    rfl
  · obtain ⟨v, rfl, bad, k⟩ := h
    refine ⟨_, pss_cons (ps_if (pt_not (pt_val (pe_call GP hr rfl D.mP D.FP.kp D.bP .nil pass0 (pa_cons (pv 0) pa_nil))))
        (pss_one (ps_raise_thing (W := fun cls d _ H => E cls d H) rfl TX.xI TX.gI hr (takes_of rfl rfl rfl rfl) (pa_cons (pv 0) pa_nil))) pss_nil)
      (pss_cons ps_never (pss_one ps_never)), ?_⟩
    refine ⟨_, rfl, v, rfl, bad, false, rfl, ?_⟩
    refine iteT ?_
    exact ⟨_, rfl, _, rfl, fun d nd => k d _ (same_new nd) upd_same⟩
end
end Fo

set_option Elab.async false
set_option linter.all false
set_option maxRecDepth 100000
set_option maxHeartbeats 2000000
namespace Fo
open PySem L2
/-! ### the law's own helpers: the pool and its draws -/
abbrev sHand : Stmt := top 23
abbrev sDraw : Stmt := top 24
/-- what stands but at p stands -/
def But (p : Addr) (H H' : Hp) : Prop := ∀ b o, b ≠ p → H b = some o → H' b = some o
theorem But.refl (p : Addr) (H : Hp) : But p H H := fun _ _ _ h => h
theorem But.trans {p : Addr} {H H1 H2 : Hp} (a : But p H H1) (b : But p H1 H2) : But p H H2 := fun c o n h => b c o n (a c o n h)
theorem But.upd {p : Addr} {H : Hp} {o : HO} : But p H (upd H p o) := fun b u n h => by
  rw [upd_ne n]
  exact h
theorem But.of {p : Addr} {H H' : Hp} (e : Same H H') : But p H H' := fun b o _ h => e b o h
/-- from a heap that does not know p -/
theorem But.same {p : Addr} {H0 H H' : Hp} (h0 : H0 p = none) (e : Same H0 H) (b : But p H H') : Same H0 H' := fun c o h => b c o (ne_of_none h h0) (e c o h)
def PoolAt (p : Addr) (H : Hp) : Prop := ∃ i j : Int, H p = some (.lst [.int i, .int j]) ∧ 0 ≤ i ∧ 0 ≤ j ∧ j < 2147483647
theorem PoolAt.ex {p : Addr} {H H' : Hp} (e : Same H H') (h : PoolAt p H) : PoolAt p H' := by
  obtain ⟨i, j, h, r⟩ := h
  exact ⟨i, j, e _ _ h, r⟩
def spHand (K : PySem.W.Frag) : Sp := fun vs H Q _ => ∃ (a : Addr) (ns : List Int) (k : Int), vs = [.ref a, .int k] ∧ SqL K H a (ns.map V.int) ∧ ns.length ≤ 63 ∧ 0 ≤ k ∧ k ≤ 100 ∧
  ∀ p H', H p = none → Same H H' → PoolAt p H' → Q (.ref p) H'
def spDraw : Sp := fun vs H Q _ => ∃ (p : Addr) (m : Int), vs = [.ref p, .int m] ∧ PoolAt p H ∧ 0 < m ∧ m < 1073741824 ∧
  ∀ r H', 0 ≤ r → r < m → But p H H' → PoolAt p H' → Q (.int r) H'
structure TxtL (mg : Str → Option Value) : Prop where
  int : mg "int" = none
  range : mg "range" = none
  max : mg "max" = none
  min : mg "min" = none
  len : mg "len" = none
theorem head_int {ns : List Int} {lo hi : Option Int} : ∃ c : Int, atI (cutV (ns.map V.int) lo hi ++ [V.int 0]) 0 = some (V.int c) := by
  have e : cutV (ns.map V.int) lo hi = ((ns.drop (HT.sIx (ns.map V.int).length 0 lo)).take (HT.sIx (ns.map V.int).length (ns.map V.int).length hi - HT.sIx (ns.map V.int).length 0 lo)).map V.int := by
    unfold cutV
    rw [← List.map_drop, ← List.map_take]
  rw [e]
  cases (ns.drop (HT.sIx (ns.map V.int).length 0 lo)).take (HT.sIx (ns.map V.int).length (ns.map V.int).length hi - HT.sIx (ns.map V.int).length 0 lo) with
  | nil => exact ⟨0, atI_nat (j := 0) rfl⟩
  | cons c r => exact ⟨c, atI_nat (j := 0) rfl⟩
section
variable {P : Program} {w : World} {K : PySem.W.Frag} {mg : Str → Option Value} {base : Heap}
theorem scHand : FnScope ["script", "k", "cell", "seed"] ["script", "k"] (defScope sHand) := ⟨rfl, rfl, rfl, by decide +kernel, rfl, by decide +kernel, by decide +kernel⟩
theorem ok_hand {f : Addr} {fd : FuncData} (F : Fun K "_law_hand" "_law_hand" sHand f fd) (T : TxtL mg) : FnOk P w K mg base CX0 1 f fd ["script", "k"] (spHand K) := by
  refine F.ok scHand (fun vs H Q E h => ?_) (fun cdv A outer s H vs Q E hr h => ?_)
  · obtain ⟨a, ns, k, rfl, _⟩ := h
    rfl
  · obtain ⟨a, ns, k, rfl, hS, hl, k0, k1, q⟩ := h
    refine ⟨_, pss_cons (ps_set (i := 2) scHand.nd rfl (Or.inl rfl) (pe_ix ix_list (pe_op op_cat (pe_slice sl_list (pv 0) (po_some (pv 1)) (po_some (pe_op op_add (pv 1) pe_int))) (pe_lst (pa_cons pe_int pa_nil))) pe_int (fun _ _ => rfl)))
      (pss_cons (ps_set (i := 3) scHand.nd rfl (Or.inl rfl) (pe_op op_mod (pe_op op_mul (pe_op op_add (pe_op op_add (pe_op op_mod (pe_callTy call_int1 (by rfl) T.int (by decide +kernel) (pa_cons (pv 2) pa_nil)) pe_int) (pe_op op_mul pe_int (pv 1))) pe_int) pe_int) pe_int))
      (pss_one (ps_ret (pe_lst (pa_cons (pe_op op_mul (pe_callTy call_int1 (by rfl) T.int (by decide +kernel) (pa_cons (pe_cmpR op_ge (pv 2) (pe_op op_pow pe_int pe_int) (nomark _)) pa_nil)) (pv 2)) (pa_cons (pv 3) pa_nil)))))), ?_⟩
    obtain ⟨c, hc⟩ := head_int (ns := ns) (lo := some k) (hi := some (k + 1))
    -- cell
    refine ⟨_, rfl, _, rfl, _, rfl, _, rfl, _, _, rfl, rfl, _, rfl, a, _, rfl, hS, fun p1 n1 => ?_⟩
    refine ⟨(by show 1 ≤ sizeLine; decide), fun p2 n2 => ?_⟩
    have ne12 : p1 ≠ p2 := fun q => by rw [← q, upd_same] at n2; cases n2
    refine ⟨p1, p2, _, _, rfl, rfl, (by rw [upd_ne ne12, upd_same]), upd_same, ?_, fun p3 n3 => ?_⟩
    · have := cutV_length (ns.map V.int) (some k) (some (k + 1))
      rw [List.length_map] at this
      show _ + 1 ≤ sizeLine
      exact Nat.le_trans (Nat.add_le_add_right this 1) (Nat.le_trans (Nat.add_le_add_right hl 1) (by decide))
    refine ⟨p3, _, _, _, rfl, rfl, SqL.of upd_same, hc, ?_⟩
    have e1 : Same H (upd H p1 (.lst (cutV (ns.map V.int) (some k) (some (k + 1))))) := same_new n1
    have e2 := e1.trans (same_new (o := .lst [V.int 0]) n2)
    have e3 := e2.trans (same_new (o := .lst (cutV (ns.map V.int) (some k) (some (k + 1)) ++ [V.int 0])) n3)
    -- seed
    refine ⟨_, rfl, .inl ⟨_, rfl, ?_⟩⟩
    refine ⟨_, _, rfl, rfl, (by show (0 : Int) < 2147483647; decide), _, rfl, _, _, rfl, rfl, .inl ⟨by decide, by decide⟩, _, _, rfl, rfl, _, _, rfl, rfl, _, _, rfl, rfl, .inr ⟨by decide, by decide⟩, _, _, rfl, rfl, (by show (0 : Int) < 2147483629; decide), ?_⟩
    -- the list
    refine ⟨_, rfl, _, _, rfl, rfl, ⟨by decide, by decide, by decide⟩, _, _, rfl, rfl, .inr ⟨_, rfl, ?_⟩⟩
    refine ⟨_, rfl, _, _, rfl, rfl, .inl ?_, _, rfl, (by show 2 ≤ sizeLine; decide), fun p4 n4 => ?_⟩
    · split <;> exact ⟨by decide, by decide⟩
    · refine q p4 _ (Same.free e3 n4) (e3.trans (same_new n4)) ⟨_, _, upd_same, ?_, ?_, ?_⟩
      · by_cases hb : (10 : Int) ^ (18 : Int).toNat ≤ c
        · have h0 : (0 : Int) ≤ (10 : Int) ^ (18 : Int).toNat := by decide
          rw [decide_eq_true hb]
          show 0 ≤ 1 * c
          omega
        · rw [decide_eq_false hb]
          show 0 ≤ 0 * c
          omega
      · exact Int.emod_nonneg _ (by decide)
      · exact Int.lt_trans (Int.emod_lt_of_pos _ (by decide)) (by decide)
theorem scDraw : FnScope ["pool", "many", "found"] ["pool", "many"] (defScope sDraw) := ⟨rfl, rfl, rfl, by decide +kernel, rfl, by decide +kernel, by decide +kernel⟩
theorem ok_draw {f : Addr} {fd : FuncData} (F : Fun K "_law_draw" "_law_draw" sDraw f fd) (T : TxtL mg) : FnOk P w K mg base CX0 1 f fd ["pool", "many"] spDraw := by
  refine F.ok scDraw (fun vs H Q E h => ?_) (fun cdv A outer s H vs Q E hr h => ?_)
  · obtain ⟨p, m, rfl, _⟩ := h
    rfl
  · obtain ⟨p, m, rfl, ⟨i, j, hp, i0, j0, j1⟩, m0, m1, q⟩ := h
    refine ⟨_, pss_cons (ps_if (pt_cmpR op_gt (pe_ix ix_list (pv 0) pe_int (fun _ _ => rfl)) pe_int (nomark _))
        (pss_cons (ps_set (i := 2) scDraw.nd rfl (Or.inl rfl) (pe_op op_mod (pe_callTy call_int1 (by rfl) T.int (by decide +kernel) (pa_cons (pe_ix ix_list (pv 0) pe_int (fun _ _ => rfl)) pa_nil)) (pv 1)))
        (pss_cons (ps_asg (pe_op op_fdiv (pe_ix ix_list (pv 0) pe_int (fun _ _ => rfl)) (pv 1)) (pg_sub (pv 0) pe_int set_list))
        (pss_one (ps_ret (pv 2))))) pss_nil)
      (pss_cons (ps_asg (pe_op op_mod (pe_callTy call_int1 (by rfl) T.int (by decide +kernel) (pa_cons (pe_op op_add (pe_op op_mul (pe_ix ix_list (pv 0) pe_int (fun _ _ => rfl)) pe_int) pe_int) pa_nil)) pe_int) (pg_sub (pv 0) pe_int set_list))
      (pss_one (ps_ret (pe_op op_mod (pe_op op_fdiv (pe_op op_mod (pe_callTy call_int1 (by rfl) T.int (by decide +kernel) (pa_cons (pe_op op_mul (pe_ix ix_list (pv 0) pe_int (fun _ _ => rfl)) (pe_ix ix_list (pv 0) pe_int (fun _ _ => rfl))) pa_nil)) pe_int) pe_int) (pv 1))))), ?_⟩
    refine ⟨_, rfl, p, _, _, _, rfl, rfl, SqL.of hp, atI_nat (j := 0) rfl, _, _, rfl, rfl, _, rfl, ?_⟩
    refine ite2 (fun hi => ?_) (fun hi => ?_)
    · refine ⟨_, rfl, p, _, _, _, rfl, rfl, SqL.of hp, atI_nat (j := 0) rfl, .inl ⟨_, rfl, ?_⟩⟩
      refine ⟨_, rfl, _, _, rfl, rfl, m0, ?_⟩
      refine ⟨_, rfl, p, _, _, _, rfl, rfl, SqL.of hp, atI_nat (j := 0) rfl, _, rfl, _, _, rfl, rfl, ⟨m0, m1⟩, ?_⟩
      refine ⟨_, rfl, p, _, _, 0, rfl, rfl, hp, rfl, ?_⟩
      refine ⟨_, rfl, ?_⟩
      refine q _ _ (Int.emod_nonneg _ (by omega)) (Int.emod_lt_of_pos _ m0) But.upd ⟨_, _, upd_same, Int.ediv_nonneg i0 (by omega), j0, j1⟩
    · refine ⟨_, rfl, p, _, _, _, rfl, rfl, SqL.of hp, atI_nat (j := 1) rfl, _, _, rfl, rfl, .inr ⟨by decide, by decide⟩, _, _, rfl, rfl, .inl ⟨_, rfl, ?_⟩⟩
      refine ⟨_, _, rfl, rfl, (by show (0 : Int) < 2147483647; decide), ?_⟩
      refine ⟨_, rfl, p, _, _, 1, rfl, rfl, hp, rfl, ?_⟩
      have a0 : (0 : Int) ≤ (j * 48271 + 11) % 2147483647 := Int.emod_nonneg _ (by decide)
      have a1 : (j * 48271 + 11) % 2147483647 < (2147483647 : Int) := Int.emod_lt_of_pos _ (by decide)
      refine ⟨_, rfl, p, _, _, _, rfl, rfl, SqL.of upd_same, atI_nat (j := 1) rfl, _, rfl, p, _, _, _, rfl, rfl, SqL.of upd_same, atI_nat (j := 1) rfl, _, _, rfl, rfl, .inl ⟨by omega, by omega⟩, .inl ⟨_, rfl, ?_⟩⟩
      refine ⟨_, _, rfl, rfl, (by show (0 : Int) < 2147483629; decide), _, _, rfl, rfl, ⟨by decide, by decide⟩, _, rfl, _, _, rfl, rfl, m0, ?_⟩
      exact q _ _ (Int.emod_nonneg _ (by omega)) (Int.emod_lt_of_pos _ m0) But.upd ⟨_, _, upd_same, i0, a0, a1⟩
end
end Fo

set_option Elab.async false
set_option linter.all false
set_option maxRecDepth 100000
set_option maxHeartbeats 2000000
namespace Fo
open PySem L2
/-! ### filledonce.directions -/
abbrev sSign : Stmt := top 7
abbrev sGcd : Stmt := top 8
abbrev sAsDir : Stmt := top 16
abbrev sKind : Stmt := top 17
abbrev sLow : Stmt := top 18
abbrev sBefore : Stmt := top 21
abbrev sPlace : Stmt := top 20
abbrev sSorted : Stmt := top 19
def sgn (i : Int) : Int := if 0 < i then 1 else if i < 0 then -1 else 0
def spSign : Sp := fun vs H Q _ => ∃ i : Int, vs = [.int i] ∧ Q (.int (sgn i)) H
def spGcd : Sp := fun vs H Q _ => ∃ a b : Int, vs = [.int a, .int b] ∧ Q (.int (Int.gcd a b : Int)) H
def spAsDir (C : Addr) : Sp := fun vs H Q _ => ∃ (v : V) (x y : Int), vs = [v] ∧ IsPt C v x y H ∧ Dir (x, y) ∧ ∀ w H', Same H H' → IsP C w x y H' → (IsP C v x y H → w = v) → Q w H'
def spKind (C : Addr) : Sp := fun vs H Q _ => ∃ (v : V) (x y : Int), vs = [v] ∧ IsPt C v x y H ∧ Dir (x, y) ∧ ∀ H', Same H H' → Q (.int (kd (x, y) : Int)) H'
def spLow (C : Addr) : Sp := fun vs H Q _ => ∃ (n : Nat) (v : V) (x y : Int), vs = [v] ∧ IsPt C v x y H ∧ Dir (x, y) ∧ 0 < n ∧ n ≤ 1000 ∧ Sm n x ∧ Sm n y ∧ ∀ w H', Same H H' → IsP C w (low (x, y)).1 (low (x, y)).2 H' → Q w H'
def spBefore (C : Addr) : Sp := fun vs H Q _ => ∃ (n : Nat) (v u : V) (x y z t : Int), vs = [v, u] ∧ IsP C v x y H ∧ IsP C u z t H ∧ Dir (x, y) ∧ Dir (z, t) ∧ 0 < n ∧ n ≤ 1000 ∧ Sm n x ∧ Sm n y ∧ Sm n z ∧ Sm n t ∧ ∀ H', Same H H' → Q (.bl (bef (x, y) (z, t))) H'
/-- the eight pairs of signs, as data -/
def sgD : List PyData := [.tuple [.int 1, .int 0], .tuple [.int 1, .int 1], .tuple [.int 0, .int 1], .tuple [.int (-1), .int 1], .tuple [.int (-1), .int 0], .tuple [.int (-1), .int (-1)], .tuple [.int 0, .int (-1)], .tuple [.int 1, .int (-1)]]
/-- SIGNS as it stands -/
structure SignsAt (K : PySem.W.Frag) (mg : Str → Option Value) (a : Addr) : Prop where
  mg : mg "SIGNS" = some (.ref a)
  ty : ∃ o, K.lookup a = some o ∧ o.cls = .type "tuple" ∧ o.dict = none
  dp : ∀ H : Hp, Dp K H (.ref a) (.tuple sgD)
theorem sg_shaped : SeqAt.shaped (.tuple sgD) = true := by decide +kernel
theorem sg1_shaped (i j : Int) : SeqAt.shaped (.tuple [.int i, .int j]) = true := rfl
theorem kd_index {a : Int × Int} (h : Dir a) : sgD[kd a]? = some (.tuple [.int (sgn a.1), .int (sgn a.2)]) ∧
    ∀ (m : Nat) (z : PyData), m < kd a → sgD[m]? = some z → PyData.eqv z (.tuple [.int (sgn a.1), .int (sgn a.2)]) = false := by
  obtain ⟨x, y⟩ := a
  have hx : sgn x = 1 ∨ sgn x = 0 ∨ sgn x = -1 := by
    unfold sgn
    repeat' split
    all_goals omega
  have hy : sgn y = 1 ∨ sgn y = 0 ∨ sgn y = -1 := by
    unfold sgn
    repeat' split
    all_goals omega
  have hk : (sgn x = 1 → sgn y = 0 → kd (x, y) = 0) ∧ (sgn x = 1 → sgn y = 1 → kd (x, y) = 1) ∧ (sgn x = 0 → sgn y = 1 → kd (x, y) = 2) ∧ (sgn x = -1 → sgn y = 1 → kd (x, y) = 3) ∧ (sgn x = -1 → sgn y = 0 → kd (x, y) = 4) ∧
      (sgn x = -1 → sgn y = -1 → kd (x, y) = 5) ∧ (sgn x = 0 → sgn y = -1 → kd (x, y) = 6) ∧ (sgn x = 1 → sgn y = -1 → kd (x, y) = 7) ∧ ¬ (sgn x = 0 ∧ sgn y = 0) := by
    unfold sgn kd Dir at *
    simp only at *
    repeat' split
    all_goals omega
  obtain ⟨k0, k1, k2, k3, k4, k5, k6, k7, k8⟩ := hk
  rcases hx with hx | hx | hx <;> rcases hy with hy | hy | hy <;> simp only [hx, hy] at *
  · rw [k1 trivial trivial]
    refine ⟨rfl, fun m z hm hz => ?_⟩
    have : m = 0 := by omega
    subst this
    cases hz
    decide +kernel
  · rw [k0 trivial trivial]
    exact ⟨rfl, fun m z hm hz => absurd hm (Nat.not_lt_zero _)⟩
  · rw [k7 trivial trivial]
    refine ⟨rfl, fun m z hm hz => ?_⟩
    have : m = 0 ∨ m = 1 ∨ m = 2 ∨ m = 3 ∨ m = 4 ∨ m = 5 ∨ m = 6 := by omega
    rcases this with rfl | rfl | rfl | rfl | rfl | rfl | rfl <;> (cases hz; decide +kernel)
  · rw [k2 trivial trivial]
    refine ⟨rfl, fun m z hm hz => ?_⟩
    have : m = 0 ∨ m = 1 := by omega
    rcases this with rfl | rfl <;> (cases hz; decide +kernel)
  · exact absurd ⟨trivial, trivial⟩ k8
  · rw [k6 trivial trivial]
    refine ⟨rfl, fun m z hm hz => ?_⟩
    have : m = 0 ∨ m = 1 ∨ m = 2 ∨ m = 3 ∨ m = 4 ∨ m = 5 := by omega
    rcases this with rfl | rfl | rfl | rfl | rfl | rfl <;> (cases hz; decide +kernel)
  · rw [k3 trivial trivial]
    refine ⟨rfl, fun m z hm hz => ?_⟩
    have : m = 0 ∨ m = 1 ∨ m = 2 := by omega
    rcases this with rfl | rfl | rfl <;> (cases hz; decide +kernel)
  · rw [k4 trivial trivial]
    refine ⟨rfl, fun m z hm hz => ?_⟩
    have : m = 0 ∨ m = 1 ∨ m = 2 ∨ m = 3 := by omega
    rcases this with rfl | rfl | rfl | rfl <;> (cases hz; decide +kernel)
  · rw [k5 trivial trivial]
    refine ⟨rfl, fun m z hm hz => ?_⟩
    have : m = 0 ∨ m = 1 ∨ m = 2 ∨ m = 3 ∨ m = 4 := by omega
    rcases this with rfl | rfl | rfl | rfl | rfl <;> (cases hz; decide +kernel)
theorem eqv_self (i j : Int) : PyData.eqv (.tuple [.int i, .int j]) (.tuple [.int i, .int j]) = true := SeqAt.eqv_refl _ rfl
section
variable {P : Program} {w : World} {K : PySem.W.Frag} {mg : Str → Option Value} {base : Heap}
theorem scSign : FnScope ["number"] ["number"] (defScope sSign) := ⟨rfl, rfl, rfl, by decide +kernel, rfl, by decide +kernel, by decide +kernel⟩
theorem ok_sign {f : Addr} {fd : FuncData} (F : Fun K "sign" "sign" sSign f fd) : FnOk P w K mg base CX0 1 f fd ["number"] spSign := by
  refine F.ok scSign (fun vs H Q E h => ?_) (fun cdv A outer s H vs Q E hr h => ?_)
  · obtain ⟨i, rfl, _⟩ := h
    rfl
  · obtain ⟨i, rfl, k⟩ := h
    refine ⟨_, pss_cons (ps_if (pt_cmpR op_gt (pv 0) pe_int (nomark _)) (pss_one (ps_ret pe_int)) pss_nil) (pss_cons (ps_if (pt_cmpR op_lt (pv 0) pe_int (nomark _)) (pss_one (ps_ret (pe_un un_neg pe_int))) pss_nil) (pss_one (ps_ret pe_int))), ?_⟩
    unfold sgn at k
    refine ⟨_, rfl, _, _, rfl, rfl, _, rfl, ite2 (fun h1 => ?_) (fun h1 => ?_)⟩
    · have h1 : 0 < i := of_decide_eq_true h1
      rw [if_pos h1] at k
      exact k
    · have h1 : ¬ 0 < i := fun z => h1 (decide_eq_true z)
      rw [if_neg h1] at k
      refine ⟨_, rfl, _, _, rfl, rfl, _, rfl, ite2 (fun h2 => ?_) (fun h2 => ?_)⟩
      · have h2 : i < 0 := of_decide_eq_true h2
        rw [if_pos h2] at k
        exact ⟨_, rfl, k⟩
      · have h2 : ¬ i < 0 := fun z => h2 (decide_eq_true z)
        rw [if_neg h2] at k
        exact k
theorem scGcd : FnScope ["one", "other", "kept", "rest"] ["one", "other"] (defScope sGcd) := ⟨rfl, rfl, rfl, by decide +kernel, rfl, by decide +kernel, by decide +kernel⟩
theorem ok_gcd {f : Addr} {fd : FuncData} (F : Fun K "common_divisor" "common_divisor" sGcd f fd) (zA : mg "abs" = none) : FnOk P w K mg base CX0 1 f fd ["one", "other"] spGcd := by
  refine F.ok scGcd (fun vs H Q E h => ?_) (fun cdv A outer s H vs Q E hr h => ?_)
  · obtain ⟨a, b, rfl, _⟩ := h
    rfl
  · obtain ⟨a, b, rfl, k⟩ := h
    refine ⟨_, pss_cons (ps_set (i := 2) scGcd.nd rfl (Or.inl rfl) (pe_callB call_abs (by rfl) zA (by decide +kernel) (pa_cons (pv 0) pa_nil)))
      (pss_cons (ps_set (i := 3) scGcd.nd rfl (Or.inl rfl) (pe_callB call_abs (by rfl) zA (by decide +kernel) (pa_cons (pv 1) pa_nil)))
      (pss_cons (ps_while PassesOwn.never (pt_cmpR op_gt (pv 3) pe_int (nomark _)) (pss_one (ps_par (i := 2) (j := 3) (by rfl) scGcd.nd rfl rfl (by decide) rfl rfl (pa_cons (pv 3) (pa_cons (pe_op op_mod (pv 2) (pv 3)) pa_nil)) (by rfl))))
      (pss_one (ps_ret (pv 2))))), ?_⟩
    refine ⟨_, rfl, _, rfl, _, rfl, _, rfl, ?_⟩
    have ab : ∀ z : Int, (if z < 0 then -z else z) = (z.natAbs : Int) := fun z => by
      split <;> omega
    rw [ab a, ab b]
    refine ⟨fun m σ H' => ∃ p r : Nat, σ = [some (.int a), some (.int b), some (.int (p : Int)), some (.int (r : Int))] ∧ H' = H ∧ Nat.gcd p r = Int.gcd a b ∧ m = r, ⟨b.natAbs, a.natAbs, b.natAbs, rfl, rfl, rfl, rfl⟩, ?_⟩
    rintro m σ H' ⟨p, r, rfl, rfl, hg, rfl⟩
    refine ⟨_, rfl, _, _, rfl, rfl, _, rfl, ?_⟩
    by_cases h0 : (0 : Int) < (m : Int)
    · rw [decide_eq_true h0]
      refine iteT ?_
      refine ⟨fun σ' H2 => ∃ p' r' : Nat, σ' = [some (.int a), some (.int b), some (.int (p' : Int)), some (.int (r' : Int))] ∧ H2 = H' ∧ Nat.gcd p' r' = Int.gcd a b ∧ r' < m, ?_, ?_⟩
      · rintro σ' H'' ⟨p', r', rfl, rfl, hg', hl⟩
        exact ⟨r', hl, p', r', rfl, rfl, hg', rfl⟩
      · refine ⟨_, rfl, _, rfl, _, rfl, _, _, rfl, rfl, h0, _, _, rfl, ?_⟩
        refine ⟨m, p % m, ?_, rfl, ?_, Nat.mod_lt _ (by omega)⟩
        · rw [Int.natCast_emod]
          rfl
        · rw [← hg, Nat.gcd_comm p m, Nat.gcd_rec m p, Nat.gcd_comm]
    · rw [decide_eq_false h0]
      refine iteF ?_
      have m0 : m = 0 := by omega
      subst m0
      rw [Nat.gcd_zero_right] at hg
      refine ⟨_, rfl, ?_⟩
      rw [hg]
      exact k
variable {C fW fI fP fA fO : Addr} {fdW fdI fdP fdA fdO : FuncData}
theorem scAsDir : FnScope ["thing", "way"] ["thing"] (defScope sAsDir) := ⟨rfl, rfl, rfl, by decide +kernel, rfl, by decide +kernel, by decide +kernel⟩
theorem ok_as_dir {f : Addr} {fd : FuncData} (F : Fun K "as_direction" "as_direction" sAsDir f fd) (D : Defs K mg C fW fI fP fA fO fdW fdI fdP fdA fdO) : FnOk P w K mg base CX0 5 f fd ["thing"] (spAsDir C) := by
  have GA : FnOk P w K mg base CX0 4 fA fdA ["thing"] (spAsPoint C) := D.GA
  have T := D.T
  refine F.ok scAsDir (fun vs H Q E h => ?_) (fun cdv A outer s H vs Q E hr h => ?_)
  · obtain ⟨v, x, y, rfl, _⟩ := h
    rfl
  · obtain ⟨v, x, y, rfl, hv, hd, k⟩ := h
    refine ⟨_, pss_cons (ps_set (i := 1) scAsDir.nd rfl (Or.inl rfl) (pe_call GA hr rfl D.mA D.FA.kp D.bA .nil pass0 (pa_cons (pv 0) pa_nil)))
      (pss_cons (ps_if (PW.pt (pw_and (pt_cmpR op_eq (pe_fld (pv 1) rfl) pe_int (nomark _)) (pw_and1 (pt_cmpR op_eq (pe_fld (pv 1) rfl) pe_int (nomark _))))) (pss_one ps_never) pss_nil)
      (pss_one (ps_ret (pv 1)))), ?_⟩
    refine ⟨_, rfl, v, x, y, rfl, hv, fun w H' e hw hid => ?_⟩
    obtain ⟨b, dy, rfl, hb⟩ := id hw
    refine ⟨_, rfl, b, C, dy, _, _, rfl, hb, T.cl, T.nX, ptF_x _ _, rfl, _, rfl, ?_⟩
    have ni : ∀ i : Int, i ≠ 0 → decide (V.int i = V.int 0) = false := fun i hi => decide_eq_false (fun q => hi (by cases q; rfl))
    by_cases hx : x = 0
    · have hy : y ≠ 0 := by
        rcases hd with h | h
        · exact absurd hx h
        · exact h
      subst hx
      rw [decide_eq_true rfl]
      refine iteT ?_
      refine ⟨_, rfl, b, C, dy, _, _, rfl, hb, T.cl, T.nY, ptF_y _ _, rfl, _, rfl, ?_⟩
      rw [ni y hy]
      refine iteF ?_
      exact ⟨_, rfl, k _ H' e hw hid⟩
    · rw [ni x hx]
      refine iteF ?_
      refine iteF ?_
      exact ⟨_, rfl, k _ H' e hw hid⟩
end
end Fo

set_option Elab.async false
set_option linter.all false
set_option maxRecDepth 100000
set_option maxHeartbeats 2000000
namespace Fo
open PySem L2
theorem u65 {k : Nat} {A : Around} (r : Room k A) : A.units + 65 < cLine := by
  have := r.un
  omega
/-- what the order needs: points of the heap with their numbers -/
abbrev Ent := Addr × (Int × Int)
def Ents (C : Addr) (n : Nat) (es : List Ent) (H : Hp) : Prop := ∀ e ∈ es, IsP C (.ref e.1) e.2.1 e.2.2 H ∧ Dir e.2 ∧ Sm n e.2.1 ∧ Sm n e.2.2
theorem Ents.ex {C : Addr} {n : Nat} {es : List Ent} {H H' : Hp} (e : Same H H') (h : Ents C n es H) : Ents C n es H' := fun x hx => ⟨(h x hx).1.ex e, (h x hx).2⟩
theorem Ents.dirs {C : Addr} {n : Nat} {es : List Ent} {H : Hp} (h : Ents C n es H) : Dirs Prod.snd es := fun x hx => (h x hx).2.1
theorem IsP.but {C : Addr} {v : V} {x y : Int} {D : Addr} {xs : List V} {H H' : Hp} (hD : H D = some (.lst xs)) (b : But D H H') (h : IsP C v x y H) : IsP C v x y H' := by
  obtain ⟨a, dx, rfl, h⟩ := h
  exact ⟨a, dx, rfl, b _ _ (ne_of h hD (by intro z; cases z)) h⟩
theorem IsPt.but {C : Addr} {v : V} {x y : Int} {D : Addr} {xs : List V} {H H' : Hp} (hD : H D = some (.lst xs)) (b : But D H H') (h : IsPt C v x y H) : IsPt C v x y H' := by
  obtain ⟨a, rfl, h⟩ := h
  rcases h with ⟨dx, h⟩ | h
  · exact ⟨a, rfl, .inl ⟨dx, b _ _ (ne_of h hD (by intro z; cases z)) h⟩⟩
  · exact ⟨a, rfl, .inr (b _ _ (ne_of h hD (by intro z; cases z)) h)⟩
theorem Ents.but {C : Addr} {n : Nat} {es : List Ent} {D : Addr} {xs : List V} {H H' : Hp} (hD : H D = some (.lst xs)) (b : But D H H') (h : Ents C n es H) : Ents C n es H' := fun x hx => ⟨(h x hx).1.but hD b, (h x hx).2⟩
def refs (es : List Ent) : List V := es.map fun e => V.ref e.1
def spPlace (C : Addr) : Sp := fun vs H Q _ => ∃ (n : Nat) (v : V) (x y : Int) (l : Addr) (es : List Ent), vs = [v, .ref l] ∧ IsP C v x y H ∧ Dir (x, y) ∧ Sm n x ∧ Sm n y ∧ 0 < n ∧ n ≤ 1000 ∧ H l = some (.lst (refs es)) ∧ es.length ≤ 1000 ∧ Ents C n es H ∧ Srt Prod.snd es ∧
  ∀ (i : Nat) H', Same H H' → i ≤ es.length → (∀ j (h : j < es.length), j < i → bef (x, y) es[j].2 = false) → (∀ j (h : j < es.length), i ≤ j → bef (x, y) es[j].2 = true) → Q (.int (i : Int)) H'
/-- the list that is asked: each its numbers -/
def Asked (C : Addr) (n : Nat) (xs : List V) (ps : List (Int × Int)) (H : Hp) : Prop := xs.length = ps.length ∧ ∀ (i : Nat) x p, xs[i]? = some x → ps[i]? = some p → IsPt C x p.1 p.2 H ∧ Dir p ∧ Sm n p.1 ∧ Sm n p.2
def spSorted (C : Addr) (K : PySem.W.Frag) : Sp := fun vs H Q _ => ∃ (n : Nat) (l : Addr) (xs : List V) (ps : List (Int × Int)), vs = [.ref l] ∧ SqL K H l xs ∧ xs.length ≤ 1000 ∧ 0 < n ∧ n ≤ 1000 ∧ Asked C n xs ps H ∧
  ∀ D H' (es : List Ent), H D = none → Same H H' → H' D = some (.lst (refs (sortB Prod.snd es))) → Ents C n es H' → es.map Prod.snd = ps →
    (∀ (i : Nat) x e, xs[i]? = some x → es[i]? = some e → IsP C x e.2.1 e.2.2 H → V.ref e.1 = x) → Q (.ref D) H'
section
variable {P : Program} {w : World} {K : PySem.W.Frag} {mg : Str → Option Value} {base : Heap} {C fW fI fP fA fO : Addr} {fdW fdI fdP fdA fdO : FuncData}
/-- the defs of directions, as they stand -/
structure DDefs (K : PySem.W.Frag) (mg : Str → Option Value) (C aS fSg fG fDr fK fL fX fB fPl : Addr) (fdSg fdG fdDr fdK fdL fdX fdB fdPl : FuncData) : Prop where
  S : SignsAt K mg aS
  zA : mg "abs" = none
  FSg : Fun K "sign" "sign" sSign fSg fdSg
  bSg : Binds K fdSg ["number"] []
  mSg : mg "sign" = some (.ref fSg)
  FG : Fun K "common_divisor" "common_divisor" sGcd fG fdG
  bG : Binds K fdG ["one", "other"] []
  mG : mg "common_divisor" = some (.ref fG)
  FDr : Fun K "as_direction" "as_direction" sAsDir fDr fdDr
  bDr : Binds K fdDr ["thing"] []
  mDr : mg "as_direction" = some (.ref fDr)
  FK : Fun K "kind_of" "kind_of" sKind fK fdK
  bK : Binds K fdK ["direction"] []
  mK : mg "kind_of" = some (.ref fK)
  FL : Fun K "lowest" "lowest" sLow fL fdL
  bL : Binds K fdL ["direction"] []
  mL : mg "lowest" = some (.ref fL)
  FX : Fun K "cross" "Point.cross" sCross fX fdX
  bX : Binds K fdX ["self", "other"] []
  mX : Meth K C "cross" fX
  FB : Fun K "comes_before" "comes_before" sBefore fB fdB
  bB : Binds K fdB ["way", "other"] []
  mB : mg "comes_before" = some (.ref fB)
  FPl : Fun K "place_for" "place_for" sPlace fPl fdPl
  bPl : Binds K fdPl ["way", "placed"] []
  mPl : mg "place_for" = some (.ref fPl)
variable {aS fSg fG fDr fK fL fX fB fPl : Addr} {fdSg fdG fdDr fdK fdL fdX fdB fdPl : FuncData}
theorem scKind : FnScope ["direction", "way"] ["direction"] (defScope sKind) := ⟨rfl, rfl, rfl, by decide +kernel, rfl, by decide +kernel, by decide +kernel⟩
theorem DDefs.GK (d : DDefs K mg C aS fSg fG fDr fK fL fX fB fPl fdSg fdG fdDr fdK fdL fdX fdB fdPl) (D : Defs K mg C fW fI fP fA fO fdW fdI fdP fdA fdO) : FnOk P w K mg base CX0 6 fK fdK ["direction"] (spKind C) := by
  have GD : FnOk P w K mg base CX0 5 fDr fdDr ["thing"] (spAsDir C) := ok_as_dir d.FDr D
  have GS : FnOk P w K mg base CX0 1 fSg fdSg ["number"] spSign := ok_sign d.FSg
  have T := D.T
  refine d.FK.ok scKind (fun vs H Q E h => ?_) (fun cdv A outer s H vs Q E hr h => ?_)
  · obtain ⟨v, x, y, rfl, _⟩ := h
    rfl
  · obtain ⟨v, x, y, rfl, hv, hd, k⟩ := h
    have hr1 : Room 1 _ := hr.mono (by decide)
    refine ⟨_, pss_cons (ps_set (i := 1) scKind.nd rfl (Or.inl rfl) (pe_call GD hr rfl d.mDr d.FDr.kp d.bDr .nil pass0 (pa_cons (pv 0) pa_nil)))
      (pss_one (ps_ret (pe_bm PySem.F.plainAttrs_tuple PySem.F.slot_tuple_index PySem.F.type_tuple_index (mt_tindexD (u65 hr)) (pe_glob (v := .ref aS) rfl d.S.mg rfl)
        (pa_cons (pe_tup (pa_cons (pe_call GS hr1 rfl d.mSg d.FSg.kp d.bSg .nil pass0 (pa_cons (pe_fld (pv 1) rfl) pa_nil)) (pa_cons (pe_call GS hr1 rfl d.mSg d.FSg.kp d.bSg .nil pass0 (pa_cons (pe_fld (pv 1) rfl) pa_nil)) pa_nil))) pa_nil)))), ?_⟩
    refine ⟨_, rfl, v, x, y, rfl, hv, hd, fun w H' e hw _ => ?_⟩
    obtain ⟨b, dy, rfl, hb⟩ := hw
    obtain ⟨o, ho⟩ := d.S.ty
    refine ⟨.inr (.inl ⟨rfl, o, ho⟩), ?_⟩
    refine ⟨_, rfl, b, C, dy, _, _, rfl, hb, T.cl, T.nX, ptF_x _ _, x, rfl, _, rfl, b, C, dy, _, _, rfl, hb, T.cl, T.nY, ptF_y _ _, y, rfl, (by show 2 ≤ sizeLine; decide), fun t nt => ?_⟩
    have hi := kd_index hd
    exact ⟨aS, .ref t, _, _, kd (x, y), _, rfl, rfl, d.S.dp _, .tup (SqT.of upd_same) (.cons (.int _) (.cons (.int _) .nil)), sg_shaped, sg1_shaped _ _, hi.1, eqv_self _ _, hi.2, k _ (e.trans (same_new nt))⟩
theorem Sm.gcd {n : Nat} {x y : Int} (hd : Dir (x, y)) (hx : Sm n x) (hy : Sm n y) : (gcI (x, y)).natAbs < 2 ^ n := by
  unfold gcI
  unfold Sm at hx hy
  simp only [Int.natAbs_natCast]
  rcases hd with h | h
  · have h : x ≠ 0 := h
    exact Nat.lt_of_le_of_lt (Nat.le_of_dvd (by omega) (Nat.gcd_dvd_left ..)) hx
  · have h : y ≠ 0 := h
    exact Nat.lt_of_le_of_lt (Nat.le_of_dvd (by omega) (Nat.gcd_dvd_right ..)) hy
theorem scLow : FnScope ["direction", "way", "parts"] ["direction"] (defScope sLow) := ⟨rfl, rfl, rfl, by decide +kernel, rfl, by decide +kernel, by decide +kernel⟩
theorem DDefs.GL (d : DDefs K mg C aS fSg fG fDr fK fL fX fB fPl fdSg fdG fdDr fdK fdL fdX fdB fdPl) (D : Defs K mg C fW fI fP fA fO fdW fdI fdP fdA fdO) : FnOk P w K mg base CX0 6 fL fdL ["direction"] (spLow C) := by
  have GD : FnOk P w K mg base CX0 5 fDr fdDr ["thing"] (spAsDir C) := ok_as_dir d.FDr D
  have GG : FnOk P w K mg base CX0 1 fG fdG ["one", "other"] spGcd := ok_gcd d.FG d.zA
  have GI : FnOk P w K mg base CX0 2 fI fdI ["self", "x", "y"] (spInit C) := D.GI
  have T := D.T
  refine d.FL.ok scLow (fun vs H Q E h => ?_) (fun cdv A outer s H vs Q E hr h => ?_)
  · obtain ⟨n, v, x, y, rfl, _⟩ := h
    rfl
  · obtain ⟨n, v, x, y, rfl, hv, hd, n0, n1, sx, sy, k⟩ := h
    refine ⟨_, pss_cons (ps_set (i := 1) scLow.nd rfl (Or.inl rfl) (pe_call GD hr rfl d.mDr d.FDr.kp d.bDr .nil pass0 (pa_cons (pv 0) pa_nil)))
      (pss_cons (ps_set (i := 2) scLow.nd rfl (Or.inl rfl) (pe_call GG (hr.mono (by decide)) rfl d.mG d.FG.kp d.bG .nil pass0 (pa_cons (pe_fld (pv 1) rfl) (pa_cons (pe_fld (pv 1) rfl) pa_nil))))
      (pss_one (ps_ret (pe_make D.M GI (hr.mono (by decide)) rfl T.mgC D.bI .nil pass0 (pa_cons (pe_op op_fdivW (pe_fld (pv 1) rfl) (pv 2)) (pa_cons (pe_op op_fdivW (pe_fld (pv 1) rfl) (pv 2)) pa_nil)))))), ?_⟩
    refine ⟨_, rfl, v, x, y, rfl, hv, hd, fun w H' e hw _ => ?_⟩
    obtain ⟨b, dy, rfl, hb⟩ := hw
    refine ⟨_, rfl, b, C, dy, _, _, rfl, hb, T.cl, T.nX, ptF_x _ _, _, rfl, b, C, dy, _, _, rfl, hb, T.cl, T.nY, ptF_y _ _, x, y, rfl, ?_⟩
    have cd : ∀ i, CDivW i (gcI (x, y)) := fun i => wide_div (gcI_pos hd) (Sm.gcd hd sx sy) n0 (by omega)
    refine ⟨_, rfl, b, C, dy, _, _, rfl, hb, T.cl, T.nX, ptF_x _ _, _, rfl, _, _, rfl, rfl, cd _, _, rfl, b, C, dy, _, _, rfl, hb, T.cl, T.nY, ptF_y _ _, _, rfl, _, _, rfl, rfl, cd _, ?_⟩
    exact make_pt fun v H2 e2 h2 => k v H2 (e.trans e2) h2
theorem scBefore : FnScope ["way", "other", "kind", "other_kind"] ["way", "other"] (defScope sBefore) := ⟨rfl, rfl, rfl, by decide +kernel, rfl, by decide +kernel, by decide +kernel⟩
theorem DDefs.GB (d : DDefs K mg C aS fSg fG fDr fK fL fX fB fPl fdSg fdG fdDr fdK fdL fdX fdB fdPl) (D : Defs K mg C fW fI fP fA fO fdW fdI fdP fdA fdO) : FnOk P w K mg base CX0 7 fB fdB ["way", "other"] (spBefore C) := by
  have GK : FnOk P w K mg base CX0 6 fK fdK ["direction"] (spKind C) := d.GK D
  have GX : FnOk P w K mg base CX0 5 fX fdX ["self", "other"] (spCross C) := ok_cross d.FX D
  have T := D.T
  refine d.FB.ok scBefore (fun vs H Q E h => ?_) (fun cdv A outer s H vs Q E hr h => ?_)
  · obtain ⟨n, v, u, x, y, z, t, rfl, _⟩ := h
    rfl
  · obtain ⟨n, v, u, x, y, z, t, rfl, hv, hu, hdv, hdu, n0, n1, sx, sy, sz, st, k⟩ := h
    refine ⟨_, pss_cons (ps_set (i := 2) scBefore.nd rfl (Or.inl rfl) (pe_call GK hr rfl d.mK d.FK.kp d.bK .nil pass0 (pa_cons (pv 0) pa_nil)))
      (pss_cons (ps_set (i := 3) scBefore.nd rfl (Or.inl rfl) (pe_call GK hr rfl d.mK d.FK.kp d.bK .nil pass0 (pa_cons (pv 1) pa_nil)))
      (pss_cons (ps_if (pt_cmpR op_ne (pv 2) (pv 3) (nomark _)) (pss_one (ps_ret (pe_cmpR op_lt (pv 2) (pv 3) (nomark _)))) pss_nil)
      (pss_one (ps_ret (pe_cmpR op_gt (pe_meth (pv 0) T.cl d.mX GX (hr.mono (by decide)) d.bX .nil pass0 (pa_cons (pv 1) pa_nil)) pe_int (nomark _)))))), ?_⟩
    refine ⟨_, rfl, v, x, y, rfl, hv.pt, hdv, fun H1 e1 => ?_⟩
    refine ⟨_, rfl, u, z, t, rfl, (hu.ex e1).pt, hdu, fun H2 e2 => ?_⟩
    refine ⟨_, rfl, _, rfl, rfl, _, rfl, ?_⟩
    unfold bef at k
    by_cases hk : kd (x, y) = kd (z, t)
    · rw [if_pos hk] at k
      refine iteNS (by rw [hk]) ?_
      obtain ⟨a, dx, rfl, ha⟩ := (hv.ex e1).ex e2
      refine ⟨_, rfl, a, dx, _, rfl, ha, cross_no _ _, _, rfl, n, _, _, x, y, z, t, rfl, ⟨a, dx, rfl, ha⟩, ((hu.ex e1).ex e2).pt, n0, n1, sx, sy, sz, st, fun H3 e3 => ?_⟩
      exact ⟨_, _, rfl, rfl, k H3 ((e1.trans e2).trans e3)⟩
    · rw [if_neg hk] at k
      have ne : decide (V.int (kd (x, y) : Int) = V.int (kd (z, t) : Int)) = false := decide_eq_false (fun q => hk (by injection q with q; omega))
      rw [ne]
      refine iteT ?_
      refine ⟨_, rfl, _, rfl, _, _, rfl, rfl, ?_⟩
      have e : decide ((kd (x, y) : Int) < (kd (z, t) : Int)) = decide (kd (x, y) < kd (z, t)) := by
        by_cases c : kd (x, y) < kd (z, t)
        · rw [decide_eq_true c, decide_eq_true (by omega)]
        · rw [decide_eq_false c, decide_eq_false (by omega)]
      have := k H2 (e1.trans e2)
      rw [← e] at this
      exact this
theorem scPlace : FnScope ["way", "placed", "low", "high", "middle"] ["way", "placed"] (defScope sPlace) := ⟨rfl, rfl, rfl, by decide +kernel, rfl, by decide +kernel, by decide +kernel⟩
/-- in a list in order: not behind one, so not behind those ahead of it -/
theorem srt_left {d : Int × Int} {es : List Ent} (hs : Srt Prod.snd es) (hd : Dirs Prod.snd es) (h0 : Dir d) {m : Nat} (hm : m < es.length) (h : bef d es[m].2 = false) : ∀ j (hj : j < es.length), j ≤ m → bef d es[j].2 = false := by
  intro j hj hjm
  by_cases e : j = m
  · subst e
    exact h
  · have hp := List.pairwise_iff_getElem.mp hs j m hj hm (by omega)
    cases q : bef d es[j].2 with
    | false => rfl
    | true =>
      rcases bef_nt (b := es[m].2) h0 (hd _ (List.getElem_mem hm)) (hd _ (List.getElem_mem hj)) q with r | r
      · rw [h] at r
        cases r
      · rw [hp] at r
        cases r
theorem srt_right {d : Int × Int} {es : List Ent} (hs : Srt Prod.snd es) (hd : Dirs Prod.snd es) (h0 : Dir d) {m : Nat} (hm : m < es.length) (h : bef d es[m].2 = true) : ∀ j (hj : j < es.length), m ≤ j → bef d es[j].2 = true := by
  intro j hj hjm
  by_cases e : j = m
  · subst e
    exact h
  · have hp := List.pairwise_iff_getElem.mp hs m j hm hj (by omega)
    rcases bef_nt (b := es[j].2) h0 (hd _ (List.getElem_mem hj)) (hd _ (List.getElem_mem hm)) h with r | r
    · exact r
    · rw [hp] at r
      cases r
theorem DDefs.GPl (d : DDefs K mg C aS fSg fG fDr fK fL fX fB fPl fdSg fdG fdDr fdK fdL fdX fdB fdPl) (D : Defs K mg C fW fI fP fA fO fdW fdI fdP fdA fdO) : FnOk P w K mg base CX0 8 fPl fdPl ["way", "placed"] (spPlace C) := by
  have GB : FnOk P w K mg base CX0 7 fB fdB ["way", "other"] (spBefore C) := d.GB D
  have T := D.T
  refine d.FPl.ok scPlace (fun vs H Q E h => ?_) (fun cdv A outer s H vs Q E hr h => ?_)
  · obtain ⟨n, v, x, y, l, es, rfl, _⟩ := h
    rfl
  · obtain ⟨n, v, x, y, l, es, rfl, hv, hd, sx, sy, n0, n1, hl, hlen, hes, hs, k⟩ := h
    refine ⟨_, pss_cons (ps_set (i := 2) scPlace.nd rfl (Or.inl rfl) pe_int)
      (pss_cons (ps_set (i := 3) scPlace.nd rfl (Or.inl rfl) (pe_callB call_len_seq (by rfl) T.len PySem.boot_len (pa_cons (pv 1) pa_nil)))
      (pss_cons (ps_while PassesOwn.never (pt_cmpR op_lt (pv 2) (pv 3) (nomark _))
        (pss_cons (ps_set (i := 4) scPlace.nd rfl (Or.inl rfl) (pe_op op_fdiv (pe_op op_add (pv 2) (pv 3)) pe_int))
        (pss_one (ps_if (pt_val (pe_call GB hr rfl d.mB d.FB.kp d.bB .nil pass0 (pa_cons (pv 0) (pa_cons (pe_ix ix_list (pv 1) (pv 4) (fun _ _ => rfl)) pa_nil))))
          (pss_one (ps_set (i := 3) scPlace.nd rfl (Or.inl rfl) (pv 4))) (pss_one (ps_set (i := 2) scPlace.nd rfl (Or.inl rfl) (pe_op op_add (pv 4) pe_int)))))))
      (pss_one (ps_ret (pv 2))))), ?_⟩
    refine ⟨_, rfl, l, _, rfl, .inl (SqL.of hl), ?_⟩
    have hlr : (refs es).length = es.length := List.length_map ..
    rw [hlr]
    refine ⟨fun m σ H' => ∃ (lo hi : Nat) (u : Option V), σ = [some v, some (.ref l), some (.int (lo : Int)), some (.int (hi : Int)), u] ∧ Same H H' ∧ lo ≤ hi ∧ hi ≤ es.length ∧ (∀ j (h : j < es.length), j < lo → bef (x, y) es[j].2 = false) ∧ (∀ j (h : j < es.length), hi ≤ j → bef (x, y) es[j].2 = true) ∧ m = hi - lo,
      ⟨es.length, 0, es.length, none, rfl, Same.refl _, Nat.zero_le _, Nat.le_refl _, fun j h hj => absurd hj (Nat.not_lt_zero _), fun j h hj => absurd hj (by omega), by omega⟩, ?_⟩
    rintro m σ H' ⟨lo, hi, u, rfl, e, h1, h2, hlo, hhi, rfl⟩
    refine ⟨_, rfl, _, rfl, _, _, rfl, rfl, _, rfl, ?_⟩
    by_cases hlt : (lo : Int) < (hi : Int)
    · rw [decide_eq_true hlt]
      refine iteT ?_
      refine ⟨fun σ' H2 => ∃ (lo' hi' : Nat) (u : Option V), σ' = [some v, some (.ref l), some (.int (lo' : Int)), some (.int (hi' : Int)), u] ∧ Same H H2 ∧ lo' ≤ hi' ∧ hi' ≤ es.length ∧ (∀ j (h : j < es.length), j < lo' → bef (x, y) es[j].2 = false) ∧ (∀ j (h : j < es.length), hi' ≤ j → bef (x, y) es[j].2 = true) ∧ hi' - lo' < hi - lo, ?_, ?_⟩
      · rintro σ' H2 ⟨lo', hi', u', rfl, e', a1, a2, a3, a4, a5⟩
        exact ⟨hi' - lo', a5, lo', hi', u', rfl, e', a1, a2, a3, a4, rfl⟩
      · refine ⟨_, rfl, _, rfl, _, _, rfl, rfl, _, _, rfl, rfl, ⟨by decide, by decide⟩, ?_⟩
        have hmid : ((lo : Int) + (hi : Int)) / 2 = (((lo + hi) / 2 : Nat) : Int) := by omega
        have hm : (lo + hi) / 2 < es.length := by omega
        have hget : (refs es)[(lo + hi) / 2]? = some (V.ref es[(lo + hi) / 2].1) := by
          unfold refs
          rw [List.getElem?_map, List.getElem?_eq_getElem hm]
          rfl
        have ent := hes _ (List.getElem_mem hm)
        refine ⟨_, rfl, _, rfl, _, rfl, l, refs es, _, _, rfl, rfl, SqL.of (e _ _ hl), (by rw [hmid]; exact atI_nat hget), ?_⟩
        refine ⟨n, v, _, x, y, _, _, rfl, hv.ex e, ent.1.ex e, hd, ent.2.1, n0, n1, sx, sy, ent.2.2.1, ent.2.2.2, fun H2 e2 => ?_⟩
        refine ⟨_, rfl, ?_⟩
        cases hb : bef (x, y) (es[(lo + hi) / 2].2.1, es[(lo + hi) / 2].2.2) with
        | true =>
          refine iteT ?_
          refine ⟨_, rfl, ?_⟩
          refine ⟨lo, (lo + hi) / 2, some (V.int (((lo : Int) + (hi : Int)) / 2)), ?_, e.trans e2, by omega, by omega, hlo, srt_right hs hes.dirs hd hm hb, by omega⟩
          show [some v, some (V.ref l), some (V.int (lo : Int)), some (V.int (((lo : Int) + (hi : Int)) / 2)), some (V.int (((lo : Int) + (hi : Int)) / 2))] = _
          rw [hmid]
        | false =>
          refine iteF ?_
          refine ⟨_, rfl, _, _, rfl, rfl, ?_⟩
          refine ⟨(lo + hi) / 2 + 1, hi, some (V.int (((lo : Int) + (hi : Int)) / 2)), ?_, e.trans e2, by omega, h2, fun j h hj => srt_left hs hes.dirs hd hm hb j h (by omega), hhi, by omega⟩
          show [some v, some (V.ref l), some (V.int (((lo : Int) + (hi : Int)) / 2 + 1)), some (V.int (hi : Int)), some (V.int (((lo : Int) + (hi : Int)) / 2))] = _
          rw [hmid]
          rfl
    · rw [decide_eq_false hlt]
      refine iteF ?_
      refine ⟨_, rfl, ?_⟩
      exact k lo H' e (by omega) hlo (fun j h hj => hhi j h (by omega))
end
end Fo

set_option Elab.async false
set_option linter.all false
set_option maxRecDepth 100000
set_option maxHeartbeats 2000000
namespace Fo
open PySem L2
theorem sortB_snoc {α : Type} {f : α → Int × Int} (l : List α) (e : α) : sortB f (l ++ [e]) = insB f e (sortB f l) := by
  unfold sortB
  rw [List.foldl_append]
  rfl
theorem refs_ins (l : List Ent) (e : Ent) (i : Nat) : (refs l).take i ++ [V.ref e.1] ++ (refs l).drop i = refs (l.take i ++ [e] ++ l.drop i) := by
  unfold refs
  simp
theorem Ents.sort {C : Addr} {n : Nat} {es : List Ent} {H : Hp} (h : Ents C n es H) : Ents C n (sortB Prod.snd es) H := fun x hx => h x ((sortB_perm es).mem_iff.mp hx)
section
variable {P : Program} {w : World} {K : PySem.W.Frag} {mg : Str → Option Value} {base : Heap} {C fW fI fP fA fO : Addr} {fdW fdI fdP fdA fdO : FuncData}
variable {aS fSg fG fDr fK fL fX fB fPl : Addr} {fdSg fdG fdDr fdK fdL fdX fdB fdPl : FuncData}
theorem scSorted : FnScope ["directions", "placed", "thing", "way"] ["directions"] (defScope sSorted) := ⟨rfl, rfl, rfl, by decide +kernel, rfl, by decide +kernel, by decide +kernel⟩
theorem ok_sorted {f : Addr} {fd : FuncData} (F : Fun K "sorted_around" "sorted_around" sSorted f fd) (d : DDefs K mg C aS fSg fG fDr fK fL fX fB fPl fdSg fdG fdDr fdK fdL fdX fdB fdPl) (D : Defs K mg C fW fI fP fA fO fdW fdI fdP fdA fdO) :
    FnOk P w K mg base CX0 9 f fd ["directions"] (spSorted C K) := by
  have GD : FnOk P w K mg base CX0 5 fDr fdDr ["thing"] (spAsDir C) := ok_as_dir d.FDr D
  have GP : FnOk P w K mg base CX0 8 fPl fdPl ["way", "placed"] (spPlace C) := d.GPl D
  refine F.ok scSorted (fun vs H Q E h => ?_) (fun cdv A outer s H vs Q E hr h => ?_)
  · obtain ⟨n, l, xs, ps, rfl, _⟩ := h
    rfl
  · obtain ⟨n, l, xs, ps, rfl, hl, hlen, n0, n1, ⟨hxp, hask⟩, k⟩ := h
    refine ⟨_, pss_cons (ps_set (i := 1) scSorted.nd rfl (Or.inl rfl) (pe_lst pa_nil))
      (pss_cons (ps_for PassesOwn.never rfl (pi_list (pv 0)) (pg_name (i := 2) scSorted.nd rfl (Or.inl rfl))
        (pss_cons (ps_set (i := 3) scSorted.nd rfl (Or.inl rfl) (pe_call GD (hr.mono (by decide)) rfl d.mDr d.FDr.kp d.bDr .nil pass0 (pa_cons (pv 2) pa_nil)))
        (pss_one (ps_expr (pe_bm PySem.F.plainAttrs_list PySem.F.slot_list_insert PySem.F.type_list_insert mt_insert (pv 1)
          (pa_cons (pe_call GP hr rfl d.mPl d.FPl.kp d.bPl .nil pass0 (pa_cons (pv 3) (pa_cons (pv 1) pa_nil))) (pa_cons (pv 3) pa_nil)))))))
      (pss_one (ps_ret (pv 1)))), ?_⟩
    refine ⟨Nat.zero_le _, fun pl npl => ?_⟩
    have e0 : Same H (upd H pl (.lst [])) := same_new npl
    refine ⟨_, rfl, l, rfl, ⟨_, e0.seq hl⟩, for_list (K := K) (a := l) (xs := xs) (fun i σ H' => ∃ (es : List Ent) (u w : Option V), σ = [some (.ref l), some (.ref pl), u, w] ∧ Same H H' ∧ H' pl = some (.lst (refs (sortB Prod.snd es))) ∧ Ents C n es H' ∧ es.length = i ∧
        (∀ (j : Nat) e p, es[j]? = some e → ps[j]? = some p → e.2 = p) ∧ (∀ (j : Nat) x e, xs[j]? = some x → es[j]? = some e → IsP C x e.2.1 e.2.2 H → V.ref e.1 = x))
      ⟨[], none, none, rfl, e0, upd_same, fun e he => by simp at he, rfl, fun j e p h _ => by simp at h, fun j x e _ h => by simp at h⟩ (fun i σ H' _ ⟨es, u, w, _, e, _⟩ => e.seq hl) ?_ ?_⟩
    · rintro i x σ H' hi ⟨es, u, w, rfl, e, hpl, hes, hel, hep, hid⟩
      have hil : i < xs.length := (List.getElem?_eq_some_iff.mp hi).1
      have hip : i < ps.length := by omega
      obtain ⟨hx, hd, s1, s2⟩ := hask i x ps[i] hi (List.getElem?_eq_getElem hip)
      generalize hpi : ps[i] = p at hx hd s1 s2
      refine ⟨_, rfl, x, p.1, p.2, rfl, hx.ex e, hd, fun w2 H2 e2 hw2 hid2 => ?_⟩
      have hpl2 := e2 _ _ hpl
      have hes2 := hes.ex e2
      have hsl : (sortB Prod.snd es).length = i := by rw [sortB_length, hel]
      obtain ⟨a2, d2, rfl, ha2⟩ := id hw2
      refine ⟨_, rfl, .inl ⟨rfl, _, SqL.of hpl2⟩, _, rfl, _, rfl, ?_⟩
      refine ⟨n, _, p.1, p.2, pl, sortB Prod.snd es, rfl, hw2, hd, s1, s2, n0, n1, hpl2, by omega, hes2.sort, sortB_srt hes2.dirs, fun i' H3 e3 hi' hl1 hl2 => ?_⟩
      refine ⟨_, rfl, pl, _, _, _, rfl, rfl, e3 _ _ hpl2, ?_, by omega, by omega, ?_⟩
      · show (refs _).length < sizeLine
        unfold refs
        rw [List.length_map, hsl]
        exact Nat.lt_of_lt_of_le (by omega : i < 1001) (by decide)
      · have ep : ((i' : Int)).toNat = i' := by omega
        rw [ep, refs_ins _ (a2, p) i', insB_place (f := Prod.snd) (e := ((a2, p) : Ent)) hl1 hl2, ← sortB_snoc]
        have hn : H pl = none := npl
        have e4 : Same H (upd H3 pl (.lst (refs (sortB Prod.snd (es ++ [(a2, p)]))))) := But.upd.same hn (e.trans (e2.trans e3))
        refine ⟨es ++ [(a2, p)], _, _, rfl, e4, upd_same, ?_, by rw [List.length_append, hel]; rfl, ?_, ?_⟩
        · intro z hz
          rcases List.mem_append.mp hz with hz | hz
          · exact (((hes2.ex e3).but (e3 _ _ hpl2) But.upd) z hz)
          · rw [List.mem_singleton] at hz
            subst hz
            exact ⟨(hw2.ex e3).but (e3 _ _ hpl2) But.upd, hd, s1, s2⟩
        · intro j z q hz hq
          by_cases hj : j < es.length
          · rw [List.getElem?_append_left hj] at hz
            exact hep j z q hz hq
          · have hj2 : j = es.length := by
              have := (List.getElem?_eq_some_iff.mp hz).1
              rw [List.length_append] at this
              simp at this
              omega
            subst hj2
            rw [List.getElem?_append_right (Nat.le_refl _)] at hz
            simp at hz
            subst hz
            rw [hel, List.getElem?_eq_getElem hip] at hq
            have := Option.some.inj hq
            rw [← this, hpi]
        · intro j z q hz hq hp
          by_cases hj : j < es.length
          · rw [List.getElem?_append_left hj] at hq
            exact hid j z q hz hq hp
          · have hj2 : j = es.length := by
              have := (List.getElem?_eq_some_iff.mp hq).1
              rw [List.length_append] at this
              simp at this
              omega
            subst hj2
            rw [List.getElem?_append_right (Nat.le_refl _)] at hq
            simp at hq
            subst hq
            rw [hel, hi] at hz
            have hz := Option.some.inj hz
            subst hz
            exact hid2 (hp.ex e)
    · rintro σ H' ⟨es, u, w, rfl, e, hpl, hes, hel, hep, hid⟩
      refine ⟨_, rfl, ?_⟩
      refine k pl H' es npl e hpl hes ?_ hid
      apply List.ext_getElem?
      intro j
      rw [List.getElem?_map]
      by_cases hj : j < es.length
      · have hjp : j < ps.length := by omega
        rw [List.getElem?_eq_getElem hj, List.getElem?_eq_getElem hjp]
        show some es[j].2 = some ps[j]
        rw [hep j _ _ (List.getElem?_eq_getElem hj) (List.getElem?_eq_getElem hjp)]
      · rw [List.getElem?_eq_none (by omega), List.getElem?_eq_none (by omega)]
        rfl
end
end Fo

set_option Elab.async false
set_option linter.all false
set_option maxRecDepth 100000
set_option maxHeartbeats 2000000
namespace Fo
open PySem L2
/-! ### filledonce.directions where it raises -/
def OddD (C CI CN : Addr) (H : Hp) (v : V) (c : Addr) : Prop := (Bad H v ∧ c = CI) ∨ (IsPt C v 0 0 H ∧ c = CN)
theorem OddD.ex {C CI CN : Addr} {H H' : Hp} {v : V} {c : Addr} (e : Same H H') (h : OddD C CI CN H v c) : OddD C CI CN H' v c := h.imp (fun h => ⟨h.1.ex e, h.2⟩) fun h => ⟨h.1.ex e, h.2⟩
def spOddX (C CI CN : Addr) : Sp := fun vs H _ E => ∃ v c, vs = [v] ∧ OddD C CI CN H v c ∧ ∀ d H', Same H H' → H' d = some (XD v) → E (.ref c) (some d) H'
def spSortedX (C CI CN : Addr) (K : PySem.W.Frag) : Sp := fun vs H _ E => ∃ (n : Nat) (l : Addr) (xs : List V) (ps : List (Int × Int)) (v u : V) (c : Addr), vs = [.ref l] ∧ SqL K H l (xs ++ [v, u]) ∧ xs.length ≤ 900 ∧ 0 < n ∧ n ≤ 1000 ∧ Asked C n xs ps H ∧ OddD C CI CN H v c ∧
  ∀ d H', Same H H' → H' d = some (XD v) → E (.ref c) (some d) H'
/-- what the top says of the error NoDirection at CN -/
structure TxtN (P : Program) (K : PySem.W.Frag) (mg : Str → Option Value) (CN fNI : Addr) : Prop where
  xN : FoX_thing.XTxt P K mg CN fNI
  gN : mg "NoDirection" = some (.ref CN)
section
variable {P : Program} {w : World} {K : PySem.W.Frag} {mg : Str → Option Value} {base : Heap} {C fW fI fP fA fO CI fII CN fNI : Addr} {fdW fdI fdP fdA fdO : FuncData}
variable {aS fSg fG fDr fK fL fX fB fPl : Addr} {fdSg fdG fdDr fdK fdL fdX fdB fdPl : FuncData}
theorem as_dirBad (F : Fun K "as_direction" "as_direction" sAsDir fDr fdDr) (D : Defs K mg C fW fI fP fA fO fdW fdI fdP fdA fdO) (TX : TxtX P K mg C CI fII) : FnOk P w K mg base (L2.CX P w) 4 fDr fdDr ["thing"] (spBadX CI) := by
  have GA : FnOk P w K mg base (L2.CX P w) 3 fA fdA ["thing"] (spBadX CI) := ok_as_pointX D TX
  refine F.okX scAsDir (fun vs H Q E h => ?_) (fun cdv A outer s H vs Q E hr h => ?_)
  · obtain ⟨v, rfl, _⟩ := h
    rfl
  · obtain ⟨v, rfl, bad, k⟩ := h
    refine ⟨_, pss_cons (ps_set (i := 1) scAsDir.nd rfl (Or.inl rfl) (pe_call (E := E) GA hr rfl D.mA D.FA.kp D.bA .nil (passes_call (takes_of rfl rfl rfl rfl) fun _ _ _ _ h => h) (pa_cons (pv 0) pa_nil)))
      (pss_cons ps_never (pss_one ps_never)), ?_⟩
    exact ⟨_, rfl, v, rfl, bad, k⟩
def spZero (C CN : Addr) : Sp := fun vs H _ E => ∃ v, vs = [v] ∧ IsPt C v 0 0 H ∧ ∀ d H', Same H H' → H' d = some (XD v) → E (.ref CN) (some d) H'
theorem as_dirZero (F : Fun K "as_direction" "as_direction" sAsDir fDr fdDr) (D : Defs K mg C fW fI fP fA fO fdW fdI fdP fdA fdO) (TN : TxtN P K mg CN fNI) : FnOk P w K mg base (L2.CX P w) 5 fDr fdDr ["thing"] (spZero C CN) := by
  have GA : FnOk P w K mg base CX0 4 fA fdA ["thing"] (spAsPoint C) := D.GA
  have T := D.T
  refine F.okX scAsDir (fun vs H Q E h => ?_) (fun cdv A outer s H vs Q E hr h => ?_)
  · obtain ⟨v, rfl, _⟩ := h
    rfl
  · obtain ⟨v, rfl, hv, k⟩ := h
    refine ⟨_, pss_cons (ps_set (i := 1) scAsDir.nd rfl (Or.inl rfl) (pe_call GA hr rfl D.mA D.FA.kp D.bA .nil pass0 (pa_cons (pv 0) pa_nil)))
      (pss_cons (ps_if (PW.pt (pw_and (pt_cmpR op_eq (pe_fld (pv 1) rfl) pe_int (nomark _)) (pw_and1 (pt_cmpR op_eq (pe_fld (pv 1) rfl) pe_int (nomark _)))))
        (pss_one (ps_raise_thing (W := fun cls d _ H => E cls d H) rfl TN.xN TN.gN hr (takes_of rfl rfl rfl rfl) (pa_cons (pv 0) pa_nil))) pss_nil)
      (pss_one ps_never)), ?_⟩
    refine ⟨_, rfl, v, 0, 0, rfl, hv, fun w H' e hw _ => ?_⟩
    obtain ⟨b, dy, rfl, hb⟩ := id hw
    refine ⟨_, rfl, b, C, dy, _, _, rfl, hb, T.cl, T.nX, ptF_x _ _, rfl, _, rfl, ?_⟩
    rw [decide_eq_true rfl]
    refine iteT ?_
    refine ⟨_, rfl, b, C, dy, _, _, rfl, hb, T.cl, T.nY, ptF_y _ _, rfl, _, rfl, ?_⟩
    rw [decide_eq_true rfl]
    refine iteT ?_
    exact ⟨_, rfl, _, rfl, fun d nd => k d _ (e.trans (same_new nd)) upd_same⟩
theorem as_dirX (F : Fun K "as_direction" "as_direction" sAsDir fDr fdDr) (D : Defs K mg C fW fI fP fA fO fdW fdI fdP fdA fdO) (TX : TxtX P K mg C CI fII) (TN : TxtN P K mg CN fNI) : FnOk P w K mg base (L2.CX P w) 5 fDr fdDr ["thing"] (spOddX C CI CN) := by
  have a : FnOk P w K mg base (L2.CX P w) 5 fDr fdDr ["thing"] (spBadX CI) := (as_dirBad F D TX).mono (by decide)
  have b : FnOk P w K mg base (L2.CX P w) 5 fDr fdDr ["thing"] (spZero C CN) := as_dirZero F D TN
  have ab := a.or b
  have key : ∀ vs H Q E, spOddX C CI CN vs H Q E → (spBadX CI vs H Q E ∨ spZero C CN vs H Q E) := by
    rintro vs H Q E ⟨v, c, rfl, ⟨h, rfl⟩ | ⟨h, rfl⟩, k⟩
    · exact .inl ⟨v, rfl, h, k⟩
    · exact .inr ⟨v, rfl, h, k⟩
  exact ⟨fun vs H Q E h => ab.len vs H Q E (key _ _ _ _ h), fun A outer s H args us vs Q E hr e0 hb r h => ab.run A outer s H args us vs Q E hr e0 hb r (key _ _ _ _ h)⟩
theorem ok_kindX (d : DDefs K mg C aS fSg fG fDr fK fL fX fB fPl fdSg fdG fdDr fdK fdL fdX fdB fdPl) (D : Defs K mg C fW fI fP fA fO fdW fdI fdP fdA fdO) (TX : TxtX P K mg C CI fII) (TN : TxtN P K mg CN fNI) : FnOk P w K mg base (L2.CX P w) 6 fK fdK ["direction"] (spOddX C CI CN) := by
  have GD : FnOk P w K mg base (L2.CX P w) 5 fDr fdDr ["thing"] (spOddX C CI CN) := as_dirX d.FDr D TX TN
  refine d.FK.okX scKind (fun vs H Q E h => ?_) (fun cdv A outer s H vs Q E hr h => ?_)
  · obtain ⟨v, c, rfl, _⟩ := h
    rfl
  · obtain ⟨v, c, rfl, bad, k⟩ := h
    refine ⟨_, pss_cons (ps_set (i := 1) scKind.nd rfl (Or.inl rfl) (pe_call (E := E) GD hr rfl d.mDr d.FDr.kp d.bDr .nil (passes_call (takes_of rfl rfl rfl rfl) fun _ _ _ _ h => h) (pa_cons (pv 0) pa_nil)))
      (pss_one ps_never), ?_⟩
    exact ⟨_, rfl, v, c, rfl, bad, k⟩
theorem ok_lowX (d : DDefs K mg C aS fSg fG fDr fK fL fX fB fPl fdSg fdG fdDr fdK fdL fdX fdB fdPl) (D : Defs K mg C fW fI fP fA fO fdW fdI fdP fdA fdO) (TX : TxtX P K mg C CI fII) (TN : TxtN P K mg CN fNI) : FnOk P w K mg base (L2.CX P w) 6 fL fdL ["direction"] (spOddX C CI CN) := by
  have GD : FnOk P w K mg base (L2.CX P w) 5 fDr fdDr ["thing"] (spOddX C CI CN) := as_dirX d.FDr D TX TN
  refine d.FL.okX scLow (fun vs H Q E h => ?_) (fun cdv A outer s H vs Q E hr h => ?_)
  · obtain ⟨v, c, rfl, _⟩ := h
    rfl
  · obtain ⟨v, c, rfl, bad, k⟩ := h
    refine ⟨_, pss_cons (ps_set (i := 1) scLow.nd rfl (Or.inl rfl) (pe_call (E := E) GD hr rfl d.mDr d.FDr.kp d.bDr .nil (passes_call (takes_of rfl rfl rfl rfl) fun _ _ _ _ h => h) (pa_cons (pv 0) pa_nil)))
      (pss_cons ps_never (pss_one ps_never)), ?_⟩
    exact ⟨_, rfl, v, c, rfl, bad, k⟩
theorem ok_sortedX {f : Addr} {fd : FuncData} (F : Fun K "sorted_around" "sorted_around" sSorted f fd) (d : DDefs K mg C aS fSg fG fDr fK fL fX fB fPl fdSg fdG fdDr fdK fdL fdX fdB fdPl) (D : Defs K mg C fW fI fP fA fO fdW fdI fdP fdA fdO) (TX : TxtX P K mg C CI fII) (TN : TxtN P K mg CN fNI) :
    FnOk P w K mg base (L2.CX P w) 9 f fd ["directions"] (spSortedX C CI CN K) := by
  have G1 : FnOk P w K mg base (L2.CX P w) 5 fDr fdDr ["thing"] (spAsDir C) := FnOk.up (ok_as_dir d.FDr D)
  have G2 : FnOk P w K mg base (L2.CX P w) 5 fDr fdDr ["thing"] (spOddX C CI CN) := as_dirX d.FDr D TX TN
  have GD := G1.or G2
  have GP : FnOk P w K mg base CX0 8 fPl fdPl ["way", "placed"] (spPlace C) := d.GPl D
  refine F.okX scSorted (fun vs H Q E h => ?_) (fun cdv A outer s H vs Q E hr h => ?_)
  · obtain ⟨n, l, xs, ps, v, u, c, rfl, _⟩ := h
    rfl
  · obtain ⟨n, l, xs, ps, v, u, c, rfl, hl, hlen, n0, n1, ⟨hxp, hask⟩, odd, k⟩ := h
    refine ⟨_, pss_cons (ps_set (i := 1) scSorted.nd rfl (Or.inl rfl) (pe_lst pa_nil))
      (pss_cons (ps_for (passes_of rfl) rfl (pi_list (pv 0)) (pg_name (i := 2) scSorted.nd rfl (Or.inl rfl))
        (pss_cons (ps_set (i := 3) scSorted.nd rfl (Or.inl rfl) (pe_call (E := E) GD (hr.mono (by decide)) rfl d.mDr d.FDr.kp d.bDr .nil (passes_call (takes_of rfl rfl rfl rfl) fun _ _ _ _ h => h) (pa_cons (pv 2) pa_nil)))
        (pss_one (ps_expr (pe_bm PySem.F.plainAttrs_list PySem.F.slot_list_insert PySem.F.type_list_insert mt_insert (pv 1)
          (pa_cons (pe_call GP hr rfl d.mPl d.FPl.kp d.bPl .nil pass0 (pa_cons (pv 3) (pa_cons (pv 1) pa_nil))) (pa_cons (pv 3) pa_nil)))))))
      (pss_one (ps_ret (pv 1)))), ?_⟩
    refine ⟨Nat.zero_le _, fun pl npl => ?_⟩
    have e0 : Same H (upd H pl (.lst [])) := same_new npl
    refine ⟨_, rfl, l, rfl, ⟨_, e0.seq hl⟩, for_list (K := K) (a := l) (xs := xs ++ [v, u]) (fun i σ H' => i ≤ xs.length ∧ ∃ (es : List Ent) (u w : Option V), σ = [some (.ref l), some (.ref pl), u, w] ∧ Same H H' ∧ H' pl = some (.lst (refs (sortB Prod.snd es))) ∧ Ents C n es H' ∧ es.length = i)
      ⟨Nat.zero_le _, [], none, none, rfl, e0, upd_same, fun e he => by simp at he, rfl⟩ (fun i σ H' _ ⟨_, es, u, w, _, e, _⟩ => e.seq hl) ?_ ?_⟩
    · rintro i x σ H' hi ⟨hle, es, u', w', rfl, e, hpl, hes, hel⟩
      by_cases hil : i < xs.length
      · rw [List.getElem?_append_left hil] at hi
        have hip : i < ps.length := by omega
        obtain ⟨hx, hd, s1, s2⟩ := hask i x ps[i] hi (List.getElem?_eq_getElem hip)
        generalize hpi : ps[i] = p at hx hd s1 s2
        refine ⟨_, rfl, .inl ⟨x, p.1, p.2, rfl, hx.ex e, hd, fun w2 H2 e2 hw2 _ => ?_⟩⟩
        have hpl2 := e2 _ _ hpl
        have hes2 := hes.ex e2
        have hsl : (sortB Prod.snd es).length = i := by rw [sortB_length, hel]
        obtain ⟨a2, d2, rfl, ha2⟩ := id hw2
        refine ⟨_, rfl, .inl ⟨rfl, _, SqL.of hpl2⟩, _, rfl, _, rfl, ?_⟩
        refine ⟨n, _, p.1, p.2, pl, sortB Prod.snd es, rfl, hw2, hd, s1, s2, n0, n1, hpl2, by omega, hes2.sort, sortB_srt hes2.dirs, fun i' H3 e3 hi' hl1 hl2 => ?_⟩
        refine ⟨_, rfl, pl, _, _, _, rfl, rfl, e3 _ _ hpl2, ?_, by omega, by omega, ?_⟩
        · show (refs _).length < sizeLine
          unfold refs
          rw [List.length_map, hsl]
          exact Nat.lt_of_lt_of_le (by omega : i < 1001) (by decide)
        · have ep : ((i' : Int)).toNat = i' := by omega
          rw [ep, refs_ins _ (a2, p) i', insB_place (f := Prod.snd) (e := ((a2, p) : Ent)) hl1 hl2, ← sortB_snoc]
          have hn : H pl = none := npl
          have e4 : Same H (upd H3 pl (.lst (refs (sortB Prod.snd (es ++ [(a2, p)]))))) := But.upd.same hn (e.trans (e2.trans e3))
          refine ⟨hil, es ++ [(a2, p)], _, _, rfl, e4, upd_same, ?_, by rw [List.length_append, hel]; rfl⟩
          intro z hz
          rcases List.mem_append.mp hz with hz | hz
          · exact (((hes2.ex e3).but (e3 _ _ hpl2) But.upd) z hz)
          · rw [List.mem_singleton] at hz
            subst hz
            exact ⟨(hw2.ex e3).but (e3 _ _ hpl2) But.upd, hd, s1, s2⟩
      · have hi2 : i = xs.length := by omega
        rw [hi2, List.getElem?_append_right (Nat.le_refl _), Nat.sub_self] at hi
        cases hi
        exact ⟨_, rfl, .inr ⟨v, c, rfl, odd.ex e, fun dd H2 e2 hdd => k dd H2 (e.trans e2) hdd⟩⟩
    · rintro σ H' ⟨hle, _⟩
      rw [List.length_append] at hle
      simp at hle
      omega
end
end Fo

set_option Elab.async false
set_option linter.all false
set_option maxRecDepth 100000
set_option maxHeartbeats 2000000
namespace Fo
open PySem L2
/-! ### what raises, and the law's own door to it -/
theorem SqT.ex {K : PySem.W.Frag} {H H' : Hp} {a : Addr} {xs : List V} (e : Same H H') (h : SqT K H a xs) : SqT K H' a xs := by
  rcases h with (h | ⟨o, h⟩) | h
  · exact .inl (.inl (e _ _ h))
  · exact .inl (.inr ⟨o, e _ _ h⟩)
  · exact .inr h
mutual
theorem Dp.ex {K : PySem.W.Frag} {H H' : Hp} (e : Same H H') : ∀ (d : PyData) (v : V), Dp K H v d → Dp K H' v d
  | .none, _, h => by
    cases h
    exact .non
  | .bool b, _, h => by
    cases h
    exact .bl b
  | .int i, _, h => by
    cases h
    exact .int i
  | .str x, _, h => by
    cases h
    exact .str x
  | .list ds, _, h => by
    cases h with
    | lst hs ha => exact .lst (e.seq hs) (DpAll.ex e ds _ ha)
  | .tuple ds, _, h => by
    cases h with
    | tup hs ha => exact .tup (SqT.ex e hs) (DpAll.ex e ds _ ha)
  | .dict _, _, h => by cases h
theorem DpAll.ex {K : PySem.W.Frag} {H H' : Hp} (e : Same H H') : ∀ (ds : List PyData) (vs : List V), DpAll K H vs ds → DpAll K H' vs ds
  | [], _, h => by
    cases h
    exact .nil
  | d :: ds, _, h => by
    cases h with
    | cons h1 h2 => exact .cons (Dp.ex e d _ h1) (DpAll.ex e ds _ h2)
end
structure ShowsOk (d : PyData) : Prop where
  s : d.showable = true
  nd : d.hasDict = false
  dp : d.depth ≤ 60
  z : d.shown.length ≤ sizeLine
/-- what a call lets out is taken, whatever the slots -/
def EW (W : WX) (n : Nat) : XK := fun cls d H => ∀ σ : L2.St, σ.length = n → W cls d σ H
theorem passesW {X : Cx} {W : WX} {n : Nat} (tk : Takes X W) (hn : X.N.length = n) : Passes (L2.CX X.prog X.w) X (EW W n) := fun _ σ _ _ e s' I c => tk e s' (XE.of_call I (fun _ _ _ h => h σ (I.len.trans hn)) c)
theorem ix_tupK {X : Cx} {K : PySem.W.Frag} (h : X.K = K) : IxR X (rIxT K) := by
  subst h
  exact ix_tup
theorem int_eqT {i j : Int} (h : i = j) : decide (V.int i = V.int j) = true := decide_eq_true (by rw [h])
theorem int_eqF {i j : Int} (h : i ≠ j) : decide (V.int i = V.int j) = false := decide_eq_false (fun q => h (by injection q))
end Fo

set_option Elab.async false
set_option linter.all false
set_option maxRecDepth 100000
set_option maxHeartbeats 2000000
namespace Fo
open PySem L2
/-! ### the law's questions at odd things -/
abbrev sError : Stmt := top 27
abbrev sAsked : Stmt := top 28
/-- what the top says of the errors besides -/
structure RTx2 (P : Program) (K : PySem.W.Frag) (mg : Str → Option Value) (C CI fII CN fNI CF : Addr) : Prop where
  TX : TxtX P K mg C CI fII
  TN : TxtN P K mg CN fNI
  gF : mg "FillError" = some (.ref CF)
  exI : PySem.W.exmOne K (.ref CI) (.ref CF) = some true
  exN : PySem.W.exmOne K (.ref CN) (.ref CF) = some true
  isI : XIsC K CI
  isN : XIsC K CN
  kII : PySem.W.kitOne K (.ref CI) (.ref CI) = some true
  kIN : PySem.W.kitOne K (.ref CI) (.ref CN) = some false
  kNN : PySem.W.kitOne K (.ref CN) (.ref CN) = some true
  zR : mg "repr" = none
def Word (CI CN c : Addr) (wd : Str) : Prop := (c = CN ∧ wd = "none") ∨ (c = CI ∧ wd = "point")
def spErr (K : PySem.W.Frag) (CI CN : Addr) (p : Addr × Obj) : Sp := fun vs H Q _ => ∃ (c dd : Addr) (v : V) (d : PyData) (wd : Str), vs = [.ref p.1] ∧ Zc (.ref c) (some dd) p.2 ∧ (∃ fs, p.2.data = .fields fs) ∧ H dd = some (XD v) ∧ Word CI CN c wd ∧ ShowsOk d ∧ Dp K H v d ∧
  ∀ t H', Same H H' → H' t = some (.tup [.str wd, .str d.shown]) → Q (.ref t) H'
def spErrA (K : PySem.W.Frag) (CI CN a : Addr) (cls : Value) (d0 : Option Addr) : Sp := fun vs H Q _ => ∃ (c dd : Addr) (v : V) (d : PyData) (wd : Str), vs = [.ref a] ∧ cls = .ref c ∧ d0 = some dd ∧ H dd = some (XD v) ∧ Word CI CN c wd ∧ ShowsOk d ∧ Dp K H v d ∧
  ∀ t H', Same H H' → H' t = some (.tup [.str wd, .str d.shown]) → Q (.ref t) H'
theorem errA {K : PySem.W.Frag} {CI CN a : Addr} {oe : Obj} {cls : Value} {d0 : Option Addr} (hz : Zc cls d0 oe) (hf : ∃ fs, oe.data = .fields fs) (vs : List V) (H : Hp) (Q : VK) (h : spErrA K CI CN a cls d0 vs H Q E0) : spErr K CI CN (a, oe) vs H Q E0 := by
  obtain ⟨c, dd, v, d, wd, h1, rfl, rfl, r⟩ := h
  exact ⟨c, dd, v, d, wd, h1, hz, hf, r⟩
def spAsked (C CI CN : Addr) (K : PySem.W.Frag) : Sp := fun vs H Q _ => ∃ (n : Int) (v o : V) (c : Addr) (d : PyData) (wd : Str), vs = [.int n, v] ∧ OddD C CI CN H o c ∧ Dp K H o d ∧ ShowsOk d ∧ Word CI CN c wd ∧
  (((n = 0 ∨ n = 1) ∧ v = o) ∨ (n = 2 ∧ ∃ (m : Nat) (l : Addr) (xs : List V) (ps : List (Int × Int)) (u : V), v = .ref l ∧ SqL K H l (xs ++ [o, u]) ∧ xs.length ≤ 900 ∧ 0 < m ∧ m ≤ 1000 ∧ Asked C m xs ps H)) ∧
  ∀ t H', Same H H' → H' t = some (.tup [.str wd, .str d.shown]) → Q (.ref t) H'
section
variable {P : Program} {w : World} {K : PySem.W.Frag} {mg : Str → Option Value} {base : Heap} {C fW fI fP fA fO CI fII CN fNI CF : Addr} {fdW fdI fdP fdA fdO : FuncData}
variable {aS fSg fG fDr fK fL fX fB fPl : Addr} {fdSg fdG fdDr fdK fdL fdX fdB fdPl : FuncData}
theorem scError : FnScope ["e"] ["e"] (defScope sError) := ⟨rfl, rfl, rfl, by decide +kernel, rfl, by decide +kernel, by decide +kernel⟩
theorem ok_error {f : Addr} {fd : FuncData} (F : Fun K "_law_error" "_law_error" sError f fd) (T : Txt K mg C) (R : RTx2 P K mg C CI fII CN fNI CF) : FnE P w K mg base 1 f fd ["e"] (spErr K CI CN) := by
  refine F.okE scError (fun p vs H Q E h => ?_) (fun cdv A outer s H vs Q E p hgd hr h => ?_)
  · obtain ⟨c, dd, v, d, wd, rfl, _⟩ := h
    rfl
  · obtain ⟨a, oe⟩ := p
    obtain ⟨c, dd, v, d, wd, rfl, hz, hf, hd, hw, sh, hdp, k⟩ := h
    have hu : (A.deeper (PyProof.Rows.envOfC (Str.ofString "_law_error") (defScope sError) s.heap.objs.size f cdv)).units + 64 < cLine := by
      have := hr.un
      omega
    have hp : (a, oe) ∈ (L2H.cxH CX0 P w K mg base ["e"] "_law_error" (defScope sError) f cdv A outer s H E (a, oe)).nox.pn := List.mem_singleton.mpr rfl
    have cR : CallR (L2H.cxH CX0 P w K mg base ["e"] "_law_error" (defScope sError) f cdv A outer s H E (a, oe)).nox (.builtin "repr") (rReprD K) := call_reprD hgd hu
    refine ⟨_, pss_cons (ps_if (pt_val (pe_callB (call_isP hp hz hf) (by rfl) T.isi (by decide +kernel) (pa_cons (pv 0) (pa_cons (pe_glob (v := .ref CN) rfl R.TN.gN rfl) pa_nil))))
        (pss_one (ps_ret (pe_tup (pa_cons pe_str (pa_cons (pe_callB cR (by rfl) R.zR (by decide +kernel) (pa_cons (pe_byP hp hz hf (pv 0)) pa_nil)) pa_nil))))) pss_nil)
      (pss_one (ps_ret (pe_tup (pa_cons pe_str (pa_cons (pe_and (pe_callB (call_isP hp hz hf) (by rfl) T.isi (by decide +kernel) (pa_cons (pv 0) (pa_cons (pe_glob (v := .ref CI) rfl R.TX.gI rfl) pa_nil)))
        (pe_one (pe_callB cR (by rfl) R.zR (by decide +kernel) (pa_cons (pe_byP hp hz hf (pv 0)) pa_nil)))) pa_nil))))), ?_⟩
    rcases hw with ⟨rfl, rfl⟩ | ⟨rfl, rfl⟩
    · refine ⟨_, rfl, c, dd, _, _, _, true, rfl, rfl, rfl, hd, .own c, R.isN, R.kNN, true, rfl, ?_⟩
      refine iteT ?_
      refine ⟨_, rfl, rfl, c, fNI, R.TN.xN, rfl, dd, v, rfl, hd, v, d, rfl, hdp, sh.s, sh.nd, sh.dp, sh.z, (by show 2 ≤ sizeLine; decide), fun t nt => ?_⟩
      exact k t _ (same_new nt) upd_same
    · refine ⟨_, rfl, c, dd, _, _, _, false, rfl, rfl, rfl, hd, .own CN, R.isI, R.kIN, false, rfl, ?_⟩
      refine iteF ?_
      refine ⟨_, rfl, c, dd, _, _, _, true, rfl, rfl, rfl, hd, .own c, R.isI, R.kII, true, rfl, ?_⟩
      refine iteT ?_
      refine ⟨_, rfl, rfl, c, fII, R.TX.xI, rfl, dd, v, rfl, hd, v, d, rfl, hdp, sh.s, sh.nd, sh.dp, sh.z, (by show 2 ≤ sizeLine; decide), fun t nt => ?_⟩
      exact k t _ (same_new nt) upd_same
theorem scAsked : FnScope ["door", "thing", "e"] ["door", "thing"] (defScope sAsked) := ⟨rfl, rfl, rfl, by decide +kernel, rfl, by decide +kernel, by decide +kernel⟩
theorem ok_asked {f fEr fSo : Addr} {fd fdEr fdSo : FuncData} (F : Fun K "_law_asked" "_law_asked" sAsked f fd) (d' : DDefs K mg C aS fSg fG fDr fK fL fX fB fPl fdSg fdG fdDr fdK fdL fdX fdB fdPl) (D : Defs K mg C fW fI fP fA fO fdW fdI fdP fdA fdO) (R : RTx2 P K mg C CI fII CN fNI CF)
    (FEr : Fun K "_law_error" "_law_error" sError fEr fdEr) (bEr : Binds K fdEr ["e"] []) (mEr : mg "_law_error" = some (.ref fEr)) (FSo : Fun K "sorted_around" "sorted_around" sSorted fSo fdSo) (bSo : Binds K fdSo ["directions"] []) (mSo : mg "sorted_around" = some (.ref fSo)) :
    FnG P w K mg base CX0 10 f fd ["door", "thing"] (spAsked C CI CN K) := by
  have GK : FnOk P w K mg base (L2.CX P w) 6 fK fdK ["direction"] (spOddX C CI CN) := ok_kindX d' D R.TX R.TN
  have GL : FnOk P w K mg base (L2.CX P w) 6 fL fdL ["direction"] (spOddX C CI CN) := ok_lowX d' D R.TX R.TN
  have GS : FnOk P w K mg base (L2.CX P w) 9 fSo fdSo ["directions"] (spSortedX C CI CN K) := ok_sortedX FSo d' D R.TX R.TN
  have GE : FnE P w K mg base 1 fEr fdEr ["e"] (spErr K CI CN) := ok_error FEr D.T R
  refine F.okG scAsked (fun vs H Q E h => ?_) (fun cdv A outer s H vs Q E hgd hr h => ?_)
  · obtain ⟨n, v, o, c, d, wd, rfl, _⟩ := h
    rfl
  · obtain ⟨n, v, o, c, d, wd, rfl, odd, hdp, sh, hw, hc, k⟩ := h
    have hr6 : Room 6 _ := hr.mono (by decide)
    have hrE : ∀ a : Addr, L2H.RoomH 1 ((A.deeper (PyProof.Rows.envOfC (Str.ofString "_law_asked") (defScope sAsked) s.heap.objs.size f cdv)).mark (some (.ref a))) := fun a => ⟨(hr.mono (by decide : 1 ≤ 9)).dp, (hr.mono (by decide : 1 ≤ 9)).un⟩
    have hT : ∃ (tb : WX → TS) (ts : Addr → Value → Option Addr → TS), PS (cxOf CX0 P w K mg base ["door", "thing", "e"] "_law_asked" (defScope sAsked) f cdv A outer s H E).nox ((defBody sAsked).getD 0 (.Pass ⟨0, 0, 0, 0⟩)) (fun D σ H => tb (wAs K (.ref CF) 2 ts (fun _ _ _ _ => False) D) D σ H) ∧
        (∀ (W : WX) (D' : Ends), (∀ (dd : Addr) (H' : Hp), Same H H' → H' dd = some (XD o) → Dp K H' o d → EW W 3 (.ref c) (some dd) H') → tb W D' (start ["door", "thing", "e"] [.int n, v]) H) ∧
        (∀ (a dd : Addr) (σ : L2.St) (H' : Hp) (D' : Ends), σ[2]? = some (some (.ref a)) → H' dd = some (XD o) → Dp K H' o d → (∀ t H2, Same H' H2 → H2 t = some (.tup [.str wd, .str d.shown]) → D'.rt (.ref t) H2) → ts a (.ref c) (some dd) D' σ H') := by
      refine ⟨_, _, ps_try_as (i := 2) (c := .ref CF) (Wout := fun _ _ _ _ => False) rfl rfl scAsked.nd rfl rfl ⟨rfl, by decide, .inl R.gF⟩ takes0
        (fun W pn xe tk po => pss_cons (ps_if (pt_cmpR op_eq (pv 0) pe_int (nomark _)) (pss_one (ps_ret (pe_call (E := EW W 3) GK hr6 rfl d'.mK d'.FK.kp d'.bK .nil (passesW tk rfl) (pa_cons (pv 1) pa_nil)))) pss_nil)
          (pss_cons (ps_if (pt_cmpR op_eq (pv 0) pe_int (nomark _)) (pss_one (ps_ret (pe_call (E := EW W 3) GL hr6 rfl d'.mL d'.FL.kp d'.bL .nil (passesW tk rfl) (pa_cons (pv 1) pa_nil)))) pss_nil)
          (pss_one (ps_ret (pe_call (E := EW W 3) GS hr rfl mSo FSo.kp bSo .nil (passesW tk rfl) (pa_cons (pv 1) pa_nil))))))
        (fun a oe cls dd pn hz hf => pss_one (ps_ret (pe_callE (X := (cxOf CX0 P w K mg base ["door", "thing", "e"] "_law_asked" (defScope sAsked) f cdv A outer s H E).nox.suite a ((a, oe) :: pn)) (p := (a, oe)) (sp' := spErrA K CI CN a cls dd) (errA hz hf) GE hgd (hrE a) List.mem_cons_self rfl mEr FEr.kp bEr (pa_cons (pv 2) pa_nil)))), ?_, ?_⟩
      · intro W D' hW
        have fin : ∀ (dd : Addr) (H' : Hp), Same H H' → H' dd = some (XD o) → EW W 3 (.ref c) (some dd) H' := fun dd H' e' hd => hW dd H' e' hd (Dp.ex e' d o hdp)
        refine ⟨_, rfl, rfl, _, rfl, ?_⟩
        rcases hc with ⟨hn, rfl⟩ | ⟨rfl, m, l, xs, ps, u, rfl, hl, hlen, m0, m1, hask⟩
        · rcases hn with rfl | rfl
          · rw [int_eqT rfl]
            refine iteT ?_
            exact ⟨_, rfl, v, c, rfl, odd, fin⟩
          · rw [int_eqF (by decide)]
            refine iteF ?_
            refine ⟨_, rfl, rfl, _, rfl, ?_⟩
            rw [int_eqT rfl]
            refine iteT ?_
            exact ⟨_, rfl, v, c, rfl, odd, fin⟩
        · rw [int_eqF (by decide)]
          refine iteF ?_
          refine ⟨_, rfl, rfl, _, rfl, ?_⟩
          rw [int_eqF (by decide)]
          refine iteF ?_
          exact ⟨_, rfl, m, l, xs, ps, o, u, c, rfl, hl, hlen, m0, m1, hask, odd, fin⟩
      · intro a dd σ H' D' hσ hd hdp' k'
        exact ⟨_, hσ, c, dd, o, d, wd, rfl, rfl, rfl, hd, hw, sh, hdp', k'⟩
    obtain ⟨tb, ts, hPS, h1, h2⟩ := hT
    refine ⟨_, pss_one hPS, ?_⟩
    refine h1 _ _ fun dd H' e' hd hdp' σ hσ => ⟨true, ?_, fun _ a na => ?_, fun z => nomatch z⟩
    · rcases hw with ⟨rfl, _⟩ | ⟨rfl, _⟩
      · exact R.exN
      · exact R.exI
    refine h2 a dd _ H' _ ?_ hd hdp' fun t H2 e2 ht => k t H2 (e'.trans e2) ht
    rw [List.getElem?_set_self (by omega)]
end
end Fo

set_option Elab.async false
set_option linter.all false
set_option maxRecDepth 100000
set_option maxHeartbeats 2000000
namespace Fo
open PySem L2
/-! ### the law's own words of directions -/
abbrev sLKind : Stmt := top 25
abbrev sDirn : Stmt := top 26
abbrev sSame : Stmt := top 29
abbrev sBehind : Stmt := top 30
def spLKind : Sp := fun vs H Q _ => ∃ (a : Addr) (x y : Int), vs = [.ref a] ∧ H a = some (.tup [.int x, .int y]) ∧ Dir (x, y) ∧ ∀ H', Same H H' → Q (.int (kd (x, y) : Int)) H'
def spDirn : Sp := fun vs H Q _ => ∃ p : Addr, vs = [.ref p] ∧ PoolAt p H ∧ ∀ q x y H', But p H H' → PoolAt p H' → H' q = some (.tup [.int x, .int y]) → Dir (x, y) → Sm 80 x → Sm 80 y → Q (.ref q) H'
def spSame : Sp := fun vs H Q _ => ∃ (a b : Addr) (x y z t : Int), vs = [.ref a, .ref b] ∧ H a = some (.tup [.int x, .int y]) ∧ H b = some (.tup [.int z, .int t]) ∧ Sm 100 x ∧ Sm 100 y ∧ Sm 100 z ∧ Sm 100 t ∧ Q (.bl (sw (x, y) (z, t))) H
def spBehind : Sp := fun vs H Q _ => ∃ (a b : Addr) (x y z t : Int), vs = [.ref a, .ref b] ∧ H a = some (.tup [.int x, .int y]) ∧ H b = some (.tup [.int z, .int t]) ∧ Dir (x, y) ∧ Dir (z, t) ∧ Sm 100 x ∧ Sm 100 y ∧ Sm 100 z ∧ Sm 100 t ∧ ∀ H', Same H H' → Q (.bl (bef (z, t) (x, y))) H'
theorem seq_gen {t1 t2 : TS} {D : Ends} {σ : L2.St} {H : Hp} (cond : L2.St → Hp → Prop) (h1 : ∀ N : L2.St → Hp → Prop, (∀ σ' H', cond σ' H' → N σ' H') → t1 { D with nx := N } σ H) (h2 : ∀ σ' H', cond σ' H' → t2 D σ' H') : tSeq t1 t2 D σ H := h1 _ h2
abbrev tp (x y : Int) : PyData := .tuple [.int x, .int y]
theorem tp_sh (x y : Int) : SeqAt.shaped (tp x y) = true := rfl
theorem tp_dp {K : PySem.W.Frag} {H : Hp} {a : Addr} {x y : Int} (h : H a = some (.tup [.int x, .int y])) : Dp K H (.ref a) (tp x y) := .tup (SqT.of h) (.cons (.int x) (.cons (.int y) .nil))
theorem tp_eqv (x y z t : Int) : PyData.eqv (tp x y) (tp z t) = (decide (x = z) && decide (y = t)) := by
  by_cases h1 : x = z <;> by_cases h2 : y = t <;> simp [tp, PyData.eqv, PyData.eqvAll, h1, h2]
theorem sgL_shaped : SeqAt.shaped (.list sgD) = true := by decide +kernel
theorem sgn_by (x : Int) : (if decide (0 < x) = true then (1 : Int) else 0) - (if decide (x < 0) = true then (1 : Int) else 0) = sgn x := by
  unfold sgn
  by_cases h1 : 0 < x
  · rw [if_pos (decide_eq_true h1), if_pos h1, if_neg (by simp; omega)]
    rfl
  · rw [if_neg (by simpa using h1), if_neg h1]
    by_cases h2 : x < 0
    · rw [if_pos (decide_eq_true h2), if_pos h2]
      rfl
    · rw [if_neg (by simpa using h2), if_neg h2]
      rfl
section
variable {P : Program} {w : World} {K : PySem.W.Frag} {mg : Str → Option Value} {base : Heap}
theorem scLKind : FnScope ["d", "signs"] ["d"] (defScope sLKind) := ⟨rfl, rfl, rfl, by decide +kernel, rfl, by decide +kernel, by decide +kernel⟩
theorem ok_lkind {f : Addr} {fd : FuncData} (F : Fun K "_law_kind" "_law_kind" sLKind f fd) (T : TxtL mg) : FnOk P w K mg base CX0 1 f fd ["d"] spLKind := by
  refine F.ok scLKind (fun vs H Q E h => ?_) (fun cdv A outer s H vs Q E hr h => ?_)
  · obtain ⟨a, x, y, rfl, _⟩ := h
    rfl
  · obtain ⟨a, x, y, rfl, ha, hd, k⟩ := h
    refine ⟨_, pss_cons (ps_set (i := 1) scLKind.nd rfl (Or.inl rfl) (pe_lst (pa_cons (pe_tup (pa_cons pe_int (pa_cons pe_int pa_nil))) (pa_cons (pe_tup (pa_cons pe_int (pa_cons pe_int pa_nil))) (pa_cons (pe_tup (pa_cons pe_int (pa_cons pe_int pa_nil)))
        (pa_cons (pe_tup (pa_cons (pe_un un_neg pe_int) (pa_cons pe_int pa_nil))) (pa_cons (pe_tup (pa_cons (pe_un un_neg pe_int) (pa_cons pe_int pa_nil))) (pa_cons (pe_tup (pa_cons (pe_un un_neg pe_int) (pa_cons (pe_un un_neg pe_int) pa_nil)))
        (pa_cons (pe_tup (pa_cons pe_int (pa_cons (pe_un un_neg pe_int) pa_nil))) (pa_cons (pe_tup (pa_cons pe_int (pa_cons (pe_un un_neg pe_int) pa_nil))) pa_nil))))))))))
      (pss_one (ps_ret (pe_bm PySem.F.plainAttrs_list PySem.F.slot_list_index PySem.F.type_list_index (mt_indexD (u65 hr)) (pv 1) (pa_cons (pe_tup
        (pa_cons (pe_op op_sub (pe_callTy call_int1 (by rfl) T.int (by decide +kernel) (pa_cons (pe_cmpR op_gt (pe_ix ix_tup (pv 0) pe_int (fun _ _ => rfl)) pe_int (nomark _)) pa_nil)) (pe_callTy call_int1 (by rfl) T.int (by decide +kernel) (pa_cons (pe_cmpR op_lt (pe_ix ix_tup (pv 0) pe_int (fun _ _ => rfl)) pe_int (nomark _)) pa_nil)))
        (pa_cons (pe_op op_sub (pe_callTy call_int1 (by rfl) T.int (by decide +kernel) (pa_cons (pe_cmpR op_gt (pe_ix ix_tup (pv 0) pe_int (fun _ _ => rfl)) pe_int (nomark _)) pa_nil)) (pe_callTy call_int1 (by rfl) T.int (by decide +kernel) (pa_cons (pe_cmpR op_lt (pe_ix ix_tup (pv 0) pe_int (fun _ _ => rfl)) pe_int (nomark _)) pa_nil))) pa_nil))) pa_nil)))), ?_⟩
    have Z : 2 ≤ sizeLine := by decide
    refine ⟨Z, fun t0 n0 => ⟨Z, fun t1 n1 => ⟨Z, fun t2 n2 => ⟨_, rfl, Z, fun t3 n3 => ⟨_, rfl, Z, fun t4 n4 => ⟨_, rfl, _, rfl, Z, fun t5 n5 => ⟨_, rfl, Z, fun t6 n6 => ⟨_, rfl, Z, fun t7 n7 => ⟨(by show 8 ≤ sizeLine; decide), fun l nl => ?_⟩⟩⟩⟩⟩⟩⟩⟩⟩
    have g0 := same_new (o := .tup [.int 1, .int 0]) n0
    have g1 := same_new (o := .tup [.int 1, .int 1]) n1
    have g2 := same_new (o := .tup [.int 0, .int 1]) n2
    have g3 := same_new (o := .tup [.int (-1), .int 1]) n3
    have g4 := same_new (o := .tup [.int (-1), .int 0]) n4
    have g5 := same_new (o := .tup [.int (-1), .int (-1)]) n5
    have g6 := same_new (o := .tup [.int 0, .int (-1)]) n6
    have g7 := same_new (o := .tup [.int 1, .int (-1)]) n7
    have g8 := same_new (o := .lst [.ref t0, .ref t1, .ref t2, .ref t3, .ref t4, .ref t5, .ref t6, .ref t7]) nl
    have gg := g0.trans (g1.trans (g2.trans (g3.trans (g4.trans (g5.trans (g6.trans (g7.trans g8)))))))
    have ha8 := gg _ _ ha
    have q7 := g8 _ _ (upd_same (H := upd (upd (upd (upd (upd (upd (upd H t0 (.tup [.int 1, .int 0])) t1 (.tup [.int 1, .int 1])) t2 (.tup [.int 0, .int 1])) t3 (.tup [.int (-1), .int 1])) t4 (.tup [.int (-1), .int 0])) t5 (.tup [.int (-1), .int (-1)])) t6 (.tup [.int 0, .int (-1)])) (a := t7) (o := .tup [.int 1, .int (-1)]))
    have q6 := g8 _ _ (g7 _ _ upd_same)
    have q5 := g8 _ _ (g7 _ _ (g6 _ _ upd_same))
    have q4 := g8 _ _ (g7 _ _ (g6 _ _ (g5 _ _ upd_same)))
    have q3 := g8 _ _ (g7 _ _ (g6 _ _ (g5 _ _ (g4 _ _ upd_same))))
    have q2 := g8 _ _ (g7 _ _ (g6 _ _ (g5 _ _ (g4 _ _ (g3 _ _ upd_same)))))
    have q1 := g8 _ _ (g7 _ _ (g6 _ _ (g5 _ _ (g4 _ _ (g3 _ _ (g2 _ _ upd_same))))))
    have q0 := g8 _ _ (g7 _ _ (g6 _ _ (g5 _ _ (g4 _ _ (g3 _ _ (g2 _ _ (g1 _ _ upd_same)))))))
    have hl := upd_same (H := upd (upd (upd (upd (upd (upd (upd (upd H t0 (.tup [.int 1, .int 0])) t1 (.tup [.int 1, .int 1])) t2 (.tup [.int 0, .int 1])) t3 (.tup [.int (-1), .int 1])) t4 (.tup [.int (-1), .int 0])) t5 (.tup [.int (-1), .int (-1)])) t6 (.tup [.int 0, .int (-1)])) t7 (.tup [.int 1, .int (-1)])) (a := l) (o := .lst [.ref t0, .ref t1, .ref t2, .ref t3, .ref t4, .ref t5, .ref t6, .ref t7])
    refine ⟨_, rfl, .inl ⟨rfl, _, SqL.of hl⟩, ?_⟩
    have dl : Dp K _ (.ref l) (.list sgD) := .lst (SqL.of hl) (.cons (tp_dp q0) (.cons (tp_dp q1) (.cons (tp_dp q2) (.cons (tp_dp q3) (.cons (tp_dp q4) (.cons (tp_dp q5) (.cons (tp_dp q6) (.cons (tp_dp q7) .nil))))))))
    generalize (upd (upd (upd (upd (upd (upd (upd (upd (upd H t0 (.tup [.int 1, .int 0])) t1 (.tup [.int 1, .int 1])) t2 (.tup [.int 0, .int 1])) t3 (.tup [.int (-1), .int 1])) t4 (.tup [.int (-1), .int 0])) t5 (.tup [.int (-1), .int (-1)])) t6 (.tup [.int 0, .int (-1)])) t7 (.tup [.int 1, .int (-1)])) l (.lst [.ref t0, .ref t1, .ref t2, .ref t3, .ref t4, .ref t5, .ref t6, .ref t7])) = Hj at gg ha8 dl
    refine ⟨_, rfl, a, _, _, _, rfl, rfl, SqT.of ha8, atI_nat (j := 0) rfl, _, _, rfl, rfl, .inr ⟨_, rfl, ?_⟩⟩
    refine ⟨_, rfl, a, _, _, _, rfl, rfl, SqT.of ha8, atI_nat (j := 0) rfl, _, _, rfl, rfl, .inr ⟨_, rfl, _, _, rfl, rfl, ?_⟩⟩
    refine ⟨_, rfl, a, _, _, _, rfl, rfl, SqT.of ha8, atI_nat (j := 1) rfl, _, _, rfl, rfl, .inr ⟨_, rfl, ?_⟩⟩
    refine ⟨_, rfl, a, _, _, _, rfl, rfl, SqT.of ha8, atI_nat (j := 1) rfl, _, _, rfl, rfl, .inr ⟨_, rfl, _, _, rfl, rfl, Z, fun q nq => ?_⟩⟩
    dsimp only
    rw [sgn_by x, sgn_by y]
    have g9 := same_new (o := .tup [.int (sgn x), .int (sgn y)]) nq
    obtain ⟨i1, i2⟩ := kd_index hd
    refine ⟨l, .ref q, tp (sgn x) (sgn y), sgD, kd (x, y), _, rfl, rfl, Dp.ex g9 _ _ dl, tp_dp upd_same, sgL_shaped, tp_sh _ _, i1, eqv_self _ _, i2, ?_⟩
    exact k _ (gg.trans g9)
theorem scDirn : FnScope ["pool", "x", "y", "many"] ["pool"] (defScope sDirn) := ⟨rfl, rfl, rfl, by decide +kernel, rfl, by decide +kernel, by decide +kernel⟩
theorem menu4 {r : Int} (h0 : 0 ≤ r) (h1 : r < 4) : ∃ m : Int, atI [V.int 1, V.int 1, V.int 2, V.int ((10 : Int) ^ (20 : Int).toNat)] r = some (V.int m) ∧ 0 < m ∧ m.natAbs < 2 ^ 70 := by
  have : r = 0 ∨ r = 1 ∨ r = 2 ∨ r = 3 := by omega
  rcases this with rfl | rfl | rfl | rfl
  · exact ⟨1, rfl, by decide, by decide⟩
  · exact ⟨1, rfl, by decide, by decide⟩
  · exact ⟨2, rfl, by decide, by decide⟩
  · exact ⟨_, rfl, by decide, by decide⟩
theorem ok_dirn {f fD : Addr} {fd fdD : FuncData} (F : Fun K "_law_direction" "_law_direction" sDirn f fd) (T : TxtL mg) (FD : Fun K "_law_draw" "_law_draw" sDraw fD fdD) (bD : Binds K fdD ["pool", "many"] []) (mD : mg "_law_draw" = some (.ref fD)) :
    FnOk P w K mg base CX0 2 f fd ["pool"] spDirn := by
  have GD : FnOk P w K mg base CX0 1 fD fdD ["pool", "many"] spDraw := ok_draw FD T
  refine F.ok scDirn (fun vs H Q E h => ?_) (fun cdv A outer s H vs Q E hr h => ?_)
  · obtain ⟨p, rfl, _⟩ := h
    rfl
  · obtain ⟨p, rfl, hp, k⟩ := h
    refine ⟨_, pss_cons (ps_par (i := 1) (j := 2) (by rfl) scDirn.nd rfl rfl (by decide) rfl rfl (pa_cons (pe_op op_sub (pe_call GD hr rfl mD FD.kp bD .nil pass0 (pa_cons (pv 0) (pa_cons pe_int pa_nil))) pe_int) (pa_cons (pe_op op_sub (pe_call GD hr rfl mD FD.kp bD .nil pass0 (pa_cons (pv 0) (pa_cons pe_int pa_nil))) pe_int) pa_nil)) (by rfl))
      (pss_cons (ps_if (pt_cmpR (op_eqD hr.units) (pe_tup (pa_cons (pv 1) (pa_cons (pv 2) pa_nil))) (pe_tup (pa_cons pe_int (pa_cons pe_int pa_nil))) (nomark _)) (pss_one (ps_set (i := 1) scDirn.nd rfl (Or.inl rfl) pe_int)) pss_nil)
      (pss_cons (ps_set (i := 3) scDirn.nd rfl (Or.inl rfl) (pe_ix ix_list (pe_lst (pa_cons pe_int (pa_cons pe_int (pa_cons pe_int (pa_cons (pe_op op_pow pe_int pe_int) pa_nil))))) (pe_call GD hr rfl mD FD.kp bD .nil pass0 (pa_cons (pv 0) (pa_cons pe_int pa_nil))) (fun _ _ => rfl)))
      (pss_one (ps_ret (pe_tup (pa_cons (pe_op op_mulW (pv 1) (pv 3)) (pa_cons (pe_op op_mulW (pv 2) (pv 3)) pa_nil))))))), ?_⟩
    have sm : ∀ x : Int, -4 ≤ x → x ≤ 4 → Sm 10 x := fun x h1 h2 => by
      unfold Sm
      omega
    refine seq_gen (fun σ' H' => ∃ r1 r2 : Int, σ' = [some (.ref p), some (.int (r1 - 4)), some (.int (r2 - 4)), none] ∧ 0 ≤ r1 ∧ r1 < 9 ∧ 0 ≤ r2 ∧ r2 < 9 ∧ But p H H' ∧ PoolAt p H') (fun N hN => ?_) ?_
    · refine ⟨_, rfl, p, 9, rfl, hp, by decide, by decide, fun r1 H1 r10 r11 b1 p1 => ⟨_, _, rfl, rfl, ?_⟩⟩
      refine ⟨_, rfl, p, 9, rfl, p1, by decide, by decide, fun r2 H2 r20 r21 b2 p2 => ⟨_, _, rfl, rfl, _, _, rfl, ?_⟩⟩
      exact hN _ _ ⟨r1, r2, rfl, r10, r11, r20, r21, b1.trans b2, p2⟩
    rintro σ H2 ⟨r1, r2, rfl, r10, r11, r20, r21, b2, p2⟩
    refine seq_gen (fun σ' H' => ∃ x y : Int, σ' = [some (.ref p), some (.int x), some (.int y), none] ∧ Dir (x, y) ∧ -4 ≤ x ∧ x ≤ 4 ∧ -4 ≤ y ∧ y ≤ 4 ∧ But p H H' ∧ PoolAt p H') (fun N hN => ?_) ?_
    · refine ⟨_, rfl, _, rfl, (by show 2 ≤ sizeLine; decide), fun t1 n1 => ⟨(by show 2 ≤ sizeLine; decide), fun t2 n2 => ?_⟩⟩
      have g1 := same_new (o := .tup [.int (r1 - 4), .int (r2 - 4)]) n1
      have g2 := same_new (o := .tup [.int 0, .int 0]) n2
      refine ⟨tp (r1 - 4) (r2 - 4), tp 0 0, tp_dp (g2 _ _ upd_same), tp_dp upd_same, tp_sh _ _, tp_sh _ _, _, rfl, ?_⟩
      rw [tp_eqv]
      have g12 := g1.trans g2
      have p3 := p2.ex g12
      have b3 := b2.trans (But.of (p := p) g12)
      by_cases hz : r1 - 4 = 0 ∧ r2 - 4 = 0
      · rw [decide_eq_true hz.1, decide_eq_true hz.2]
        refine iteT ?_
        exact hN _ _ ⟨3, r2 - 4, rfl, .inl (show (3 : Int) ≠ 0 by decide), by omega, by omega, by omega, by omega, b3, p3⟩
      · have hf : (decide (r1 - 4 = 0) && decide (r2 - 4 = 0)) = false := by
          rw [← Bool.decide_and]
          exact decide_eq_false hz
        rw [hf]
        refine iteF ?_
        refine hN _ _ ⟨r1 - 4, r2 - 4, rfl, ?_, by omega, by omega, by omega, by omega, b3, p3⟩
        show r1 - 4 ≠ 0 ∨ r2 - 4 ≠ 0
        omega
    rintro σ H3 ⟨x, y, rfl, hd, x0, x1, y0, y1, b3, p3⟩
    refine ⟨_, _, rfl, rfl, ⟨by decide, by decide, by decide⟩, (by show 4 ≤ sizeLine; decide), fun l nl => ?_⟩
    have gl := same_new (o := .lst [.int 1, .int 1, .int 2, .int ((10 : Int) ^ (20 : Int).toNat)]) nl
    have ne : l ≠ p := by
      obtain ⟨i, j, h, _⟩ := p3
      exact (ne_of_none h nl).symm
    refine ⟨_, rfl, p, 4, rfl, p3.ex gl, by decide, by decide, fun r H4 r0 r1' b4 p4 => ?_⟩
    obtain ⟨m, hm, m0, m1⟩ := menu4 r0 r1'
    refine ⟨l, _, _, _, rfl, rfl, SqL.of (b4 _ _ ne upd_same), hm, ?_⟩
    refine ⟨_, rfl, _, rfl, _, _, rfl, rfl, wide_mul (sm x x0 x1) m1 (by decide) (by decide) (by decide), _, rfl, _, rfl, _, _, rfl, rfl, wide_mul (sm y y0 y1) m1 (by decide) (by decide) (by decide), (by show 2 ≤ sizeLine; decide), fun q nq => ?_⟩
    exact k q (x * m) (y * m) _ ((b3.trans (But.of gl)).trans (b4.trans (But.of (same_new nq)))) (p4.ex (same_new nq)) upd_same (dir_mul (a := (x, y)) hd m0) (wide_lt (sm x x0 x1) m1) (wide_lt (sm y y0 y1) m1)
theorem scSame : FnScope ["one", "other"] ["one", "other"] (defScope sSame) := ⟨rfl, rfl, rfl, by decide +kernel, rfl, by decide +kernel, by decide +kernel⟩
theorem ok_same {f : Addr} {fd : FuncData} (F : Fun K "_law_same_way" "_law_same_way" sSame f fd) : FnOk P w K mg base CX0 1 f fd ["one", "other"] spSame := by
  refine F.ok scSame (fun vs H Q E h => ?_) (fun cdv A outer s H vs Q E hr h => ?_)
  · obtain ⟨a, b, x, y, z, t, rfl, _⟩ := h
    rfl
  · obtain ⟨a, b, x, y, z, t, rfl, ha, hb, sx, sy, sz, st, k⟩ := h
    refine ⟨_, pss_one (ps_ret (pe_and (pe_cmpR op_eq (pe_op op_mulW (pe_ix ix_tup (pv 0) pe_int (fun _ _ => rfl)) (pe_ix ix_tup (pv 1) pe_int (fun _ _ => rfl))) (pe_op op_mulW (pe_ix ix_tup (pv 0) pe_int (fun _ _ => rfl)) (pe_ix ix_tup (pv 1) pe_int (fun _ _ => rfl))) (nomark _))
      (pe_one (pe_cmpR op_gt (pe_op op_add (pe_op op_mulW (pe_ix ix_tup (pv 0) pe_int (fun _ _ => rfl)) (pe_ix ix_tup (pv 1) pe_int (fun _ _ => rfl))) (pe_op op_mulW (pe_ix ix_tup (pv 0) pe_int (fun _ _ => rfl)) (pe_ix ix_tup (pv 1) pe_int (fun _ _ => rfl)))) pe_int (nomark _))))), ?_⟩
    have A0 : ∀ (j : Nat), True := fun _ => trivial
    refine ⟨_, rfl, a, _, _, _, rfl, rfl, SqT.of ha, atI_nat (j := 0) rfl, _, rfl, b, _, _, _, rfl, rfl, SqT.of hb, atI_nat (j := 1) rfl, _, _, rfl, rfl, sx.mul st (by decide) (by decide), ?_⟩
    refine ⟨_, rfl, a, _, _, _, rfl, rfl, SqT.of ha, atI_nat (j := 1) rfl, _, rfl, b, _, _, _, rfl, rfl, SqT.of hb, atI_nat (j := 0) rfl, _, _, rfl, rfl, sy.mul sz (by decide) (by decide), rfl, _, rfl, ?_⟩
    unfold sw at k
    by_cases h1 : x * t = y * z
    · rw [int_eqT h1]
      refine iteT ?_
      rw [decide_eq_true h1] at k
      refine ⟨_, rfl, a, _, _, _, rfl, rfl, SqT.of ha, atI_nat (j := 0) rfl, _, rfl, b, _, _, _, rfl, rfl, SqT.of hb, atI_nat (j := 0) rfl, _, _, rfl, rfl, sx.mul sz (by decide) (by decide), ?_⟩
      refine ⟨_, rfl, a, _, _, _, rfl, rfl, SqT.of ha, atI_nat (j := 1) rfl, _, rfl, b, _, _, _, rfl, rfl, SqT.of hb, atI_nat (j := 1) rfl, _, _, rfl, rfl, sy.mul st (by decide) (by decide), _, _, rfl, rfl, _, _, rfl, rfl, ?_⟩
      simpa using k
    · rw [int_eqF h1]
      refine iteF ?_
      rw [decide_eq_false h1] at k
      simpa using k
theorem scBehind : FnScope ["one", "other", "kinds_here"] ["one", "other"] (defScope sBehind) := ⟨rfl, rfl, rfl, by decide +kernel, rfl, by decide +kernel, by decide +kernel⟩
theorem ok_behind {f fLK : Addr} {fd fdLK : FuncData} (F : Fun K "_law_is_behind" "_law_is_behind" sBehind f fd) (T : TxtL mg) (FLK : Fun K "_law_kind" "_law_kind" sLKind fLK fdLK) (bLK : Binds K fdLK ["d"] []) (mLK : mg "_law_kind" = some (.ref fLK)) :
    FnOk P w K mg base CX0 2 f fd ["one", "other"] spBehind := by
  have GL : FnOk P w K mg base CX0 1 fLK fdLK ["d"] spLKind := ok_lkind FLK T
  refine F.ok scBehind (fun vs H Q E h => ?_) (fun cdv A outer s H vs Q E hr h => ?_)
  · obtain ⟨a, b, x, y, z, t, rfl, _⟩ := h
    rfl
  · obtain ⟨a, b, x, y, z, t, rfl, ha, hb, d1, d2, sx, sy, sz, st, k⟩ := h
    refine ⟨_, pss_cons (ps_set (i := 2) scBehind.nd rfl (Or.inl rfl) (pe_tup (pa_cons (pe_call GL hr rfl mLK FLK.kp bLK .nil pass0 (pa_cons (pv 0) pa_nil)) (pa_cons (pe_call GL hr rfl mLK FLK.kp bLK .nil pass0 (pa_cons (pv 1) pa_nil)) pa_nil))))
      (pss_cons (ps_if (pt_cmpR op_ne (pe_ix ix_tup (pv 2) pe_int (fun _ _ => rfl)) (pe_ix ix_tup (pv 2) pe_int (fun _ _ => rfl)) (nomark _)) (pss_one (ps_ret (pe_cmpR op_gt (pe_ix ix_tup (pv 2) pe_int (fun _ _ => rfl)) (pe_ix ix_tup (pv 2) pe_int (fun _ _ => rfl)) (nomark _)))) pss_nil)
      (pss_one (ps_ret (pe_cmpR op_lt (pe_op op_sub (pe_op op_mulW (pe_ix ix_tup (pv 0) pe_int (fun _ _ => rfl)) (pe_ix ix_tup (pv 1) pe_int (fun _ _ => rfl))) (pe_op op_mulW (pe_ix ix_tup (pv 0) pe_int (fun _ _ => rfl)) (pe_ix ix_tup (pv 1) pe_int (fun _ _ => rfl)))) pe_int (nomark _))))), ?_⟩
    refine ⟨_, rfl, a, x, y, rfl, ha, d1, fun H1 e1 => ?_⟩
    refine ⟨_, rfl, b, z, t, rfl, e1 _ _ hb, d2, fun H2 e2 => ⟨(by show 2 ≤ sizeLine; decide), fun q nq => ?_⟩⟩
    have e3 := same_new (o := .tup [.int (kd (x, y) : Int), .int (kd (z, t) : Int)]) nq
    have ee := e1.trans (e2.trans e3)
    have hq := upd_same (H := H2) (a := q) (o := .tup [.int (kd (x, y) : Int), .int (kd (z, t) : Int)])
    refine ⟨_, rfl, q, _, _, _, rfl, rfl, SqT.of hq, atI_nat (j := 0) rfl, _, rfl, q, _, _, _, rfl, rfl, SqT.of hq, atI_nat (j := 1) rfl, rfl, _, rfl, ?_⟩
    have kk := k _ ee
    unfold bef at kk
    by_cases h1 : kd (z, t) = kd (x, y)
    · rw [if_pos h1] at kk
      rw [int_eqT (by rw [h1])]
      refine iteF ?_
      have ha2 := ee _ _ ha
      have hb2 := ee _ _ hb
      refine ⟨_, rfl, a, _, _, _, rfl, rfl, SqT.of ha2, atI_nat (j := 0) rfl, _, rfl, b, _, _, _, rfl, rfl, SqT.of hb2, atI_nat (j := 1) rfl, _, _, rfl, rfl, sx.mul st (by decide) (by decide), ?_⟩
      refine ⟨_, rfl, a, _, _, _, rfl, rfl, SqT.of ha2, atI_nat (j := 1) rfl, _, rfl, b, _, _, _, rfl, rfl, SqT.of hb2, atI_nat (j := 0) rfl, _, _, rfl, rfl, sy.mul sz (by decide) (by decide), _, _, rfl, rfl, _, _, rfl, rfl, ?_⟩
      have e : decide (x * t - y * z < 0) = decide (0 < crs (z, t) (x, y)) := by
        unfold crs
        dsimp only
        rw [Int.mul_comm z y, Int.mul_comm t x]
        exact decide_eq_decide.mpr (by omega)
      dsimp only
      rw [e]
      exact kk
    · rw [if_neg h1] at kk
      rw [int_eqF (by omega)]
      refine iteT ?_
      refine ⟨_, rfl, q, _, _, _, rfl, rfl, SqT.of hq, atI_nat (j := 0) rfl, _, rfl, q, _, _, _, rfl, rfl, SqT.of hq, atI_nat (j := 1) rfl, _, _, rfl, rfl, ?_⟩
      have e : decide ((kd (z, t) : Int) < (kd (x, y) : Int)) = decide (kd (z, t) < kd (x, y)) := decide_eq_decide.mpr (by omega)
      dsimp only
      rw [e]
      exact kk
end
end Fo

set_option Elab.async false
set_option linter.all false
set_option maxRecDepth 100000
set_option maxHeartbeats 2000000
namespace Fo
open PySem L2
/-! ### lists of pairs -/
/-- a list of pairs -/
inductive TL (H : Hp) : List V → List (Int × Int) → Prop
  | nil : TL H [] []
  | cons {q : Addr} {p : Int × Int} {xs : List V} {ps : List (Int × Int)} : H q = some (.tup [.int p.1, .int p.2]) → TL H xs ps → TL H (.ref q :: xs) (p :: ps)
theorem TL.ex {H H' : Hp} {xs : List V} {ps : List (Int × Int)} (e : Same H H') (h : TL H xs ps) : TL H' xs ps := by
  induction h with
  | nil => exact .nil
  | cons h _ ih => exact .cons (e _ _ h) ih
theorem TL.but {H H' : Hp} {D : Addr} {ys : List V} {xs : List V} {ps : List (Int × Int)} (hD : H D = some (.lst ys)) (b : But D H H') (h : TL H xs ps) : TL H' xs ps := by
  induction h with
  | nil => exact .nil
  | cons h _ ih => exact .cons (b _ _ (ne_of h hD (by intro z; cases z)) h) ih
theorem TL.length {H : Hp} {xs : List V} {ps : List (Int × Int)} (h : TL H xs ps) : xs.length = ps.length := by
  induction h with
  | nil => rfl
  | cons h _ ih => rw [List.length_cons, List.length_cons, ih]
theorem TL.append {H : Hp} {xs ys : List V} {ps qs : List (Int × Int)} (h : TL H xs ps) (h2 : TL H ys qs) : TL H (xs ++ ys) (ps ++ qs) := by
  induction h with
  | nil => exact h2
  | cons h _ ih => exact .cons h ih
theorem TL.take {H : Hp} {xs : List V} {ps : List (Int × Int)} (h : TL H xs ps) : ∀ n, TL H (xs.take n) (ps.take n) := by
  induction h with
  | nil =>
    intro n
    rw [List.take_nil, List.take_nil]
    exact .nil
  | cons h _ ih =>
    intro n
    cases n with
    | zero => exact .nil
    | succ n => exact .cons h (ih n)
theorem TL.drop {H : Hp} {xs : List V} {ps : List (Int × Int)} (h : TL H xs ps) : ∀ n, TL H (xs.drop n) (ps.drop n) := by
  induction h with
  | nil =>
    intro n
    rw [List.drop_nil, List.drop_nil]
    exact .nil
  | cons h t ih =>
    intro n
    cases n with
    | zero => exact .cons h t
    | succ n => exact ih n
theorem TL.get {H : Hp} {xs : List V} {ps : List (Int × Int)} (h : TL H xs ps) : ∀ {i : Nat} {x : V}, xs[i]? = some x → ∃ q p, x = V.ref q ∧ ps[i]? = some p ∧ H q = some (.tup [.int p.1, .int p.2]) := by
  induction h with
  | nil =>
    intro i x hx
    simp at hx
  | @cons q p _ _ h _ ih =>
    intro i x hx
    cases i with
    | zero =>
      simp at hx
      exact ⟨q, p, hx.symm, rfl, h⟩
    | succ i =>
      simp at hx
      obtain ⟨q2, p2, e1, e2, e3⟩ := ih hx
      exact ⟨q2, p2, e1, by simpa using e2, e3⟩
def pD (p : Int × Int) : PyData := .tuple [.int p.1, .int p.2]
theorem TL.dp {K : PySem.W.Frag} {H : Hp} {xs : List V} {ps : List (Int × Int)} (h : TL H xs ps) : DpAll K H xs (ps.map pD) := by
  induction h with
  | nil => exact .nil
  | cons h _ ih => exact .cons (.tup (SqT.of h) (.cons (.int _) (.cons (.int _) .nil))) ih
theorem pDs_lay : ∀ ps : List (Int × Int), PyData.canLayAll0 (ps.map pD) = true
  | [] => by simp [PyData.canLayAll0]
  | p :: ps => by simp [PyData.canLayAll0, PyData.canLay0, pD, pDs_lay ps]
theorem pDs_depth : ∀ ps : List (Int × Int), PyData.depthAll (ps.map pD) ≤ 2
  | [] => by simp [PyData.depthAll]
  | p :: ps => by
    have h1 := pDs_depth ps
    have h2 : (pD p).depth ≤ 2 := by simp [pD, PyData.depth, PyData.depthAll]
    simp only [List.map_cons, PyData.depthAll]
    omega
theorem pDs_shaped (ps : List (Int × Int)) : SeqAt.shaped (.list (ps.map pD)) = true := by
  have h1 := pDs_depth ps
  have h2 : PyData.depth (.list (ps.map pD)) ≤ 64 := by
    simp only [PyData.depth]
    omega
  show (PyData.canLay0 (.list (ps.map pD)) && decide (PyData.depth (.list (ps.map pD)) ≤ 64)) = true
  rw [Bool.and_eq_true]
  exact ⟨by simp only [PyData.canLay0]; exact pDs_lay ps, decide_eq_true h2⟩
theorem pDs_refl (ps : List (Int × Int)) : PyData.eqv (.list (ps.map pD)) (.list (ps.map pD)) = true := SeqAt.eqv_refl _ (by simp only [PyData.canLay0]; exact pDs_lay ps)
theorem ins_map {α : Type} {f : α → Int × Int} (e : α) (l : List α) : (insB f e l).map f = insB id (f e) (l.map f) := by
  unfold insB
  induction l with
  | nil => rfl
  | cons a l ih =>
    simp only [List.map_cons, id]
    rw [List.takeWhile_cons, List.dropWhile_cons, List.takeWhile_cons, List.dropWhile_cons]
    cases h : bef (f e) (f a) with
    | true => simp
    | false =>
      simp only [Bool.not_false, if_true, List.cons_append, List.map_cons]
      rw [ih]
      rfl
theorem foldl_map' {α : Type} {f : α → Int × Int} : ∀ (l acc : List α), (l.foldl (fun acc e => insB f e acc) acc).map f = (l.map f).foldl (fun acc e => insB id e acc) (acc.map f)
  | [], acc => rfl
  | e :: l, acc => by
    show (l.foldl (fun acc e => insB f e acc) (insB f e acc)).map f = (l.map f).foldl (fun acc e => insB id e acc) (insB id (f e) (acc.map f))
    rw [foldl_map' l, ins_map]
theorem sort_map {α : Type} {f : α → Int × Int} (l : List α) : (sortB f l).map f = sortB id (l.map f) := foldl_map' l []
theorem TL.of_get {H : Hp} : ∀ {xs : List V} {ps : List (Int × Int)}, xs.length = ps.length → (∀ (i : Nat) x, xs[i]? = some x → ∃ q p, x = V.ref q ∧ ps[i]? = some p ∧ H q = some (.tup [.int p.1, .int p.2])) → TL H xs ps
  | [], [], _, _ => .nil
  | [], p :: ps, h, _ => by simp at h
  | x :: xs, [], h, _ => by simp at h
  | x :: xs, p :: ps, h, hg => by
    obtain ⟨q, p', rfl, hp, hq⟩ := hg 0 x rfl
    cases hp
    exact .cons hq (TL.of_get (by simpa using h) fun i y hy => hg (i + 1) y (by simpa using hy))
theorem tup_ne {pl q : Addr} {H : Hp} {xs : List V} (hp : PoolAt pl H) (h : H q = some (.tup xs)) : q ≠ pl := by
  obtain ⟨i, j, hp, _⟩ := hp
  exact ne_of h hp (by intro z; cases z)
theorem pair_no (x y : Int) : (ptF x y).lookup ("pair" : Str) = none := ptF_no _ _ (by decide +kernel) (by decide +kernel)
theorem refs_get {S : List Ent} {i : Nat} {x : V} (h : (refs S)[i]? = some x) : ∃ e, S[i]? = some e ∧ x = V.ref e.1 := by
  unfold refs at h
  rw [List.getElem?_map] at h
  cases q : S[i]? with
  | none =>
    rw [q] at h
    cases h
  | some e =>
    rw [q] at h
    exact ⟨e, rfl, (Option.some.inj h).symm⟩
theorem refs_len (S : List Ent) : (refs S).length = S.length := List.length_map ..
theorem refs_eq (S : List Ent) : refs S = (S.map Prod.fst).map V.ref := by
  unfold refs
  rw [List.map_map]
  rfl
end Fo

set_option Elab.async false
set_option linter.all false
set_option maxRecDepth 100000
set_option maxHeartbeats 2000000
namespace Fo
open PySem L2
/-- [te for y in l]: what each item is -/
theorem lc_gen {K : PySem.W.Frag} {l D : Addr} {te : TE} {σ : L2.St} {H1 : Hp} {xs : List V} {sl : Nat} {Qd : Hp → Prop} (R : Nat → V → Hp → Prop) (rex : ∀ i v H H', Same H H' → R i v H → R i v H') (rbut : ∀ i v H H' D ys, H D = some (HO.lst ys) → But D H H' → R i v H → R i v H')
    (hl : SqL K H1 l xs) (hn : xs.length ≤ 1000)
    (step : ∀ i x H', xs[i]? = some x → Same H1 H' → ∀ Q' : VK, (∀ v H'', Same H' H'' → R i v H'' → Q' v H'') → te ((wipe σ [sl]).set sl (some x)) H' Q')
    (hd : ∀ H' vs, Same H1 H' → H' D = some (.lst vs) → vs.length = xs.length → (∀ i v, vs[i]? = some v → R i v H') → Qd H') (hD : H1 D = none) :
    ∃ W : Nat → Nat → Hp → Prop, (∃ m, W 0 m (upd H1 D (.lst []))) ∧ ∀ i m H, W i m H → ((Itl K l).stop i H ∧ Qd H) ∨
      ((Itl K l).go i H ∧ ∃ Nx : Hp → Prop, (∀ H', Nx H' → ∃ m', m' < m ∧ W (i + 1) m' H') ∧ ∀ x H', (Itl K l).yld i H x H' → gName sl x (wipe σ [sl]) H' fun σ2 H2 => wipe σ2 [sl] = wipe σ [sl] ∧ tYes σ2 H2 fun b H3 =>
      if b = true then te σ2 H3 fun y H4 => ∃ acc, H4 D = some (.lst acc) ∧ acc.length < sizeLine ∧ Nx (upd H4 D (.lst (acc ++ [y]))) else Nx H3) := by
  refine lc_list (K := K) (a := l) (xs := xs) (fun i H' => Same H1 H' ∧ ∃ vs : List V, H' D = some (.lst vs) ∧ vs.length = i ∧ ∀ j v, vs[j]? = some v → R j v H') ?_ ?_ ?_ ?_
  · exact ⟨same_new hD, [], upd_same, rfl, fun j v h => by simp at h⟩
  · rintro i H' _ ⟨e, _⟩
    exact e.seq hl
  · rintro i x H' hx ⟨e, vs, hv, hlen, hp⟩
    have hi : i < xs.length := (List.getElem?_eq_some_iff.mp hx).1
    show wipe _ _ = _ ∧ _
    refine ⟨?_, ?_⟩
    · show ((σ.set sl none).set sl (some x)).set sl none = σ.set sl none
      rw [List.set_set, List.set_set]
    · unfold tYes
      dsimp only
      rw [if_pos rfl]
      refine step i x H' hx e _ fun v H'' e2 h2 => ?_
      have hv2 := e2 _ _ hv
      refine ⟨vs, hv2, Nat.lt_of_lt_of_le (by omega : vs.length < 1001) (by decide), (But.upd.same hD (e.trans e2)), vs ++ [v], upd_same, by rw [List.length_append, hlen]; rfl, fun j u hu => ?_⟩
      by_cases hj : j < vs.length
      · rw [List.getElem?_append_left hj] at hu
        exact rbut _ _ _ _ _ _ hv2 But.upd (rex _ _ _ _ e2 (hp j u hu))
      · have hj2 : j = vs.length := by
          have := (List.getElem?_eq_some_iff.mp hu).1
          rw [List.length_append] at this
          simp at this
          omega
        subst hj2
        rw [List.getElem?_append_right (Nat.le_refl _)] at hu
        simp at hu
        subst hu
        rw [hlen]
        exact rbut _ _ _ _ _ _ hv2 But.upd h2
  · rintro H' ⟨e, vs, hv, hlen, hp⟩
    exact hd H' vs e hv hlen hp
end Fo

set_option Elab.async false
set_option linter.all false
set_option maxRecDepth 100000
set_option maxHeartbeats 2000000
namespace Fo
open PySem L2
/-! ### _law_in_order -/
abbrev sInOrder : Stmt := top 31
abbrev ioN : List Str := ["ways", "found", "pairs", "way", "point", "k", "one"]
theorem scInOrder : FnScope ioN ["ways", "found"] (defScope sInOrder) := ⟨rfl, rfl, rfl, by decide +kernel, rfl, by decide +kernel, by decide +kernel⟩
section
variable {X : Cx} {T : String} {name : Str} {id : String} {r : V → List V → Hp → VK → Prop} {o e : Expr} {es : List Expr} {to : TE} {t : TA} {apos cpos : Pos} {K0 : PySem.W.Frag}
theorem pe_bmK (hK : X.K = K0) (pa : PlainAttrs T) (slot : Slot T name id) (hty : typeOf (.builtin id) = pure (.type "method_descriptor")) (hm : MtR X id r) (ho : PE X o to) (ha : PA X (e :: es) t)
    (hbase : attributeBase o name X.env (eval o X.env) = eval o X.env := by rfl)
    (hfew : ((backTo cpos (starEach (e :: es) X.env)).all (fun x => !x.1) && (backToKw cpos (keywordEach [] X.env)).all (fun x => x.1.isSome)
      && decide ((e :: es).length + ([] : List Keyword).length + (if ([] : List Keyword).isEmpty then 0 else 1) < 30)) = true := by rfl)
    (hline : (apos.endLine == cpos.line) = true := by rfl) (hs : starEach (e :: es) X.env = (false, eval e X.env) :: starEach es X.env := by rfl) (hplain : (backTo cpos (starEach es X.env)).any (·.1) = false := by rfl) :
    PE X (.Call (.Attribute o name apos) (e :: es) [] cpos) (tBM K0 T r to t) := by
  subst hK
  exact pe_bm pa slot hty hm ho ha hbase hfew hline hs hplain
theorem mt_countK (hK : X.K = K0) (hu : X.A.units + 65 < cLine) : MtR X "list.count" (rCountD K0) := by
  subst hK
  exact mt_countD hu
theorem ix_listK (hK : X.K = K0) : IxR X (rIxL K0) := by
  subst hK
  exact ix_list
end
theorem neT {i j : Int} (h : i = j) : (!decide (V.int i = V.int j)) = false := by
  rw [int_eqT h]
  rfl
/-- [1 for y in l if ..] where no test holds -/
theorem lc_none {K : PySem.W.Frag} {l D : Addr} {te : TE} {tt : TT} {σ : L2.St} {H1 : Hp} {xs : List V} {sl : Nat} {Qd : Hp → Prop} (hl : SqL K H1 l xs)
    (step : ∀ (i : Nat) (x : V) H', xs[i]? = some x → Same H1 H' → ∀ Q' : Bool → Hp → Prop, (∀ H'', Same H' H'' → Q' false H'') → tt ((wipe σ [sl]).set sl (some x)) H' Q')
    (hd : ∀ H', Same H1 H' → H' D = some (.lst []) → Qd H') (hD : H1 D = none) :
    ∃ W : Nat → Nat → Hp → Prop, (∃ m, W 0 m (upd H1 D (.lst []))) ∧ ∀ i m H, W i m H → ((Itl K l).stop i H ∧ Qd H) ∨
      ((Itl K l).go i H ∧ ∃ Nx : Hp → Prop, (∀ H', Nx H' → ∃ m', m' < m ∧ W (i + 1) m' H') ∧ ∀ x H', (Itl K l).yld i H x H' → gName sl x (wipe σ [sl]) H' fun σ2 H2 => wipe σ2 [sl] = wipe σ [sl] ∧ tt σ2 H2 fun b H3 =>
      if b = true then te σ2 H3 fun y H4 => ∃ acc, H4 D = some (.lst acc) ∧ acc.length < sizeLine ∧ Nx (upd H4 D (.lst (acc ++ [y]))) else Nx H3) := by
  refine lc_list (K := K) (a := l) (xs := xs) (fun i H' => Same H1 H' ∧ H' D = some (.lst [])) ⟨same_new hD, upd_same⟩ (fun i H' _ h => h.1.seq hl) ?_ (fun H' h => hd H' h.1 h.2)
  rintro i x H' hx ⟨e, hv⟩
  refine ⟨?_, ?_⟩
  · show ((σ.set sl none).set sl (some x)).set sl none = σ.set sl none
    rw [List.set_set, List.set_set]
  · refine step i x H' hx e _ fun H'' e2 => ?_
    rw [if_neg Bool.false_ne_true]
    exact ⟨e.trans e2, e2 _ _ hv⟩
theorem lc_noneR {lo : Int} {n : Nat} {D : Addr} {te : TE} {tt : TT} {σ : L2.St} {H1 : Hp} {sl : Nat} {Qd : Hp → Prop}
    (step : ∀ (i : Nat) H', i < n → Same H1 H' → ∀ Q' : Bool → Hp → Prop, (∀ H'', Same H' H'' → Q' false H'') → tt ((wipe σ [sl]).set sl (some (.int (lo + i)))) H' Q')
    (hd : ∀ H', Same H1 H' → H' D = some (.lst []) → Qd H') (hD : H1 D = none) :
    ∃ W : Nat → Nat → Hp → Prop, (∃ m, W 0 m (upd H1 D (.lst []))) ∧ ∀ i m H, W i m H → ((Itr lo n).stop i H ∧ Qd H) ∨
      ((Itr lo n).go i H ∧ ∃ Nx : Hp → Prop, (∀ H', Nx H' → ∃ m', m' < m ∧ W (i + 1) m' H') ∧ ∀ x H', (Itr lo n).yld i H x H' → gName sl x (wipe σ [sl]) H' fun σ2 H2 => wipe σ2 [sl] = wipe σ [sl] ∧ tt σ2 H2 fun b H3 =>
      if b = true then te σ2 H3 fun y H4 => ∃ acc, H4 D = some (.lst acc) ∧ acc.length < sizeLine ∧ Nx (upd H4 D (.lst (acc ++ [y]))) else Nx H3) := by
  refine lc_range (lo := lo) (n := n) (fun i H' => Same H1 H' ∧ H' D = some (.lst [])) ⟨same_new hD, upd_same⟩ ?_ (fun H' h => hd H' h.1 h.2)
  rintro i H' hi ⟨e, hv⟩
  refine ⟨?_, ?_⟩
  · show ((σ.set sl none).set sl (some (.int (lo + i)))).set sl none = σ.set sl none
    rw [List.set_set, List.set_set]
  · refine step i H' hi e _ fun H'' e2 => ?_
    rw [if_neg Bool.false_ne_true]
    exact ⟨e.trans e2, e2 _ _ hv⟩
/-- [one for one in l if ..]: a list of pairs, those kept of which the test holds -/
theorem lc_keep {K : PySem.W.Frag} {l D : Addr} {tt : TT} {σ : L2.St} {H1 : Hp} {xs : List V} {ps : List (Int × Int)} {sl : Nat} {Qd : Hp → Prop} (f : Int × Int → Bool) (hl : SqL K H1 l xs) (hT : TL H1 xs ps) (hn : xs.length ≤ 1000) (hsl : sl < σ.length)
    (step : ∀ q p H', p ∈ ps → H' q = some (.tup [.int p.1, .int p.2]) → Same H1 H' → ∀ Q' : Bool → Hp → Prop, (∀ H'', Same H' H'' → Q' (f p) H'') → tt ((wipe σ [sl]).set sl (some (.ref q))) H' Q')
    (hd : ∀ H' vs, Same H1 H' → H' D = some (.lst vs) → TL H' vs (ps.filter f) → Qd H') (hD : H1 D = none) :
    ∃ W : Nat → Nat → Hp → Prop, (∃ m, W 0 m (upd H1 D (.lst []))) ∧ ∀ i m H, W i m H → ((Itl K l).stop i H ∧ Qd H) ∨
      ((Itl K l).go i H ∧ ∃ Nx : Hp → Prop, (∀ H', Nx H' → ∃ m', m' < m ∧ W (i + 1) m' H') ∧ ∀ x H', (Itl K l).yld i H x H' → gName sl x (wipe σ [sl]) H' fun σ2 H2 => wipe σ2 [sl] = wipe σ [sl] ∧ tt σ2 H2 fun b H3 =>
      if b = true then tVar sl σ2 H3 fun y H4 => ∃ acc, H4 D = some (.lst acc) ∧ acc.length < sizeLine ∧ Nx (upd H4 D (.lst (acc ++ [y]))) else Nx H3) := by
  have hlen := hT.length
  refine lc_list (K := K) (a := l) (xs := xs) (fun i H' => Same H1 H' ∧ ∃ vs : List V, H' D = some (.lst vs) ∧ vs.length ≤ i ∧ TL H' vs ((ps.take i).filter f)) ⟨same_new hD, [], upd_same, Nat.le_refl _, .nil⟩ (fun i H' _ h => h.1.seq hl) ?_ ?_
  · rintro i x H' hx ⟨e, vs, hv, hvl, ht⟩
    have hi : i < xs.length := (List.getElem?_eq_some_iff.mp hx).1
    obtain ⟨q, p, rfl, hp, hq⟩ := (hT.ex e).get hx
    have tk : ps.take (i + 1) = ps.take i ++ [p] := by rw [List.take_succ, hp]; rfl
    refine ⟨?_, ?_⟩
    · show ((σ.set sl none).set sl (some (.ref q))).set sl none = σ.set sl none
      rw [List.set_set, List.set_set]
    · refine step q p H' (List.mem_of_getElem? hp) hq e _ fun H'' e2 => ?_
      have hv2 := e2 _ _ hv
      have hq2 := e2 _ _ hq
      cases hf : f p with
      | true =>
        rw [if_pos rfl]
        refine ⟨.ref q, ?_, vs, hv2, Nat.lt_of_lt_of_le (by omega : vs.length < 1001) (by decide), But.upd.same hD (e.trans e2), vs ++ [.ref q], upd_same, by rw [List.length_append]; simp; omega, ?_⟩
        · show ((σ.set sl none).set sl (some (.ref q)))[sl]? = some (some (.ref q))
          rw [List.getElem?_set_self (by rw [List.length_set]; exact hsl)]
        · rw [tk, List.filter_append, show [p].filter f = [p] from by simp [hf]]
          exact ((ht.ex e2).append (.cons hq2 .nil)).but hv2 But.upd
      | false =>
        rw [if_neg Bool.false_ne_true]
        refine ⟨e.trans e2, vs, hv2, by omega, ?_⟩
        rw [tk, List.filter_append, show [p].filter f = [] from by simp [hf], List.append_nil]
        exact ht.ex e2
  · rintro H' ⟨e, vs, hv, hvl, ht⟩
    rw [hlen, List.take_length] at ht
    exact hd H' vs e hv ht
def spInOrder (C : Addr) : Sp := fun vs H Q _ => ∃ (wl fl : Addr) (xs : List V) (ps : List (Int × Int)) (S : List Ent), vs = [.ref wl, .ref fl] ∧ H wl = some (.lst xs) ∧ TL H xs ps ∧ H fl = some (.lst (refs S)) ∧ Ents C 80 S H ∧ S.map Prod.snd = sortB id ps ∧ Dirs id ps ∧ (∀ p ∈ ps, Sm 80 p.1 ∧ Sm 80 p.2) ∧ ps.length ≤ 20 ∧
  ∀ H', Same H H' → Q (.bl true) H'
structure ODefs (K : PySem.W.Frag) (mg : Str → Option Value) (C fPm fSm fBh : Addr) (fdPm fdSm fdBh : FuncData) : Prop where
  TL : TxtL mg
  FPm : Fun K "pair" "Point.pair" sPairM fPm fdPm
  bPm : Binds K fdPm ["self"] []
  mPm : Meth K C "pair" fPm
  FSm : Fun K "_law_same_way" "_law_same_way" sSame fSm fdSm
  bSm : Binds K fdSm ["one", "other"] []
  mSm : mg "_law_same_way" = some (.ref fSm)
  FBh : Fun K "_law_is_behind" "_law_is_behind" sBehind fBh fdBh
  bBh : Binds K fdBh ["one", "other"] []
  mBh : mg "_law_is_behind" = some (.ref fBh)
section
variable {P : Program} {w : World} {K : PySem.W.Frag} {mg : Str → Option Value} {base : Heap} {C fPm fSm fBh fLK : Addr} {fdPm fdSm fdBh fdLK : FuncData}
theorem ok_inorder {f : Addr} {fd : FuncData} (F : Fun K "_law_in_order" "_law_in_order" sInOrder f fd) (T : Txt K mg C) (O : ODefs K mg C fPm fSm fBh fdPm fdSm fdBh) (FLK : Fun K "_law_kind" "_law_kind" sLKind fLK fdLK) (bLK : Binds K fdLK ["d"] []) (mLK : mg "_law_kind" = some (.ref fLK)) :
    FnOk P w K mg base CX0 3 f fd ["ways", "found"] (spInOrder C) := by
  have GPm : FnOk P w K mg base CX0 1 fPm fdPm ["self"] (spPairM C) := ok_pairM O.FPm T
  have GS : FnOk P w K mg base CX0 1 fSm fdSm ["one", "other"] spSame := ok_same O.FSm
  have GB : FnOk P w K mg base CX0 2 fBh fdBh ["one", "other"] spBehind := ok_behind O.FBh O.TL FLK bLK mLK
  refine F.ok scInOrder (fun vs H Q E h => ?_) (fun cdv A outer s H vs Q E hr h => ?_)
  · obtain ⟨wl, fl, xs, ps, S, rfl, _⟩ := h
    rfl
  · obtain ⟨wl, fl, xs, ps, S, rfl, hw, hT, hf, hE, hm, hdir, hsm, hlen, k⟩ := h
    have hr1 : Room 1 _ := hr.mono (by decide)
    have hu := u65 hr
    refine ⟨_, pss_cons (ps_set (i := 2) scInOrder.nd rfl (Or.inr rfl) (pe_lc (own := [("point", 4)]) (g := gName 4) (tt := tYes) rfl scInOrder.nd (pi_list (pv 1)) (blkOk_by (own := [("point", 4)]) (N := ioN) (sc := defScope sInOrder) (by decide +kernel)) (fun _ _ _ _ _ => pg_name (i := 4) scInOrder.nd rfl (Or.inl rfl)) (fun _ _ _ _ _ => pts_nil)
          (fun _ _ _ _ _ => pe_meth0 (pv 4) T.cl O.mPm GPm hr1 O.bPm .nil pass0)))
      (pss_cons (ps_if (PW.pt (pw_or (pt_cmpR (op_neD hr.units) (pe_lc (own := [("way", 3)]) (g := gName 3) rfl scInOrder.nd (pi_list (pv 0)) (blkOk_by (own := [("way", 3)]) (N := ioN) (sc := defScope sInOrder) (by decide +kernel)) (fun _ _ _ _ _ => pg_name (i := 3) scInOrder.nd rfl (Or.inl rfl))
            (fun _ _ _ _ _ => pts_one (pt_cmpR op_ne (pe_bmK (K0 := K) rfl PySem.F.plainAttrs_list PySem.F.slot_list_count PySem.F.type_list_count (mt_countK (K0 := K) rfl hu) (pv 0) (pa_cons (pv 3) pa_nil)) (pe_bmK (K0 := K) rfl PySem.F.plainAttrs_list PySem.F.slot_list_count PySem.F.type_list_count (mt_countK (K0 := K) rfl hu) (pv 2) (pa_cons (pv 3) pa_nil)) (nomark _)))
            (fun _ _ _ _ _ => pe_int)) (pe_lst pa_nil) (nomark _))
          (pw_or1 (pt_cmpR op_ne (pe_callB call_len_seq (by rfl) O.TL.len PySem.boot_len (pa_cons (pv 0) pa_nil)) (pe_callB call_len_seq (by rfl) O.TL.len PySem.boot_len (pa_cons (pv 2) pa_nil)) (nomark _))))) (pss_one (ps_ret pe_bl)) pss_nil)
      (pss_cons (ps_if (pt_cmpR (op_neD hr.units) (pe_lc (own := [("k", 5)]) (g := gName 5) rfl scInOrder.nd (pi_range1 rfl O.TL.range (pa_cons (pe_op op_sub (pe_callB call_len_seq (by rfl) O.TL.len PySem.boot_len (pa_cons (pv 2) pa_nil)) pe_int) pa_nil)) (blkOk_by (own := [("k", 5)]) (N := ioN) (sc := defScope sInOrder) (by decide +kernel)) (fun _ _ _ _ _ => pg_name (i := 5) scInOrder.nd rfl (Or.inl rfl))
            (fun _ _ _ _ _ => pts_one (pt_val (pe_call GB hr rfl O.mBh O.FBh.kp O.bBh .nil pass0 (pa_cons (pe_ix (r := rIxL K) (ix_listK (K0 := K) rfl) (pv 2) (pv 5) (fun _ _ => rfl)) (pa_cons (pe_ix (r := rIxL K) (ix_listK (K0 := K) rfl) (pv 2) (pe_op op_add (pv 5) pe_int) (fun _ _ => rfl)) pa_nil)))))
            (fun _ _ _ _ _ => pv 5)) (pe_lst pa_nil) (nomark _)) (pss_one (ps_ret pe_bl)) pss_nil)
      (pss_cons (ps_for PassesOwn.never rfl (pi_list (pv 0)) (pg_name (i := 3) scInOrder.nd rfl (Or.inr rfl))
        (pss_one (ps_if (pt_cmpR (op_neD hr.units)
          (pe_lc (own := [("one", 6)]) (g := gName 6) rfl scInOrder.nd (pi_list (pv 2)) (blkOk_by (own := [("one", 6)]) (N := ioN) (sc := defScope sInOrder) (by decide +kernel)) (fun _ _ _ _ _ => pg_name (i := 6) scInOrder.nd rfl (Or.inl rfl)) (fun _ _ _ _ _ => pts_one (pt_val (pe_call GS hr1 rfl O.mSm O.FSm.kp O.bSm .nil pass0 (pa_cons (pv 6) (pa_cons (pv 3) pa_nil))))) (fun _ _ _ _ _ => pv 6))
          (pe_lc (own := [("one", 6)]) (g := gName 6) rfl scInOrder.nd (pi_list (pv 0)) (blkOk_by (own := [("one", 6)]) (N := ioN) (sc := defScope sInOrder) (by decide +kernel)) (fun _ _ _ _ _ => pg_name (i := 6) scInOrder.nd rfl (Or.inl rfl)) (fun _ _ _ _ _ => pts_one (pt_val (pe_call GS hr1 rfl O.mSm O.FSm.kp O.bSm .nil pass0 (pa_cons (pv 6) (pa_cons (pv 3) pa_nil))))) (fun _ _ _ _ _ => pv 6)) (nomark _)) (pss_one (ps_ret pe_bl)) pss_nil)))
      (pss_one (ps_ret pe_bl))))), ?_⟩
    have hvS : ∀ p ∈ sortB id ps, Dir p ∧ Sm 80 p.1 ∧ Sm 80 p.2 := fun p hp => by
      have := (sortB_perm (f := id) ps).mem_iff.mp hp
      exact ⟨hdir p this, hsm p this⟩
    have s100 : ∀ {x : Int}, Sm 80 x → Sm 100 x := fun h => h.up (by decide)
    -- pairs
    refine seq_gen (fun σ' H' => ∃ (dl : Addr) (vs : List V), σ' = [some (.ref wl), some (.ref fl), some (.ref dl), none, none, none, none] ∧ Same H H' ∧ H' dl = some (.lst vs) ∧ TL H' vs (sortB id ps)) (fun N hN => ?_) ?_
    · refine ⟨_, rfl, fl, rfl, ⟨_, SqL.of hf⟩, fun Dl nDl => ?_⟩
      refine lc_gen (K := K) (xs := refs S) (sl := 4) (fun j v H' => ∃ q p, v = V.ref q ∧ (sortB id ps)[j]? = some p ∧ H' q = some (.tup [.int p.1, .int p.2])) (fun j v H1 H2 e h => by
          obtain ⟨q, p, h1, h2, h3⟩ := h
          exact ⟨q, p, h1, h2, e _ _ h3⟩) (fun j v H1 H2 D ys hD b h => by
          obtain ⟨q, p, h1, h2, h3⟩ := h
          exact ⟨q, p, h1, h2, b _ _ (ne_of h3 hD (by intro z; cases z)) h3⟩) (SqL.of hf) (by
          rw [refs_len, ← List.length_map (f := Prod.snd), hm, sortB_length]
          omega) ?_ ?_ nDl
      · intro j x H' hx e Q' q'
        obtain ⟨en, hen, rfl⟩ := refs_get hx
        obtain ⟨hP, _⟩ := hE en (List.mem_of_getElem? hen)
        have hP' := hP.ex e
        obtain ⟨b, dd, eb, z⟩ := id hP'
        have hj : (sortB id ps)[j]? = some en.2 := by rw [← hm, List.getElem?_map, hen]; rfl
        refine ⟨_, rfl, b, dd, _, eb, z, pair_no _ _, .ref en.1, en.2.1, en.2.2, rfl, hP', fun q H2 nq e2 hq => ?_⟩
        exact q' _ H2 e2 ⟨q, en.2, rfl, hj, hq⟩
      · intro H' vs e hD hvl hR
        refine hN _ _ ⟨Dl, vs, rfl, e, hD, TL.of_get ?_ fun j x hx => ?_⟩
        · rw [hvl, refs_len, ← List.length_map (f := Prod.snd), hm]
        · obtain ⟨q, p, h1, h2, h3⟩ := hR j x hx
          exact ⟨q, p, h1, h2, h3⟩
    rintro σ H1 ⟨dl, vs, rfl, e1, hv1, tv1⟩
    have hw1 := e1 _ _ hw
    have hT1 := hT.ex e1
    have hvl : vs.length = ps.length := by rw [tv1.length, sortB_length]
    have hxl : xs.length = ps.length := hT.length
    clear hw hT hf hE hm
    -- counts, lengths
    refine seq_gen (fun σ' H' => σ' = [some (.ref wl), some (.ref fl), some (.ref dl), none, none, none, none] ∧ Same H1 H') (fun N hN => ?_) ?_
    · refine ⟨_, rfl, wl, rfl, ⟨_, SqL.of hw1⟩, fun Dl nDl => ?_⟩
      refine lc_none (K := K) (l := wl) (xs := xs) (sl := 3) (SqL.of hw1) ?_ ?_ nDl
      · intro j x H' hx e Q' q'
        obtain ⟨q, p, rfl, hp, hq⟩ := (hT1.ex e).get hx
        have hwe := e _ _ hw1
        have hve := e _ _ hv1
        refine ⟨_, rfl, .inl ⟨rfl, _, SqL.of hwe⟩, _, rfl, wl, .ref q, pD p, ps.map pD, rfl, rfl, .lst (SqL.of hwe) (hT1.ex e).dp, tp_dp hq, pDs_shaped ps, rfl, ?_⟩
        refine ⟨_, rfl, .inl ⟨rfl, _, SqL.of hve⟩, _, rfl, dl, .ref q, pD p, (sortB id ps).map pD, rfl, rfl, .lst (SqL.of hve) (tv1.ex e).dp, tp_dp hq, pDs_shaped _, rfl, rfl, _, rfl, ?_⟩
        have ec : (ps.map pD).countP (fun z => PyData.eqv z (pD p)) = ((sortB id ps).map pD).countP (fun z => PyData.eqv z (pD p)) := ((sortB_perm (f := id) ps).map pD).countP_eq _ |>.symm
        rw [ec, neT rfl]
        exact q' H' (Same.refl _)
      · intro H2 e2 hD
        refine ⟨Nat.zero_le _, fun l nl => ?_⟩
        have e3 := same_new (o := .lst []) nl
        refine ⟨.list [], .list [], .lst (SqL.of (e3 _ _ hD)) .nil, .lst (SqL.of upd_same) .nil, rfl, rfl, _, rfl, ?_⟩
        refine iteF ?_
        have e23 := e2.trans e3
        refine ⟨_, rfl, wl, _, rfl, .inl (SqL.of (e23 _ _ hw1)), _, rfl, dl, _, rfl, .inl (SqL.of (e23 _ _ hv1)), rfl, _, rfl, ?_⟩
        rw [neT (by rw [hvl, hxl])]
        refine iteF ?_
        exact hN _ _ ⟨rfl, e23⟩
    rintro σ H2 ⟨rfl, e2⟩
    have hw2 := e2 _ _ hw1
    have hv2 := e2 _ _ hv1
    have hT2 := hT1.ex e2
    have tv2 := tv1.ex e2
    replace e1 := e1.trans e2
    clear hw1 hv1 hT1 tv1 e2
    -- none behind the next
    refine seq_gen (fun σ' H' => σ' = [some (.ref wl), some (.ref fl), some (.ref dl), none, none, none, none] ∧ Same H2 H') (fun N hN => ?_) ?_
    · refine ⟨_, rfl, dl, _, rfl, .inl (SqL.of hv2), _, _, rfl, rfl, _, rfl, by omega, by omega, fun Dl nDl => ?_⟩
      refine lc_noneR (lo := 0) (sl := 5) ?_ ?_ nDl
      · intro j H' hj e Q' q'
        have hj1 : j + 1 < vs.length := by omega
        have hve := e _ _ hv2
        have g0 : vs[j]? = some vs[j] := List.getElem?_eq_getElem (by omega)
        have g1 : vs[j + 1]? = some vs[j + 1] := List.getElem?_eq_getElem hj1
        obtain ⟨qa, p, ea, hp, ha⟩ := (tv2.ex e).get g0
        obtain ⟨qb, r, eb, hr', hb⟩ := (tv2.ex e).get g1
        refine ⟨_, rfl, _, rfl, dl, vs, _, vs[j], rfl, rfl, SqL.of hve, by rw [Int.zero_add]; exact atI_nat g0, ?_⟩
        refine ⟨_, rfl, _, rfl, _, _, rfl, rfl, dl, vs, _, vs[j + 1], rfl, rfl, SqL.of hve, ?_, ?_⟩
        · have : (0 : Int) + (j : Int) + 1 = ((j + 1 : Nat) : Int) := by omega
          first
            | (rw [this]; exact atI_nat g1)
            | (dsimp only; rw [this]; exact atI_nat g1)
        have dp := hvS p (List.mem_of_getElem? hp)
        have dr := hvS r (List.mem_of_getElem? hr')
        refine ⟨qa, qb, p.1, p.2, r.1, r.2, by rw [ea, eb]; rfl, ha, hb, dp.1, dr.1, s100 dp.2.1, s100 dp.2.2, s100 dr.2.1, s100 dr.2.2, fun H3 e3 => ⟨false, ?_, q' H3 e3⟩⟩
        have hs := srt_next (sortB_srt (f := id) hdir) (i := j) (by rw [← tv2.length]; exact hj1)
        have hp2 := (List.getElem?_eq_some_iff.mp hp).2
        have hr2 := (List.getElem?_eq_some_iff.mp hr').2
        rw [hp2, hr2] at hs
        rw [hs]
        try rfl
      · intro H3 e3 hD
        refine ⟨Nat.zero_le _, fun l nl => ?_⟩
        have e4 := same_new (o := .lst []) nl
        refine ⟨.list [], .list [], .lst (SqL.of (e4 _ _ hD)) .nil, .lst (SqL.of upd_same) .nil, rfl, rfl, _, rfl, ?_⟩
        refine iteF ?_
        exact hN _ _ ⟨rfl, e3.trans e4⟩
    rintro σ H3 ⟨rfl, e3⟩
    have hw3 := e3 _ _ hw2
    have hv3 := e3 _ _ hv2
    have hT3 := hT2.ex e3
    have tv3 := tv2.ex e3
    replace e1 := e1.trans e3
    clear hw2 hv2 hT2 tv2 e3
    -- each way with those alike
    refine seq_gen (fun σ' H' => Same H3 H') (fun N hN => ?_) ?_
    · refine ⟨_, rfl, wl, rfl, ⟨_, SqL.of hw3⟩, ?_⟩
      refine for_list (K := K) (a := wl) (xs := xs) (fun j σ' H' => ∃ v3 v6 : Option V, σ' = [some (.ref wl), some (.ref fl), some (.ref dl), v3, none, none, v6] ∧ Same H3 H') ⟨_, _, rfl, Same.refl _⟩ (fun j σ' H' _ h => by
        obtain ⟨_, _, _, e⟩ := h
        exact SqL.of (e _ _ hw3)) ?_ ?_
      · rintro j x σ H4 hx ⟨v3, v6, rfl, e4⟩
        obtain ⟨q, p, rfl, hp, hq⟩ := (hT3.ex e4).get hx
        have hpm := List.mem_of_getElem? hp
        have dp : Dir p := hdir p hpm
        obtain ⟨sp1, sp2⟩ := hsm p hpm
        have hv4 := e4 _ _ hv3
        refine ⟨_, rfl, dl, rfl, ⟨_, SqL.of hv4⟩, fun D1 nD1 => ?_⟩
        refine lc_keep (K := K) (xs := vs) (ps := sortB id ps) (sl := 6) (fun a => sw a p) (SqL.of hv4) (tv3.ex e4) (by omega) (by show 6 < 7; decide) ?_ ?_ nD1
        · intro qa a H' ha hqa e Q' q'
          have da := hvS a ha
          exact ⟨_, rfl, _, rfl, qa, q, a.1, a.2, p.1, p.2, rfl, hqa, e _ _ hq, s100 da.2.1, s100 da.2.2, s100 sp1, s100 sp2, _, rfl, q' H' (Same.refl _)⟩
        · intro H5 ws1 e5 hD1 tw1
          have e45 := e4.trans e5
          have hw5 := e45 _ _ hw3
          refine ⟨_, rfl, wl, rfl, ⟨_, SqL.of hw5⟩, fun D2 nD2 => ?_⟩
          refine lc_keep (K := K) (xs := xs) (ps := ps) (sl := 6) (fun a => sw a p) (SqL.of hw5) (hT3.ex e45) (by omega) (by show 6 < 7; decide) ?_ ?_ nD2
          · intro qa a H' ha hqa e Q' q'
            obtain ⟨sa1, sa2⟩ := hsm a ha
            exact ⟨_, rfl, _, rfl, qa, q, a.1, a.2, p.1, p.2, rfl, hqa, e _ _ (e5 _ _ hq), s100 sa1, s100 sa2, s100 sp1, s100 sp2, _, rfl, q' H' (Same.refl _)⟩
          · intro H6 ws2 e6 hD2 tw2
            have ef := sort_filter dp hdir
            have tw1' := tw1.ex e6
            rw [ef] at tw1'
            refine ⟨.list ((ps.filter fun a => sw a p).map pD), .list ((ps.filter fun a => sw a p).map pD), .lst (SqL.of (e6 _ _ hD1)) tw1'.dp, .lst (SqL.of hD2) tw2.dp, pDs_shaped _, pDs_shaped _, _, rfl, ?_⟩
            rw [pDs_refl]
            refine iteF ?_
            exact ⟨_, _, rfl, e45.trans e6⟩
      · rintro σ H4 ⟨v3, v6, rfl, e4⟩
        exact hN _ _ e4
    intro σ H4 e4
    exact k _ (e1.trans e4)
end
end Fo

set_option Elab.async false
set_option linter.all false
set_option maxRecDepth 100000
set_option maxHeartbeats 2000000
namespace Fo
open PySem L2
abbrev sLaw : Stmt := top 32
abbrev lawN : List Str := ["script", "k", "pool", "ways", "way", "short", "part", "given", "odd", "due", "turn"]
theorem scLaw : FnScope lawN ["script"] (defScope sLaw) := ⟨rfl, rfl, rfl, by decide +kernel, rfl, by decide +kernel, by decide +kernel⟩
def spLaw (K : PySem.W.Frag) : Sp := fun vs H Q _ => ∃ (a : Addr) (ns : List Int), vs = [.ref a] ∧ SqL K H a (ns.map V.int) ∧ ns.length ≤ 63 ∧ ∀ H', Q (.bl true) H'
/-- the law's own helpers and the other defs, as they stand -/
structure LDefs (P : Program) (K : PySem.W.Frag) (mg : Str → Option Value) (C CI fII CN fNI CF fH fD fDn fLk fEr fA' fIo fSo fAd fPm fSm fBh : Addr) (fdH fdD fdDn fdLk fdEr fdA' fdIo fdSo fdAd fdPm fdSm fdBh : FuncData) : Prop where
  O : ODefs K mg C fPm fSm fBh fdPm fdSm fdBh
  R : RTx2 P K mg C CI fII CN fNI CF
  zL : mg "list" = none
  FH : Fun K "_law_hand" "_law_hand" sHand fH fdH
  bH : Binds K fdH ["script", "k"] []
  mH : mg "_law_hand" = some (.ref fH)
  FD : Fun K "_law_draw" "_law_draw" sDraw fD fdD
  bD : Binds K fdD ["pool", "many"] []
  mD : mg "_law_draw" = some (.ref fD)
  FDn : Fun K "_law_direction" "_law_direction" sDirn fDn fdDn
  bDn : Binds K fdDn ["pool"] []
  mDn : mg "_law_direction" = some (.ref fDn)
  FLk : Fun K "_law_kind" "_law_kind" sLKind fLk fdLk
  bLk : Binds K fdLk ["d"] []
  mLk : mg "_law_kind" = some (.ref fLk)
  FEr : Fun K "_law_error" "_law_error" sError fEr fdEr
  bEr : Binds K fdEr ["e"] []
  mEr : mg "_law_error" = some (.ref fEr)
  FA : Fun K "_law_asked" "_law_asked" sAsked fA' fdA'
  bA : Binds K fdA' ["door", "thing"] []
  mA : mg "_law_asked" = some (.ref fA')
  FIo : Fun K "_law_in_order" "_law_in_order" sInOrder fIo fdIo
  bIo : Binds K fdIo ["ways", "found"] []
  mIo : mg "_law_in_order" = some (.ref fIo)
  FSo : Fun K "sorted_around" "sorted_around" sSorted fSo fdSo
  bSo : Binds K fdSo ["directions"] []
  mSo : mg "sorted_around" = some (.ref fSo)
  FAd : Fun K "__add__" "Point.__add__" sAdd fAd fdAd
  bAd : Binds K fdAd ["self", "other"] []
  oA : OwnOp K C .Add fAd
theorem Sm.low {n : Nat} {x g : Int} (h : Sm n x) : Sm n (x / g) := Nat.lt_of_le_of_lt (Int.natAbs_ediv_le_natAbs x g) h
/-- an odd thing, its error and what is shown -/
structure OddT (C CI CN : Addr) (K : PySem.W.Frag) (H : Hp) (v : V) (d : PyData) (c : Addr) (wd : Str) : Prop where
  odd : OddD C CI CN H v c
  dp : Dp K H v d
  sh : ShowsOk d
  w : Word CI CN c wd
  eq : (if PyData.eqv d (tp 0 0) = true then (Str.ofString "none") else (Str.ofString "point")) = wd
  s1 : SeqAt.shaped d = true
  s2 : SeqAt.shaped (.tuple [.str wd, .str d.shown]) = true
theorem OddT.ex {C CI CN : Addr} {K : PySem.W.Frag} {H H' : Hp} {v : V} {d : PyData} {c : Addr} {wd : Str} (e : Same H H') (h : OddT C CI CN K H v d c wd) : OddT C CI CN K H' v d c wd := ⟨h.odd.ex e, Dp.ex e d v h.dp, h.sh, h.w, h.eq, h.s1, h.s2⟩
theorem shows_by {d : PyData} (h : (d.showable && !d.hasDict && decide (d.depth ≤ 60) && decide (d.shown.length ≤ 1000)) = true) : ShowsOk d := by
  simp only [Bool.and_eq_true, Bool.not_eq_true', decide_eq_true_eq] at h
  exact ⟨h.1.1.1, h.1.1.2, h.1.2, Nat.le_trans h.2 (by decide)⟩
section
variable {C CI CN : Addr} {K : PySem.W.Frag} {H : Hp} {a : Addr}
theorem odd_00 (h : H a = some (.tup [.int 0, .int 0])) : OddT C CI CN K H (.ref a) (tp 0 0) CN "none" := ⟨.inr ⟨⟨a, rfl, .inr h⟩, rfl⟩, tp_dp h, shows_by (by decide +kernel), .inl ⟨rfl, rfl⟩, by decide +kernel, rfl, by decide +kernel⟩
theorem odd_none : OddT C CI CN K H .non .none CI "point" := ⟨.inl ⟨.non, rfl⟩, .non, shows_by (by decide +kernel), .inr ⟨rfl, rfl⟩, by decide +kernel, rfl, by decide +kernel⟩
theorem odd_1 (h : H a = some (.tup [.int 1])) : OddT C CI CN K H (.ref a) (.tuple [.int 1]) CI "point" := ⟨.inl ⟨.tup h (by decide), rfl⟩, .tup (SqT.of h) (.cons (.int 1) .nil), shows_by (by decide +kernel), .inr ⟨rfl, rfl⟩, by decide +kernel, rfl, by decide +kernel⟩
theorem odd_t1 (h : H a = some (.tup [.bl true, .int 1])) : OddT C CI CN K H (.ref a) (.tuple [.bool true, .int 1]) CI "point" := ⟨.inl ⟨.two h trivial trivial rfl, rfl⟩, .tup (SqT.of h) (.cons (.bl true) (.cons (.int 1) .nil)), shows_by (by decide +kernel), .inr ⟨rfl, rfl⟩, by decide +kernel, rfl, by decide +kernel⟩
theorem odd_x : OddT C CI CN K H (.str "x") (.str "x") CI "point" := ⟨.inl ⟨.str _, rfl⟩, .str _, shows_by (by decide +kernel), .inr ⟨rfl, rfl⟩, by decide +kernel, by decide +kernel, by decide +kernel⟩
end
theorem eqv_sh {d : PyData} (h : SeqAt.shaped d = true) : (!PyData.eqv d d) = false := by
  rw [SeqAt.eqv_refl d (SeqAt.canLay_of_shaped h)]
  rfl
theorem asked_of {C : Addr} {xs : List V} {ps : List (Int × Int)} {H : Hp} (h : TL H xs ps) (hd : Dirs id ps) (hs : ∀ p ∈ ps, Sm 80 p.1 ∧ Sm 80 p.2) : Asked C 80 xs ps H := ⟨h.length, fun i x p hx hp => by
  obtain ⟨q, p', rfl, hp', hq⟩ := h.get hx
  rw [hp] at hp'
  cases hp'
  have hm := List.mem_of_getElem? hp
  exact ⟨⟨q, rfl, .inr hq⟩, hd p hm, hs p hm⟩⟩
section
variable {P : Program} {w : World} {K : PySem.W.Frag} {mg : Str → Option Value} {base : Heap} {C fW fI fP fA fO CI fII CN fNI CF fH fD fDn fLk fEr fA' fIo fSo fAd fPm fSm fBh : Addr} {fdW fdI fdP fdA fdO fdH fdD fdDn fdLk fdEr fdA' fdIo fdSo fdAd fdPm fdSm fdBh : FuncData}
variable {aS fSg fG fDr fK fL fX fB fPl : Addr} {fdSg fdG fdDr fdK fdL fdX fdB fdPl : FuncData}
theorem ok_law {f : Addr} {fd : FuncData} (F : Fun K "law" "law" sLaw f fd) (D : Defs K mg C fW fI fP fA fO fdW fdI fdP fdA fdO) (d : DDefs K mg C aS fSg fG fDr fK fL fX fB fPl fdSg fdG fdDr fdK fdL fdX fdB fdPl) (L : LDefs P K mg C CI fII CN fNI CF fH fD fDn fLk fEr fA' fIo fSo fAd fPm fSm fBh fdH fdD fdDn fdLk fdEr fdA' fdIo fdSo fdAd fdPm fdSm fdBh) :
    FnG P w K mg base CX0 11 f fd ["script"] (spLaw K) := by
  have GA : FnG P w K mg base CX0 10 fA' fdA' ["door", "thing"] (spAsked C CI CN K) := ok_asked L.FA d D L.R L.FEr L.bEr L.mEr L.FSo L.bSo L.mSo
  have GSo : FnOk P w K mg base CX0 9 fSo fdSo ["directions"] (spSorted C K) := ok_sorted L.FSo d D
  have GK : FnOk P w K mg base CX0 6 fK fdK ["direction"] (spKind C) := d.GK D
  have GL : FnOk P w K mg base CX0 6 fL fdL ["direction"] (spLow C) := d.GL D
  have GAd : FnOk P w K mg base CX0 6 fAd fdAd ["self", "other"] (spBin C (· + ·)) := ok_add L.FAd D
  have GPm : FnOk P w K mg base CX0 1 fPm fdPm ["self"] (spPairM C) := ok_pairM L.O.FPm D.T
  have GSm : FnOk P w K mg base CX0 1 fSm fdSm ["one", "other"] spSame := ok_same L.O.FSm
  have GIo : FnOk P w K mg base CX0 3 fIo fdIo ["ways", "found"] (spInOrder C) := ok_inorder L.FIo D.T L.O L.FLk L.bLk L.mLk
  have GI : FnOk P w K mg base CX0 2 fI fdI ["self", "x", "y"] (spInit C) := D.GI
  have GH : FnOk P w K mg base CX0 1 fH fdH ["script", "k"] (spHand K) := ok_hand L.FH L.O.TL
  have GD : FnOk P w K mg base CX0 1 fD fdD ["pool", "many"] spDraw := ok_draw L.FD L.O.TL
  have GDn : FnOk P w K mg base CX0 2 fDn fdDn ["pool"] spDirn := ok_dirn L.FDn L.O.TL L.FD L.bD L.mD
  have GLk : FnOk P w K mg base CX0 1 fLk fdLk ["d"] spLKind := ok_lkind L.FLk L.O.TL
  refine F.okG scLaw (fun vs H Q E h => ?_) (fun cdv A outer s H vs Q E hgd0 hr h => ?_)
  · obtain ⟨a, ns, rfl, _⟩ := h
    rfl
  · obtain ⟨sa, ns, rfl, hS, hlen, k⟩ := h
    have hgd : (A.deeper (PyProof.Rows.envOfC (Str.ofString "law") (defScope sLaw) s.heap.objs.size f cdv)).guards = some [] := hgd0
    have hr10 : Room 10 _ := hr
    have hr9 : Room 9 _ := hr.mono (by decide)
    have hr6 : Room 6 _ := hr.mono (by decide)
    have hr3 : Room 3 _ := hr.mono (by decide)
    have hr2 : Room 2 _ := hr.mono (by decide)
    have hr1 : Room 1 _ := hr.mono (by decide)
    have hu : (A.deeper (PyProof.Rows.envOfC (Str.ofString "law") (defScope sLaw) s.heap.objs.size f cdv)).units + 64 < cLine := by
      have := hr.un
      omega
    have cR : CallR (cxOf CX0 P w K mg base lawN "law" (defScope sLaw) f cdv A outer s H E).nox (.builtin "repr") (rReprD K) := call_reprD hgd0 hu
    refine ⟨_, pss_cons (ps_for PassesOwn.never rfl (pi_range1 rfl L.O.TL.range (pa_cons (pe_callB (call_max2 rfl) (by rfl) L.O.TL.max (by decide +kernel) (pa_cons pe_int (pa_cons (pe_callB (call_min2 rfl) (by rfl) L.O.TL.min (by decide +kernel) (pa_cons (pe_callB call_len_seq (by rfl) L.O.TL.len PySem.boot_len (pa_cons (pv 0) pa_nil)) (pa_cons pe_int pa_nil))) pa_nil))) pa_nil)) (pg_name (i := 1) scLaw.nd rfl (Or.inl rfl))
        (pss_cons (ps_set (i := 2) scLaw.nd rfl (Or.inr rfl) (pe_call GH hr1 rfl L.mH L.FH.kp L.bH .nil pass0 (pa_cons (pv 0) (pa_cons (pv 1) pa_nil))))
        (pss_cons (ps_setLc (i := 3) (own := [("turn", 10)]) (g := gName 10) (tt := tYes) rfl scLaw.nd rfl rfl (sw_true rfl rfl rfl (by decide +kernel)) (pi_range1 rfl L.O.TL.range (pa_cons (pe_call GD hr1 rfl L.mD L.FD.kp L.bD .nil pass0 (pa_cons (pv 2) (pa_cons pe_int pa_nil))) pa_nil)) (blkOk_by (own := [("turn", 10)]) (N := lawN) (sc := defScope sLaw) (by decide +kernel)) (fun _ _ _ _ _ => pg_name (i := 10) scLaw.nd rfl (Or.inl rfl)) (fun _ _ _ _ _ => pts_nil) (fun _ _ _ _ _ => (pe_call GDn hr2 rfl L.mDn L.FDn.kp L.bDn .nil pass0 (pa_cons (pv 2) pa_nil))))
        (pss_cons (ps_for PassesOwn.never rfl (pi_list (pv 3)) (pg_name (i := 4) scLaw.nd rfl (Or.inl rfl))
        (pss_cons (ps_if (PW.pt (pw_or (pt_cmpR op_ne (pe_call GK hr6 rfl d.mK d.FK.kp d.bK .nil pass0 (pa_cons (pv 4) pa_nil)) (pe_call GLk hr1 rfl L.mLk L.FLk.kp L.bLk .nil pass0 (pa_cons (pv 4) pa_nil)) (nomark _)) (pw_or1 (pt_cmpR op_ne (pe_call GK hr6 rfl d.mK d.FK.kp d.bK .nil pass0 (pa_cons (pe_make D.M GI hr3 rfl D.T.mgC D.bI .nil pass0 (pa_cons (pe_ix (r := rIxT K) ix_tup (pv 4) pe_int (fun _ _ => rfl)) (pa_cons (pe_ix (r := rIxT K) ix_tup (pv 4) pe_int (fun _ _ => rfl)) pa_nil))) pa_nil)) (pe_call GLk hr1 rfl L.mLk L.FLk.kp L.bLk .nil pass0 (pa_cons (pv 4) pa_nil)) (nomark _))))) (pss_one (ps_ret pe_bl)) pss_nil)
        (pss_cons (ps_set (i := 5) scLaw.nd rfl (Or.inl rfl) (pe_meth0 (pe_call GL hr6 rfl d.mL d.FL.kp d.bL .nil pass0 (pa_cons (pv 4) pa_nil)) D.T.cl L.O.mPm GPm hr1 L.O.bPm .nil pass0))
        (pss_cons (ps_if (PW.pt (pw_or (pt_not (pt_val (pe_call GSm hr1 rfl L.O.mSm L.O.FSm.kp L.O.bSm .nil pass0 (pa_cons (pv 5) (pa_cons (pv 4) pa_nil))))) (pw_or1 (pt_cmpR (op_neD hr.units) (pe_meth0 (pe_call GL hr6 rfl d.mL d.FL.kp d.bL .nil pass0 (pa_cons (pv 5) pa_nil)) D.T.cl L.O.mPm GPm hr1 L.O.bPm .nil pass0) (pv 5) (nomark _))))) (pss_one (ps_ret pe_bl)) pss_nil)
        (pss_cons (ps_if (pt_cmpR (op_neD hr.units) (pe_meth0 (pe_call GL hr6 rfl d.mL d.FL.kp d.bL .nil pass0 (pa_cons (pe_op (op_own L.oA FoOps.tup_add GAd hr6 L.bAd pass0) (pe_make D.M GI hr3 rfl D.T.mgC D.bI .nil pass0 (pa_cons pe_int (pa_cons pe_int pa_nil))) (pv 4)) pa_nil)) D.T.cl L.O.mPm GPm hr1 L.O.bPm .nil pass0) (pv 5) (nomark _)) (pss_one (ps_ret pe_bl)) pss_nil)
        (pss_one (ps_for PassesOwn.never rfl (pi_range2 rfl L.O.TL.range (pa_cons pe_int (pa_cons pe_int pa_nil))) (pg_name (i := 6) scLaw.nd rfl (Or.inl rfl))
        (pss_one (ps_if (PW.pt (pw_and (pt_cmpR op_eq (pe_op op_mod (pe_ix (r := rIxT K) ix_tup (pv 5) pe_int (fun _ _ => rfl)) (pv 6)) pe_int (nomark _)) (pw_and1 (pt_cmpR op_eq (pe_op op_mod (pe_ix (r := rIxT K) ix_tup (pv 5) pe_int (fun _ _ => rfl)) (pv 6)) pe_int (nomark _))))) (pss_one (ps_ret pe_bl)) pss_nil)))))))))
        (pss_cons (ps_set (i := 7) scLaw.nd rfl (Or.inl rfl) (pe_callTy call_list_of (by rfl) L.zL (by decide +kernel) (pa_cons (pv 3) pa_nil)))
        (pss_cons (ps_if (PW.pt (pw_or (pt_not (pt_val (pe_call GIo hr3 rfl L.mIo L.FIo.kp L.bIo .nil pass0 (pa_cons (pv 3) (pa_cons (pe_call GSo hr9 rfl L.mSo L.FSo.kp L.bSo .nil pass0 (pa_cons (pv 7) pa_nil)) pa_nil))))) (pw_or1 (pt_cmpR (op_neD hr.units) (pv 7) (pv 3) (nomark _))))) (pss_one (ps_ret pe_bl)) pss_nil)
        (pss_one (ps_for PassesOwn.never rfl (pi_list (pe_lst (pa_cons (pe_tup (pa_cons pe_int (pa_cons pe_int pa_nil))) (pa_cons pe_non (pa_cons (pe_tup (pa_cons pe_int pa_nil)) (pa_cons (pe_tup (pa_cons pe_bl (pa_cons pe_int pa_nil))) (pa_cons pe_str pa_nil))))))) (pg_name (i := 8) scLaw.nd rfl (Or.inl rfl))
        (pss_cons (ps_set (i := 9) scLaw.nd rfl (Or.inl rfl) (pe_tup (pa_cons (pe_ifExp (pt_cmpR (op_eqD hr.units) (pv 8) (pe_tup (pa_cons pe_int (pa_cons pe_int pa_nil))) (nomark _)) pe_str pe_str) (pa_cons (pe_callB cR (by rfl) L.R.zR (by decide +kernel) (pa_cons (pv 8) pa_nil)) pa_nil))))
        (pss_one (ps_if (PW.pt (pw_or (pt_cmpR (op_neD hr.units) (pe_callG GA hgd hr10 rfl L.mA L.FA.kp L.bA pass0 (pa_cons pe_int (pa_cons (pv 8) pa_nil))) (pv 9) (nomark _)) (pw_or (pt_cmpR (op_neD hr.units) (pe_callG GA hgd hr10 rfl L.mA L.FA.kp L.bA pass0 (pa_cons pe_int (pa_cons (pv 8) pa_nil))) (pv 9) (nomark _)) (pw_or1 (pt_cmpR (op_neD hr.units) (pe_callG GA hgd hr10 rfl L.mA L.FA.kp L.bA pass0 (pa_cons pe_int (pa_cons (pe_op op_cat (pv 3) (pe_lst (pa_cons (pv 8) (pa_cons pe_non pa_nil)))) pa_nil))) (pv 9) (nomark _)))))) (pss_one (ps_ret pe_bl)) pss_nil)))))))))))
      (pss_one (ps_ret pe_bl)), ?_⟩
    -- range(max(1, min(len(script), 8)))
    refine ⟨_, rfl, sa, _, rfl, .inl hS, _, _, rfl, _, _, rfl, ?_⟩
    have hn8 : ∀ z : Int, z = (if (if (8 : Int) < ((ns.map V.int).length : Int) then (8 : Int) else ((ns.map V.int).length : Int)) > 1 then (if (8 : Int) < ((ns.map V.int).length : Int) then (8 : Int) else ((ns.map V.int).length : Int)) else 1) → 0 ≤ z ∧ z ≤ 8 := by
      intro z hz
      split at hz <;> split at hz <;> omega
    obtain ⟨n0, n8⟩ := hn8 _ rfl
    refine ⟨_, rfl, by omega, by omega, ?_⟩
    refine for_range (lo := 0) (fun i σ H' => ∃ v1 v2 v3 v4 v5 v6 v7 v8 v9 v10 : Option V, σ = [some (.ref sa), v1, v2, v3, v4, v5, v6, v7, v8, v9, v10] ∧ Same H H')
      ⟨_, _, _, _, _, _, _, _, _, _, rfl, Same.refl _⟩ ?_ ?_
    case refine_2 =>
      rintro σ H' ⟨v1, v2, v3, v4, v5, v6, v7, v8, v9, v10, rfl, eH⟩
      exact k _
    rintro i σ H0 hi ⟨v1, v2, v3, v4, v5, v6, v7, v8, v9, v10, rfl, eH⟩
    have hik : (i : Int) ≤ 100 := by omega
    clear hn8 n0 n8 hi
    -- pool
    refine seq_gen (fun σ' H' => ∃ pl, σ' = [some (.ref sa), some (.int (0 + i)), some (.ref pl), v3, v4, v5, v6, v7, v8, v9, v10] ∧ H0 pl = none ∧ Same H0 H' ∧ PoolAt pl H') (fun N hN => ?_) ?_
    · refine ⟨_, rfl, _, rfl, sa, ns, _, rfl, eH.seq hS, hlen, by omega, by omega, fun pl H1 hpl e1 p1 => ?_⟩
      exact hN _ _ ⟨pl, rfl, hpl, e1, p1⟩
    rintro σ H1 ⟨pl, rfl, hpl, e1, p1⟩
    -- ways
    refine seq_gen (fun σ' H' => ∃ (wl : Addr) (xs : List V) (ps : List (Int × Int)), σ' = [some (.ref sa), some (.int (0 + i)), some (.ref pl), some (.ref wl), v4, v5, v6, v7, v8, v9, v10] ∧ Same H0 H' ∧ H' wl = some (.lst xs) ∧ TL H' xs ps ∧ Dirs id ps ∧ (∀ p ∈ ps, Sm 80 p.1 ∧ Sm 80 p.2) ∧ ps.length ≤ 20) (fun N hN => ?_) ?_
    · refine ⟨_, rfl, pl, 11, rfl, p1, by decide, by decide, fun r H2 r0 r1 b2 p2 => ?_⟩
      refine ⟨_, rfl, by omega, by omega, fun Dl nDl => ?_⟩
      have e2 : Same H0 H2 := b2.same hpl e1
      have neD : Dl ≠ pl := by
        obtain ⟨i', j', h', _⟩ := p2
        exact (ne_of_none h' nDl).symm
      have hD0 : H0 Dl = none := Same.free e2 nDl
      refine lc_range (lo := 0) (n := r.toNat) (fun j H' => Same H0 H' ∧ PoolAt pl H' ∧ ∃ (vs : List V) (ps : List (Int × Int)), H' Dl = some (.lst vs) ∧ TL H' vs ps ∧ Dirs id ps ∧ (∀ p ∈ ps, Sm 80 p.1 ∧ Sm 80 p.2) ∧ vs.length = j)
        ⟨e2.trans (same_new nDl), p2.ex (same_new nDl), [], [], upd_same, .nil, fun a ha => by simp at ha, fun a ha => by simp at ha, rfl⟩ ?_ ?_
      · rintro j H3 hj ⟨e3, p3, vs, ps, hD, ht, hdir, hsm, hvl⟩
        refine ⟨rfl, ?_⟩
        unfold tYes
        dsimp only
        rw [if_pos rfl]
        refine ⟨_, rfl, pl, rfl, p3, fun q x y H4 b4 p4 hq hd sx sy => ?_⟩
        have hD4 := b4 _ _ neD hD
        have neq : q ≠ Dl := ne_of hq hD4 (by intro z; cases z)
        obtain ⟨i', j', hp3, _⟩ := id p3
        have ht4 := ht.but hp3 b4
        refine ⟨vs, hD4, Nat.lt_of_lt_of_le (by omega : vs.length < 1001) (by decide), But.upd.same hD0 (b4.same hpl e3), ?_, vs ++ [.ref q], ps ++ [(x, y)], upd_same, (ht4.append (.cons (p := (x, y)) hq .nil)).but hD4 But.upd, ?_, ?_, ?_⟩
        · obtain ⟨i2, j2, h2, r2⟩ := p4
          exact ⟨i2, j2, by rw [upd_ne neD.symm]; exact h2, r2⟩
        · intro a ha
          rcases List.mem_append.mp ha with ha | ha
          · exact hdir a ha
          · rw [List.mem_singleton] at ha
            rw [ha]
            exact hd
        · intro a ha
          rcases List.mem_append.mp ha with ha | ha
          · exact hsm a ha
          · rw [List.mem_singleton] at ha
            rw [ha]
            exact ⟨sx, sy⟩
        · rw [List.length_append, hvl]
          rfl
      · rintro H3 ⟨e3, p3, vs, ps, hD, ht, hdir, hsm, hvl⟩
        refine hN _ _ ⟨Dl, vs, ps, rfl, e3, hD, ht, hdir, hsm, ?_⟩
        rw [← ht.length]
        omega
    rintro σ H2 ⟨wl, xs, ps, rfl, e2, hw, hT, hdir, hsm, hpl20⟩
    clear e1 p1 hpl
    have hxl : xs.length = ps.length := hT.length
    -- for way in ways
    refine seq_gen (fun σ' H' => ∃ v4 v5 v6 : Option V, σ' = [some (.ref sa), some (.int (0 + i)), some (.ref pl), some (.ref wl), v4, v5, v6, v7, v8, v9, v10] ∧ Same H2 H') (fun N hN => ?_) ?_
    · refine ⟨_, rfl, wl, rfl, ⟨_, SqL.of hw⟩, ?_⟩
      refine for_list (K := K) (a := wl) (xs := xs) (fun j σ' H' => ∃ v4 v5 v6 : Option V, σ' = [some (.ref sa), some (.int (0 + i)), some (.ref pl), some (.ref wl), v4, v5, v6, v7, v8, v9, v10] ∧ Same H2 H') ⟨_, _, _, rfl, Same.refl _⟩ (fun j σ' H' _ h => by
        obtain ⟨_, _, _, _, e⟩ := h
        exact SqL.of (e _ _ hw)) ?_ ?_
      · rintro j v σ H3 hv ⟨v4, v5, v6, rfl, e3⟩
        obtain ⟨q, p, rfl, hp, hq⟩ := (hT.ex e3).get hv
        have hpm := List.mem_of_getElem? hp
        have hd : Dir p := hdir p hpm
        obtain ⟨s1, s2⟩ := hsm p hpm
        have s1' : Sm 100 p.1 := s1.up (by decide)
        have s2' : Sm 100 p.2 := s2.up (by decide)
        have lo : ∀ {n : Nat}, 80 ≤ n → Sm n (low p).1 ∧ Sm n (low p).2 := fun h => ⟨(s1.up h).low, (s2.up h).low⟩
        -- the kinds
        refine seq_gen (fun σ' H' => σ' = [some (.ref sa), some (.int (0 + i)), some (.ref pl), some (.ref wl), some (.ref q), v5, v6, v7, v8, v9, v10] ∧ Same H3 H') (fun N2 hN2 => ?_) ?_
        · refine ⟨_, rfl, .ref q, p.1, p.2, rfl, ⟨q, rfl, .inr hq⟩, hd, fun H4 e4 => ?_⟩
          refine ⟨_, rfl, q, p.1, p.2, rfl, e4 _ _ hq, hd, fun H5 e5 => ⟨rfl, _, rfl, ?_⟩⟩
          rw [neT rfl]
          refine iteF ?_
          have e45 := e4.trans e5
          have hq5 := e45 _ _ hq
          refine ⟨_, rfl, q, _, _, _, rfl, rfl, SqT.of hq5, atI_nat (j := 0) rfl, _, rfl, q, _, _, _, rfl, rfl, SqT.of hq5, atI_nat (j := 1) rfl, ?_⟩
          refine fun c dc nc nd ne => ⟨c, dc, p.1, p.2, rfl, upd_same, rfl, ?_⟩
          have e6 := made_same (C := C) (X := p.1) (Y := p.2) nc nd
          have h6 := made_is (C := C) (x := c) (dx := dc) (H := H5) (X := p.1) (Y := p.2)
          refine ⟨.ref c, p.1, p.2, rfl, h6.pt, hd, fun H7 e7 => ?_⟩
          have e67 := e6.trans e7
          refine ⟨_, rfl, q, p.1, p.2, rfl, e67 _ _ hq5, hd, fun H8 e8 => ⟨rfl, _, rfl, ?_⟩⟩
          rw [neT rfl]
          refine iteF ?_
          exact hN2 _ _ ⟨rfl, e45.trans (e67.trans e8)⟩
        rintro σ H4 ⟨rfl, e4⟩
        have hq4 := e4 _ _ hq
        -- short
        refine seq_gen (fun σ' H' => ∃ sh, σ' = [some (.ref sa), some (.int (0 + i)), some (.ref pl), some (.ref wl), some (.ref q), some (.ref sh), v6, v7, v8, v9, v10] ∧ Same H4 H' ∧ H' sh = some (.tup [.int (low p).1, .int (low p).2])) (fun N2 hN2 => ?_) ?_
        · refine ⟨_, rfl, 80, .ref q, p.1, p.2, rfl, ⟨q, rfl, .inr hq4⟩, hd, by decide, by decide, s1, s2, fun w5 H5 e5 h5 => ?_⟩
          obtain ⟨b, db, rfl, zb⟩ := id h5
          refine ⟨b, db, _, rfl, zb, pair_no _ _, .ref b, _, _, rfl, h5, fun sh H6 _ e6 hs => ?_⟩
          exact hN2 _ _ ⟨sh, rfl, e5.trans e6, hs⟩
        rintro σ H5 ⟨sh, rfl, e5, hs5⟩
        have hq5 := e5 _ _ hq4
        -- not same way or lowest(short)
        refine seq_gen (fun σ' H' => σ' = [some (.ref sa), some (.int (0 + i)), some (.ref pl), some (.ref wl), some (.ref q), some (.ref sh), v6, v7, v8, v9, v10] ∧ Same H5 H') (fun N2 hN2 => ?_) ?_
        · obtain ⟨l1, l2⟩ := lo (n := 100) (by decide)
          obtain ⟨l3, l4⟩ := lo (n := 80) (by decide)
          refine ⟨_, rfl, _, rfl, sh, q, (low p).1, (low p).2, p.1, p.2, rfl, hs5, hq5, l1, l2, s1', s2', true, ?_, ?_⟩
          · rw [show sw ((low p).1, (low p).2) (p.1, p.2) = true from sw_low hd]
            try rfl
          refine iteF ?_
          refine ⟨_, rfl, 80, .ref sh, _, _, rfl, ⟨sh, rfl, .inr hs5⟩, low_dir hd, by decide, by decide, l3, l4, fun w6 H6 e6 h6 => ?_⟩
          obtain ⟨b, db, rfl, zb⟩ := id h6
          refine ⟨b, db, _, rfl, zb, pair_no _ _, .ref b, _, _, rfl, h6, fun r H7 _ e7 hr' => ?_⟩
          have e67 := e6.trans e7
          rw [show low ((low p).1, (low p).2) = low p from low_low hd] at hr'
          refine ⟨_, rfl, _, _, tp_dp hr', tp_dp (e67 _ _ hs5), tp_sh _ _, tp_sh _ _, _, rfl, ?_⟩
          rw [eqv_sh (tp_sh _ _)]
          refine iteF ?_
          exact hN2 _ _ ⟨rfl, e67⟩
        rintro σ H6 ⟨rfl, e6⟩
        have hq6 := e6 _ _ hq5
        have hs6 := e6 _ _ hs5
        -- lowest(Point(0, 0) + way)
        refine seq_gen (fun σ' H' => σ' = [some (.ref sa), some (.int (0 + i)), some (.ref pl), some (.ref wl), some (.ref q), some (.ref sh), v6, v7, v8, v9, v10] ∧ Same H6 H') (fun N2 hN2 => ?_) ?_
        · refine fun c dc nc nd ne => ⟨c, dc, 0, 0, rfl, upd_same, rfl, ?_⟩
          have e7 := made_same (C := C) (X := 0) (Y := 0) nc nd
          have h7 := made_is (C := C) (x := c) (dx := dc) (H := H6) (X := 0) (Y := 0)
          have hq7 := e7 _ _ hq6
          refine ⟨_, rfl, c, dc, _, rfl, upd_same, .inr ⟨q, _, rfl, hq7⟩, .ref c, .ref q, 0, 0, p.1, p.2, rfl, h7, ⟨q, rfl, .inr hq7⟩, fun w8 H8 e8 h8 => ?_⟩
          dsimp only at h8
          rw [Int.zero_add, Int.zero_add] at h8
          refine ⟨80, w8, p.1, p.2, rfl, h8.pt, hd, by decide, by decide, s1, s2, fun w9 H9 e9 h9 => ?_⟩
          obtain ⟨b, db, rfl, zb⟩ := id h9
          refine ⟨b, db, _, rfl, zb, pair_no _ _, .ref b, _, _, rfl, h9, fun r Ha _ ea hr' => ?_⟩
          have ee := e7.trans (e8.trans (e9.trans ea))
          refine ⟨_, rfl, _, _, tp_dp hr', tp_dp (ee _ _ hs6), tp_sh _ _, tp_sh _ _, _, rfl, ?_⟩
          rw [eqv_sh (tp_sh _ _)]
          refine iteF ?_
          exact hN2 _ _ ⟨rfl, ee⟩
        rintro σ H7 ⟨rfl, e7⟩
        have hs7 := e7 _ _ hs6
        have e37 := e3.trans (e4.trans (e5.trans (e6.trans e7)))
        -- for part in range(2, 9)
        refine ⟨2, 9, rfl, ⟨by decide, by decide, by decide, by decide⟩, ?_⟩
        refine for_range (lo := 2) (fun c σ' H' => ∃ v6 : Option V, σ' = [some (.ref sa), some (.int (0 + i)), some (.ref pl), some (.ref wl), some (.ref q), some (.ref sh), v6, v7, v8, v9, v10] ∧ H' = H7) ⟨_, rfl, rfl⟩ ?_ ?_
        · rintro c σ H8 hc ⟨v6, rfl, rfl⟩
          have hp0 : (0 : Int) < 2 + (c : Int) := by omega
          refine ⟨_, rfl, sh, _, _, _, rfl, rfl, SqT.of hs7, atI_nat (j := 0) rfl, _, rfl, _, _, rfl, rfl, hp0, rfl, _, rfl, ?_⟩
          have no := low_prime hd (m := 2 + (c : Int)) (by omega)
          by_cases h1 : (low p).1 % (2 + (c : Int)) = 0
          · rw [int_eqT h1]
            refine iteT ?_
            refine ⟨_, rfl, sh, _, _, _, rfl, rfl, SqT.of hs7, atI_nat (j := 1) rfl, _, rfl, _, _, rfl, rfl, hp0, rfl, _, rfl, ?_⟩
            rw [int_eqF fun h2 => no ⟨h1, h2⟩]
            refine iteF ?_
            exact ⟨_, rfl, rfl⟩
          · rw [int_eqF h1]
            refine iteF ?_
            refine iteF ?_
            exact ⟨_, rfl, rfl⟩
        · rintro σ H8 ⟨v6, rfl, rfl⟩
          exact ⟨_, _, _, rfl, e37⟩
      · rintro σ H3 ⟨v4, v5, v6, rfl, e3⟩
        exact hN _ _ ⟨_, _, _, rfl, e3⟩
    rintro σ H3 ⟨u4, u5, u6, rfl, e3⟩
    have hw3 := e3 _ _ hw
    have hT3 := hT.ex e3
    replace e2 := e2.trans e3
    clear hw hT e3
    -- given = list(ways)
    refine seq_gen (fun σ' H' => ∃ gl, σ' = [some (.ref sa), some (.int (0 + i)), some (.ref pl), some (.ref wl), u4, u5, u6, some (.ref gl), v8, v9, v10] ∧ Same H3 H' ∧ H' gl = some (.lst xs)) (fun N hN => ?_) ?_
    · refine ⟨_, rfl, wl, xs, rfl, .inl (SqL.of hw3), fun gl ngl => ?_⟩
      exact hN _ _ ⟨gl, rfl, same_new ngl, upd_same⟩
    rintro σ H4 ⟨gl, rfl, e4, hg4⟩
    have hw4 := e4 _ _ hw3
    have hT4 := hT3.ex e4
    replace e2 := e2.trans e4
    clear hw3 hT3 e4
    -- in order
    refine seq_gen (fun σ' H' => σ' = [some (.ref sa), some (.int (0 + i)), some (.ref pl), some (.ref wl), u4, u5, u6, some (.ref gl), v8, v9, v10] ∧ Same H4 H') (fun N hN => ?_) ?_
    · refine ⟨_, rfl, _, rfl, 80, gl, xs, ps, rfl, SqL.of hg4, by omega, by decide, by decide, asked_of hT4 hdir hsm, fun F9 H5 es nF e5 hF hE hm _ => ?_⟩
      refine ⟨wl, F9, xs, ps, sortB Prod.snd es, rfl, e5 _ _ hw4, hT4.ex e5, hF, hE.sort, by rw [sort_map, hm], hdir, hsm, hpl20, fun H6 e6 => ⟨true, rfl, ?_⟩⟩
      refine iteF ?_
      have e56 := e5.trans e6
      refine ⟨_, rfl, _, rfl, .list (ps.map pD), .list (ps.map pD), .lst (SqL.of (e56 _ _ hg4)) (hT4.ex e56).dp, .lst (SqL.of (e56 _ _ hw4)) (hT4.ex e56).dp, pDs_shaped _, pDs_shaped _, _, rfl, ?_⟩
      rw [pDs_refl]
      refine iteF ?_
      exact hN _ _ ⟨rfl, e56⟩
    rintro σ H5 ⟨rfl, e5⟩
    have hw5 := e5 _ _ hw4
    have hT5 := hT4.ex e5
    replace e2 := e2.trans e5
    clear hw4 hT4 hg4 e5
    -- for odd in ..
    refine ⟨(by show 2 ≤ sizeLine; decide), fun t1 n1 => ⟨(by show 1 ≤ sizeLine; decide), fun t2 n2 => ⟨(by show 2 ≤ sizeLine; decide), fun t3 n3 => ⟨(by show 5 ≤ sizeLine; decide), fun l nl => ?_⟩⟩⟩⟩
    have g1 := same_new (o := .tup [.int 0, .int 0]) n1
    have g2 := same_new (o := .tup [.int 1]) n2
    have g3 := same_new (o := .tup [.bl true, .int 1]) n3
    have g4 := same_new (o := .lst [.ref t1, .non, .ref t2, .ref t3, .str "x"]) nl
    have gg := g1.trans (g2.trans (g3.trans g4))
    have hl := upd_same (H := (upd (upd (upd H5 t1 (.tup [.int 0, .int 0])) t2 (.tup [.int 1])) t3 (.tup [.bl true, .int 1]))) (a := l) (o := .lst [.ref t1, .non, .ref t2, .ref t3, .str "x"])
    have all : ∀ (j : Nat) (v : V), ([.ref t1, .non, .ref t2, .ref t3, .str "x"] : List V)[j]? = some v → ∃ d c wd, OddT C CI CN K (upd (upd (upd (upd H5 t1 (.tup [.int 0, .int 0])) t2 (.tup [.int 1])) t3 (.tup [.bl true, .int 1])) l (.lst [.ref t1, .non, .ref t2, .ref t3, .str "x"])) v d c wd := by
      intro j v hv
      match j, hv with
      | 0, hv => cases hv; exact ⟨_, _, _, odd_00 (g4 _ _ (g3 _ _ (g2 _ _ upd_same)))⟩
      | 1, hv => cases hv; exact ⟨_, _, _, odd_none⟩
      | 2, hv => cases hv; exact ⟨_, _, _, odd_1 (g4 _ _ (g3 _ _ upd_same))⟩
      | 3, hv => cases hv; exact ⟨_, _, _, odd_t1 (g4 _ _ upd_same)⟩
      | 4, hv => cases hv; exact ⟨_, _, _, odd_x⟩
      | j + 5, hv => simp at hv
    refine ⟨l, rfl, ⟨_, SqL.of hl⟩, ?_⟩
    generalize (upd (upd (upd (upd H5 t1 (.tup [.int 0, .int 0])) t2 (.tup [.int 1])) t3 (.tup [.bl true, .int 1])) l (.lst [.ref t1, .non, .ref t2, .ref t3, .str "x"])) = Hj at gg hl all
    clear g1 g2 g3 g4
    have hwj := gg _ _ hw5
    have hTj := hT5.ex gg
    refine for_list (K := K) (a := l) (xs := [.ref t1, .non, .ref t2, .ref t3, .str "x"]) (fun j σ' H' => ∃ v8 v9 : Option V, σ' = [some (.ref sa), some (.int (0 + i)), some (.ref pl), some (.ref wl), u4, u5, u6, some (.ref gl), v8, v9, v10] ∧ Same Hj H') ⟨_, _, rfl, Same.refl _⟩ (fun j σ' H' _ h => by
      obtain ⟨_, _, _, e⟩ := h
      exact SqL.of (e _ _ hl)) ?_ ?_
    · rintro j v σ H6 hv ⟨v8, v9, rfl, e6⟩
      obtain ⟨dd, c, wd, hodd⟩ := all j v hv
      have o6 := hodd.ex e6
      -- due
      refine seq_gen (fun σ' H' => ∃ du, σ' = [some (.ref sa), some (.int (0 + i)), some (.ref pl), some (.ref wl), u4, u5, u6, some (.ref gl), some v, some (.ref du), v10] ∧ Same H6 H' ∧ H' du = some (.tup [.str wd, .str dd.shown])) (fun N hN => ?_) ?_
      · refine ⟨_, rfl, (by show 2 ≤ sizeLine; decide), fun z nz => ?_⟩
        have e7 := same_new (o := .tup [.int 0, .int 0]) nz
        have o7 := o6.ex e7
        refine ⟨dd, tp 0 0, o7.dp, tp_dp upd_same, o7.s1, tp_sh _ _, _, rfl, ?_⟩
        have hq := o7.eq
        have fin : ∀ du, (upd H6 z (.tup [.int 0, .int 0])) du = none → N [some (.ref sa), some (.int (0 + i)), some (.ref pl), some (.ref wl), u4, u5, u6, some (.ref gl), some v, some (.ref du), v10] (upd (upd H6 z (.tup [.int 0, .int 0])) du (.tup [.str wd, .str dd.shown])) := fun du ndu => hN _ _ ⟨du, rfl, e7.trans (same_new ndu), upd_same⟩
        cases hb : PyData.eqv dd (tp 0 0) with
        | true =>
          rw [hb, if_pos rfl] at hq
          subst hq
          refine iteT ?_
          exact ⟨_, rfl, v, dd, rfl, o7.dp, o7.sh.s, o7.sh.nd, o7.sh.dp, o7.sh.z, (by show 2 ≤ sizeLine; decide), fin⟩
        | false =>
          rw [hb, if_neg Bool.false_ne_true] at hq
          subst hq
          refine iteF ?_
          exact ⟨_, rfl, v, dd, rfl, o7.dp, o7.sh.s, o7.sh.nd, o7.sh.dp, o7.sh.z, (by show 2 ≤ sizeLine; decide), fin⟩
      rintro σ H7 ⟨du, rfl, e7, hdu⟩
      have o7 := o6.ex e7
      have dpT : ∀ {H' : Hp} {t : Addr}, H' t = some (.tup [.str wd, .str dd.shown]) → Dp K H' (.ref t) (.tuple [.str wd, .str dd.shown]) := fun h => .tup (SqT.of h) (.cons (.str _) (.cons (.str _) .nil))
      -- the three questions
      refine ⟨_, rfl, 0, v, v, c, dd, wd, rfl, o7.odd, o7.dp, o7.sh, o7.w, .inl ⟨.inl rfl, rfl⟩, fun r1 H8 e8 h8 => ?_⟩
      refine ⟨_, rfl, _, _, dpT h8, dpT (e8 _ _ hdu), o7.s2, o7.s2, _, rfl, ?_⟩
      rw [eqv_sh o7.s2]
      refine iteF ?_
      have o8 := o7.ex e8
      refine ⟨_, rfl, 1, v, v, c, dd, wd, rfl, o8.odd, o8.dp, o8.sh, o8.w, .inl ⟨.inr rfl, rfl⟩, fun r2 H9 e9 h9 => ?_⟩
      refine ⟨_, rfl, _, _, dpT h9, dpT (e9 _ _ (e8 _ _ hdu)), o7.s2, o7.s2, _, rfl, ?_⟩
      rw [eqv_sh o7.s2]
      refine iteF ?_
      have o9 := o8.ex e9
      have e69 := e6.trans (e7.trans (e8.trans e9))
      have hw9 := e69 _ _ hwj
      refine ⟨_, rfl, _, rfl, (by show 2 ≤ sizeLine; decide), fun la nla => ?_⟩
      have ea := same_new (o := .lst [v, .non]) nla
      refine ⟨wl, la, xs, _, rfl, rfl, ea _ _ hw9, upd_same, ?_, fun lb nlb => ?_⟩
      · show xs.length + 2 ≤ sizeLine
        exact Nat.le_trans (by omega : xs.length + 2 ≤ 1000) (by decide)
      have eb := same_new (o := .lst (xs ++ [v, .non])) nlb
      have eab := ea.trans eb
      have ob := o9.ex eab
      have hTb := hTj.ex (e69.trans eab)
      refine ⟨2, .ref lb, v, c, dd, wd, rfl, ob.odd, ob.dp, ob.sh, ob.w, .inr ⟨rfl, 80, lb, xs, ps, .non, rfl, SqL.of upd_same, by omega, by decide, by decide, asked_of hTb hdir hsm⟩, fun r3 Hc ec hc => ?_⟩
      have ee := eab.trans ec
      refine ⟨_, rfl, _, _, dpT hc, dpT (ee _ _ (e9 _ _ (e8 _ _ hdu))), o7.s2, o7.s2, _, rfl, ?_⟩
      rw [eqv_sh o7.s2]
      refine iteF ?_
      exact ⟨_, _, rfl, e69.trans ee⟩
    · rintro σ H6 ⟨v8, v9, rfl, e6⟩
      exact ⟨_, _, _, _, _, _, _, _, _, _, rfl, eH.trans (e2.trans (gg.trans e6))⟩

end
end Fo
set_option Elab.async false
set_option linter.all false
set_option maxRecDepth 100000
set_option maxHeartbeats 2000000
namespace Fo
open PySem L2
theorem all_mk {l : PySem.W.OpenLaw} {w : World} {K : PySem.W.Frag} {h : Heap} {mg : Str → Option Value} {fa C CF aS t0 t1 t2 t3 t4 t5 t6 t7 fW fI fP fA fO fSg fG fDr fK fL fX fB fPl fH fD fLk fDn fEr fAk fSm fBh fIo fSo fAd fPm fZ CIp gIp NIp cdaIp ccIp CNd gNd NNd cdaNd ccNd : Addr} (X : K.In h) (G : h.Ns mainGlobals mg) (hfa : mg "law" = some (.ref fa))
    {nSi nt0 nt1 nt2 nt3 nt4 nt5 nt6 nt7 : Nat} {slSi st0 st1 st2 st3 st4 st5 st6 st7 : Array (Option Value)} {dt0 dt1 dt2 dt3 dt4 dt5 dt6 dt7 : Option Addr} {x0 y0 x1 y1 x2 y2 x3 y3 x4 y4 x5 y5 x6 y6 x7 y7 : Tok}
    {nmIp qnIp quIp msIp fiIp : Str} {bsIp bmIp subIp : List Value} {snIp : List Str} {abIp : Bool} {colIp : Option Bool} {ddIp odgIp angIp cddIp cldIp : Option Addr} {e0Ip e1Ip e2Ip e3Ip e5Ip : Option Value} {ocgIp kVgIp dcgIp pmgIp ctgIp cclIp clIp : Value} {slgIp ccsIp cslIp : Array (Option Value)} {vsIp : Array Value} {p1Ip p2Ip r1Ip r2Ip r3Ip r4Ip r5Ip r6Ip q1Ip q2Ip q3Ip q4Ip : Pos} {jIp : Nat} {tfIp : Tok}
    {nmNd qnNd quNd msNd fiNd : Str} {bsNd bmNd subNd : List Value} {snNd : List Str} {abNd : Bool} {colNd : Option Bool} {ddNd odgNd angNd cddNd cldNd : Option Addr} {e0Nd e1Nd e2Nd e3Nd e5Nd : Option Value} {ocgNd kVgNd dcgNd pmgNd ctgNd cclNd clNd : Value} {slgNd ccsNd cslNd : Array (Option Value)} {vsNd : Array Value} {p1Nd p2Nd r1Nd r2Nd r3Nd r4Nd r5Nd r6Nd q1Nd q2Nd q3Nd q4Nd : Pos} {jNd : Nat} {tfNd : Tok}
    {odW anW odI anI odP anP odA anA odO anO odSg anSg odG anG odDr anDr odK anK odL anL odX anX odB anB odPl anPl odH anH odD anD odLk anLk odDn anDn odEr anEr odAk anAk odSm anSm odBh anBh odIo anIo odSo anSo odAd anAd odPm anPm odZ anZ : Option Addr} {slW slI slP slA slO slSg slG slDr slK slL slX slB slPl slH slD slLk slDn slEr slAk slSm slBh slIo slSo slAd slPm slZ : Array (Option Value)} {ocW kVW dcW pmW cdW ctW ocI kVI dcI pmI cdI ctI ocP kVP dcP pmP cdP ctP ocA kVA dcA pmA cdA ctA ocO kVO dcO pmO cdO ctO ocSg kVSg dcSg pmSg cdSg ctSg ocG kVG dcG pmG cdG ctG ocDr kVDr dcDr pmDr cdDr ctDr ocK kVK dcK pmK cdK ctK ocL kVL dcL pmL cdL ctL ocX kVX dcX pmX cdX ctX ocB kVB dcB pmB cdB ctB ocPl kVPl dcPl pmPl cdPl ctPl ocH kVH dcH pmH cdH ctH ocD kVD dcD pmD cdD ctD ocLk kVLk dcLk pmLk cdLk ctLk ocDn kVDn dcDn pmDn cdDn ctDn ocEr kVEr dcEr pmEr cdEr ctEr ocAk kVAk dcAk pmAk cdAk ctAk ocSm kVSm dcSm pmSm cdSm ctSm ocBh kVBh dcBh pmBh cdBh ctBh ocIo kVIo dcIo pmIo cdIo ctIo ocSo kVSo dcSo pmSo cdSo ctSo ocAd kVAd dcAd pmAd cdAd ctAd ocPm kVPm dcPm pmPm cdPm ctPm ocZ kVZ dcZ pmZ cdZ ctZ : Value}
    (aC : PySem.W.nsIn K mainGlobals "Point" = some (some (.ref C)))
    (aW : PySem.W.nsIn K mainGlobals "is_whole" = some (some (.ref fW)))
    (lW : K.lookup fW = some ⟨ocW, odW, .func (PySem.W.fnOf "is_whole" "is_whole" (defArgs sWhole) (defBody sWhole) (defScope sWhole) .none kVW dcW pmW anW cdW ctW), slW⟩)
    (cW : PySem.W.codeIn K cdW "is_whole" = true)
    (kW : PySem.W.keepIn K (.ref fW) = true)
    (aI : PySem.W.findIn K (.ref C) "__init__" = some (some (.ref fI)))
    (iI : PySem.W.isFn K (.ref fI) = true)
    (lI : K.lookup fI = some ⟨ocI, odI, .func (PySem.W.fnOf "__init__" "Point.__init__" (defArgs sInit) (defBody sInit) (defScope sInit) .none kVI dcI pmI anI cdI ctI), slI⟩)
    (cI : PySem.W.codeIn K cdI "Point.__init__" = true)
    (kI : PySem.W.keepIn K (.ref fI) = true)
    (aP : PySem.W.nsIn K mainGlobals "is_point" = some (some (.ref fP)))
    (lP : K.lookup fP = some ⟨ocP, odP, .func (PySem.W.fnOf "is_point" "is_point" (defArgs sIsPoint) (defBody sIsPoint) (defScope sIsPoint) .none kVP dcP pmP anP cdP ctP), slP⟩)
    (cP : PySem.W.codeIn K cdP "is_point" = true)
    (kP : PySem.W.keepIn K (.ref fP) = true)
    (aA : PySem.W.nsIn K mainGlobals "as_point" = some (some (.ref fA)))
    (lA : K.lookup fA = some ⟨ocA, odA, .func (PySem.W.fnOf "as_point" "as_point" (defArgs sAsPoint) (defBody sAsPoint) (defScope sAsPoint) .none kVA dcA pmA anA cdA ctA), slA⟩)
    (cA : PySem.W.codeIn K cdA "as_point" = true)
    (kA : PySem.W.keepIn K (.ref fA) = true)
    (aO : PySem.W.nsIn K mainGlobals "operand" = some (some (.ref fO)))
    (lO : K.lookup fO = some ⟨ocO, odO, .func (PySem.W.fnOf "operand" "operand" (defArgs sOperand) (defBody sOperand) (defScope sOperand) .none kVO dcO pmO anO cdO ctO), slO⟩)
    (cO : PySem.W.codeIn K cdO "operand" = true)
    (kO : PySem.W.keepIn K (.ref fO) = true)
    (aSg : PySem.W.nsIn K mainGlobals "sign" = some (some (.ref fSg)))
    (lSg : K.lookup fSg = some ⟨ocSg, odSg, .func (PySem.W.fnOf "sign" "sign" (defArgs sSign) (defBody sSign) (defScope sSign) .none kVSg dcSg pmSg anSg cdSg ctSg), slSg⟩)
    (cSg : PySem.W.codeIn K cdSg "sign" = true)
    (kSg : PySem.W.keepIn K (.ref fSg) = true)
    (aG : PySem.W.nsIn K mainGlobals "common_divisor" = some (some (.ref fG)))
    (lG : K.lookup fG = some ⟨ocG, odG, .func (PySem.W.fnOf "common_divisor" "common_divisor" (defArgs sGcd) (defBody sGcd) (defScope sGcd) .none kVG dcG pmG anG cdG ctG), slG⟩)
    (cG : PySem.W.codeIn K cdG "common_divisor" = true)
    (kG : PySem.W.keepIn K (.ref fG) = true)
    (aDr : PySem.W.nsIn K mainGlobals "as_direction" = some (some (.ref fDr)))
    (lDr : K.lookup fDr = some ⟨ocDr, odDr, .func (PySem.W.fnOf "as_direction" "as_direction" (defArgs sAsDir) (defBody sAsDir) (defScope sAsDir) .none kVDr dcDr pmDr anDr cdDr ctDr), slDr⟩)
    (cDr : PySem.W.codeIn K cdDr "as_direction" = true)
    (kDr : PySem.W.keepIn K (.ref fDr) = true)
    (aK : PySem.W.nsIn K mainGlobals "kind_of" = some (some (.ref fK)))
    (lK : K.lookup fK = some ⟨ocK, odK, .func (PySem.W.fnOf "kind_of" "kind_of" (defArgs sKind) (defBody sKind) (defScope sKind) .none kVK dcK pmK anK cdK ctK), slK⟩)
    (cK : PySem.W.codeIn K cdK "kind_of" = true)
    (kK : PySem.W.keepIn K (.ref fK) = true)
    (aL : PySem.W.nsIn K mainGlobals "lowest" = some (some (.ref fL)))
    (lL : K.lookup fL = some ⟨ocL, odL, .func (PySem.W.fnOf "lowest" "lowest" (defArgs sLow) (defBody sLow) (defScope sLow) .none kVL dcL pmL anL cdL ctL), slL⟩)
    (cL : PySem.W.codeIn K cdL "lowest" = true)
    (kL : PySem.W.keepIn K (.ref fL) = true)
    (aX : PySem.W.findIn K (.ref C) "cross" = some (some (.ref fX)))
    (iX : PySem.W.isFn K (.ref fX) = true)
    (lX : K.lookup fX = some ⟨ocX, odX, .func (PySem.W.fnOf "cross" "Point.cross" (defArgs sCross) (defBody sCross) (defScope sCross) .none kVX dcX pmX anX cdX ctX), slX⟩)
    (cX : PySem.W.codeIn K cdX "Point.cross" = true)
    (kX : PySem.W.keepIn K (.ref fX) = true)
    (aB : PySem.W.nsIn K mainGlobals "comes_before" = some (some (.ref fB)))
    (lB : K.lookup fB = some ⟨ocB, odB, .func (PySem.W.fnOf "comes_before" "comes_before" (defArgs sBefore) (defBody sBefore) (defScope sBefore) .none kVB dcB pmB anB cdB ctB), slB⟩)
    (cB : PySem.W.codeIn K cdB "comes_before" = true)
    (kB : PySem.W.keepIn K (.ref fB) = true)
    (aPl : PySem.W.nsIn K mainGlobals "place_for" = some (some (.ref fPl)))
    (lPl : K.lookup fPl = some ⟨ocPl, odPl, .func (PySem.W.fnOf "place_for" "place_for" (defArgs sPlace) (defBody sPlace) (defScope sPlace) .none kVPl dcPl pmPl anPl cdPl ctPl), slPl⟩)
    (cPl : PySem.W.codeIn K cdPl "place_for" = true)
    (kPl : PySem.W.keepIn K (.ref fPl) = true)
    (aH : PySem.W.nsIn K mainGlobals "_law_hand" = some (some (.ref fH)))
    (lH : K.lookup fH = some ⟨ocH, odH, .func (PySem.W.fnOf "_law_hand" "_law_hand" (defArgs sHand) (defBody sHand) (defScope sHand) .none kVH dcH pmH anH cdH ctH), slH⟩)
    (cH : PySem.W.codeIn K cdH "_law_hand" = true)
    (kH : PySem.W.keepIn K (.ref fH) = true)
    (aD : PySem.W.nsIn K mainGlobals "_law_draw" = some (some (.ref fD)))
    (lD : K.lookup fD = some ⟨ocD, odD, .func (PySem.W.fnOf "_law_draw" "_law_draw" (defArgs sDraw) (defBody sDraw) (defScope sDraw) .none kVD dcD pmD anD cdD ctD), slD⟩)
    (cD : PySem.W.codeIn K cdD "_law_draw" = true)
    (kD : PySem.W.keepIn K (.ref fD) = true)
    (aLk : PySem.W.nsIn K mainGlobals "_law_kind" = some (some (.ref fLk)))
    (lLk : K.lookup fLk = some ⟨ocLk, odLk, .func (PySem.W.fnOf "_law_kind" "_law_kind" (defArgs sLKind) (defBody sLKind) (defScope sLKind) .none kVLk dcLk pmLk anLk cdLk ctLk), slLk⟩)
    (cLk : PySem.W.codeIn K cdLk "_law_kind" = true)
    (kLk : PySem.W.keepIn K (.ref fLk) = true)
    (aDn : PySem.W.nsIn K mainGlobals "_law_direction" = some (some (.ref fDn)))
    (lDn : K.lookup fDn = some ⟨ocDn, odDn, .func (PySem.W.fnOf "_law_direction" "_law_direction" (defArgs sDirn) (defBody sDirn) (defScope sDirn) .none kVDn dcDn pmDn anDn cdDn ctDn), slDn⟩)
    (cDn : PySem.W.codeIn K cdDn "_law_direction" = true)
    (kDn : PySem.W.keepIn K (.ref fDn) = true)
    (aEr : PySem.W.nsIn K mainGlobals "_law_error" = some (some (.ref fEr)))
    (lEr : K.lookup fEr = some ⟨ocEr, odEr, .func (PySem.W.fnOf "_law_error" "_law_error" (defArgs sError) (defBody sError) (defScope sError) .none kVEr dcEr pmEr anEr cdEr ctEr), slEr⟩)
    (cEr : PySem.W.codeIn K cdEr "_law_error" = true)
    (kEr : PySem.W.keepIn K (.ref fEr) = true)
    (aAk : PySem.W.nsIn K mainGlobals "_law_asked" = some (some (.ref fAk)))
    (lAk : K.lookup fAk = some ⟨ocAk, odAk, .func (PySem.W.fnOf "_law_asked" "_law_asked" (defArgs sAsked) (defBody sAsked) (defScope sAsked) .none kVAk dcAk pmAk anAk cdAk ctAk), slAk⟩)
    (cAk : PySem.W.codeIn K cdAk "_law_asked" = true)
    (kAk : PySem.W.keepIn K (.ref fAk) = true)
    (aSm : PySem.W.nsIn K mainGlobals "_law_same_way" = some (some (.ref fSm)))
    (lSm : K.lookup fSm = some ⟨ocSm, odSm, .func (PySem.W.fnOf "_law_same_way" "_law_same_way" (defArgs sSame) (defBody sSame) (defScope sSame) .none kVSm dcSm pmSm anSm cdSm ctSm), slSm⟩)
    (cSm : PySem.W.codeIn K cdSm "_law_same_way" = true)
    (kSm : PySem.W.keepIn K (.ref fSm) = true)
    (aBh : PySem.W.nsIn K mainGlobals "_law_is_behind" = some (some (.ref fBh)))
    (lBh : K.lookup fBh = some ⟨ocBh, odBh, .func (PySem.W.fnOf "_law_is_behind" "_law_is_behind" (defArgs sBehind) (defBody sBehind) (defScope sBehind) .none kVBh dcBh pmBh anBh cdBh ctBh), slBh⟩)
    (cBh : PySem.W.codeIn K cdBh "_law_is_behind" = true)
    (kBh : PySem.W.keepIn K (.ref fBh) = true)
    (aIo : PySem.W.nsIn K mainGlobals "_law_in_order" = some (some (.ref fIo)))
    (lIo : K.lookup fIo = some ⟨ocIo, odIo, .func (PySem.W.fnOf "_law_in_order" "_law_in_order" (defArgs sInOrder) (defBody sInOrder) (defScope sInOrder) .none kVIo dcIo pmIo anIo cdIo ctIo), slIo⟩)
    (cIo : PySem.W.codeIn K cdIo "_law_in_order" = true)
    (kIo : PySem.W.keepIn K (.ref fIo) = true)
    (aSo : PySem.W.nsIn K mainGlobals "sorted_around" = some (some (.ref fSo)))
    (lSo : K.lookup fSo = some ⟨ocSo, odSo, .func (PySem.W.fnOf "sorted_around" "sorted_around" (defArgs sSorted) (defBody sSorted) (defScope sSorted) .none kVSo dcSo pmSo anSo cdSo ctSo), slSo⟩)
    (cSo : PySem.W.codeIn K cdSo "sorted_around" = true)
    (kSo : PySem.W.keepIn K (.ref fSo) = true)
    (aAd : PySem.W.findIn K (.ref C) "__add__" = some (some (.ref fAd)))
    (iAd : PySem.W.isFn K (.ref fAd) = true)
    (lAd : K.lookup fAd = some ⟨ocAd, odAd, .func (PySem.W.fnOf "__add__" "Point.__add__" (defArgs sAdd) (defBody sAdd) (defScope sAdd) .none kVAd dcAd pmAd anAd cdAd ctAd), slAd⟩)
    (cAd : PySem.W.codeIn K cdAd "Point.__add__" = true)
    (kAd : PySem.W.keepIn K (.ref fAd) = true)
    (aPm : PySem.W.findIn K (.ref C) "pair" = some (some (.ref fPm)))
    (iPm : PySem.W.isFn K (.ref fPm) = true)
    (lPm : K.lookup fPm = some ⟨ocPm, odPm, .func (PySem.W.fnOf "pair" "Point.pair" (defArgs sPairM) (defBody sPairM) (defScope sPairM) .none kVPm dcPm pmPm anPm cdPm ctPm), slPm⟩)
    (cPm : PySem.W.codeIn K cdPm "Point.pair" = true)
    (kPm : PySem.W.keepIn K (.ref fPm) = true)
    (aZ : PySem.W.nsIn K mainGlobals "law" = some (some (.ref fZ)))
    (lZ : K.lookup fZ = some ⟨ocZ, odZ, .func (PySem.W.fnOf "law" "law" (defArgs sLaw) (defBody sLaw) (defScope sLaw) .none kVZ dcZ pmZ anZ cdZ ctZ), slZ⟩)
    (cZ : PySem.W.codeIn K cdZ "law" = true)
    (kZ : PySem.W.keepIn K (.ref fZ) = true)
    (pg : PySem.W.plainGet K C Str.empty = true)
    (hd : PySem.W.hasDictIn K C = true)
    (po : PySem.W.plainOver K C = true)
    (sa : PySem.W.findIn K (.ref C) "__setattr__" = some (some (.builtin "object.__setattr__")))
    (mk : PySem.W.makesIn K C = true)
    (kc : PySem.W.keepIn K (.ref C) = true)
    (nX : PySem.W.findIn K (.ref C) "x" = some none)
    (nY : PySem.W.findIn K (.ref C) "y" = some none)
    (ha : PySem.W.findIn K (.ref C) "__class__" = some (some (.builtin "object.__class__")))
    (hn : PySem.W.specialIn K (.builtin "object.__class__") "__get__" = some (some (.builtin "getset_descriptor.__get__")))
    (htk : PySem.W.takesIn K (.builtin "object.__class__") = some true)
    (hm : PySem.W.mroIn K C (.type "object") = some true)
    (kTC : PySem.W.kitOne K (.type "tuple") (.ref C) = some false)
    (kCC : PySem.W.kitOne K (.ref C) (.ref C) = some true)
    (sf : PySem.W.selfFirst K C = true)
    (kNC : PySem.W.kitOne K (.type "NoneType") (.ref C) = some false)
    (kBC : PySem.W.kitOne K (.type "bool") (.ref C) = some false)
    (kIC : PySem.W.kitOne K (.type "int") (.ref C) = some false)
    (kSC : PySem.W.kitOne K (.type "str") (.ref C) = some false)
    (kLC : PySem.W.kitOne K (.type "list") (.ref C) = some false)
    (z_isinstance : PySem.W.nsIn K mainGlobals "isinstance" = some none)
    (z_len : PySem.W.nsIn K mainGlobals "len" = some none)
    (z_int : PySem.W.nsIn K mainGlobals "int" = some none)
    (z_bool : PySem.W.nsIn K mainGlobals "bool" = some none)
    (z_tuple : PySem.W.nsIn K mainGlobals "tuple" = some none)
    (z_range : PySem.W.nsIn K mainGlobals "range" = some none)
    (z_max : PySem.W.nsIn K mainGlobals "max" = some none)
    (z_min : PySem.W.nsIn K mainGlobals "min" = some none)
    (z_abs : PySem.W.nsIn K mainGlobals "abs" = some none)
    (z_list : PySem.W.nsIn K mainGlobals "list" = some none)
    (z_repr : PySem.W.nsIn K mainGlobals "repr" = some none)
    (z_super : PySem.W.nsIn K mainGlobals "super" = some none)
    (aSi : PySem.W.nsIn K mainGlobals "SIGNS" = some (some (.ref aS)))
    (lSi : K.lookup aS = some ⟨.type "tuple", none, .seq #[.ref t0, .ref t1, .ref t2, .ref t3, .ref t4, .ref t5, .ref t6, .ref t7] nSi, slSi⟩)
    (lt0 : K.lookup t0 = some ⟨.type "tuple", dt0, .seq #[.int (1) x0, .int (0) y0] nt0, st0⟩)
    (lt1 : K.lookup t1 = some ⟨.type "tuple", dt1, .seq #[.int (1) x1, .int (1) y1] nt1, st1⟩)
    (lt2 : K.lookup t2 = some ⟨.type "tuple", dt2, .seq #[.int (0) x2, .int (1) y2] nt2, st2⟩)
    (lt3 : K.lookup t3 = some ⟨.type "tuple", dt3, .seq #[.int (-1) x3, .int (1) y3] nt3, st3⟩)
    (lt4 : K.lookup t4 = some ⟨.type "tuple", dt4, .seq #[.int (-1) x4, .int (0) y4] nt4, st4⟩)
    (lt5 : K.lookup t5 = some ⟨.type "tuple", dt5, .seq #[.int (-1) x5, .int (-1) y5] nt5, st5⟩)
    (lt6 : K.lookup t6 = some ⟨.type "tuple", dt6, .seq #[.int (0) x6, .int (-1) y6] nt6, st6⟩)
    (lt7 : K.lookup t7 = some ⟨.type "tuple", dt7, .seq #[.int (1) x7, .int (-1) y7] nt7, st7⟩)
    (aCF : PySem.W.nsIn K mainGlobals "FillError" = some (some (.ref CF)))
    (tpI : PySem.W.nsIn K cStatics "thirdparty.any" = some none)
    (tsI : (l.prog.main.scope.names.lookup ("super" : Str)).isSome = false)
    (aCIp : PySem.W.nsIn K mainGlobals "InvalidPoint" = some (some (.ref CIp)))
    (lCIp : K.lookup CIp = some (PySem.excClassObj nmIp qnIp CIp NIp bsIp bmIp true snIp subIp abIp colIp ddIp e0Ip e1Ip e2Ip e3Ip e5Ip "ValueError.__new__"))
    (rvIp : PySem.HandSPX.refsVE bmIp = true)
    (saIp : PySem.W.findIn K (.ref CIp) "__setattr__" = some (some (.builtin "object.__setattr__")))
    (gaIp : PySem.W.findIn K (.ref CIp) "__getattribute__" = some (some (.builtin "BaseException.__getattribute__")))
    (ggIp : PySem.W.findIn K (.ref CIp) "__getattr__" = some none)
    (noIp : PySem.W.findIn K (.ref CIp) (Str.ofString "thing") = some none)
    (inIp : PySem.W.findIn K (.ref CIp) "__init__" = some (some (.ref gIp)))
    (tyIp : PySem.W.typeIn K (.ref gIp) = some (.type "function"))
    (kpIp : PySem.W.keepIn K (.ref CIp) = true)
    (exIp : PySem.W.subIn K (.ref CIp) (.type "BaseException") = some true)
    (tcIp : PySem.W.typeIn K (.ref CIp) = some (.type "type"))
    (hdIp : PySem.W.hasDictIn K CIp = true)
    (suIp : PySem.W.ks_superIn K CIp CIp "__init__" = some (some (.builtin "ValueError.__init__")))
    (veIp : PySem.W.subIn K (.ref CIp) (.type "ValueError") = some true)
    (mrIp : PySem.W.mroIn K CIp (.ref CIp) = some true)
    (lgIp : K.lookup gIp = some ⟨ocgIp, odgIp, .func (PySem.W.ksFn "__init__" quIp (FoX_thing.xA p1Ip p2Ip) (FoX_thing.xB msIp r1Ip r2Ip r3Ip r4Ip r5Ip r6Ip q1Ip q2Ip q3Ip q4Ip jIp) FoX_thing.xS .none kVgIp dcgIp pmgIp angIp (.ref cdaIp) ctgIp ccIp), slgIp⟩)
    (cgIp : PySem.W.codeIn K (.ref cdaIp) quIp = true)
    (lcIp : K.lookup cdaIp = some ⟨cclIp, cddIp, .fields vsIp, ccsIp⟩)
    (vfIp : vsIp[2]? = some (.str fiIp tfIp))
    (flIp : ((l.prog.main.file : Str) == fiIp) = true)
    (lnIp : (r3Ip.endLine == r5Ip.line) = true)
    (leIp : K.lookup ccIp = some ⟨clIp, cldIp, .cell (some (.ref CIp)), cslIp⟩)
    (caIp : PySem.W.findIn K (.ref CIp) "__class__" = some (some (.builtin "object.__class__")))
    (moIp : PySem.W.mroIn K CIp (.type "object") = some true)
    (emIp : PySem.W.exmOne K (.ref CIp) (.ref CF) = some true)
    (ksIp : PySem.W.kitOne K (.ref CIp) (.ref CIp) = some true)
    (aCNd : PySem.W.nsIn K mainGlobals "NoDirection" = some (some (.ref CNd)))
    (lCNd : K.lookup CNd = some (PySem.excClassObj nmNd qnNd CNd NNd bsNd bmNd true snNd subNd abNd colNd ddNd e0Nd e1Nd e2Nd e3Nd e5Nd "ValueError.__new__"))
    (rvNd : PySem.HandSPX.refsVE bmNd = true)
    (saNd : PySem.W.findIn K (.ref CNd) "__setattr__" = some (some (.builtin "object.__setattr__")))
    (gaNd : PySem.W.findIn K (.ref CNd) "__getattribute__" = some (some (.builtin "BaseException.__getattribute__")))
    (ggNd : PySem.W.findIn K (.ref CNd) "__getattr__" = some none)
    (noNd : PySem.W.findIn K (.ref CNd) (Str.ofString "thing") = some none)
    (inNd : PySem.W.findIn K (.ref CNd) "__init__" = some (some (.ref gNd)))
    (tyNd : PySem.W.typeIn K (.ref gNd) = some (.type "function"))
    (kpNd : PySem.W.keepIn K (.ref CNd) = true)
    (exNd : PySem.W.subIn K (.ref CNd) (.type "BaseException") = some true)
    (tcNd : PySem.W.typeIn K (.ref CNd) = some (.type "type"))
    (hdNd : PySem.W.hasDictIn K CNd = true)
    (suNd : PySem.W.ks_superIn K CNd CNd "__init__" = some (some (.builtin "ValueError.__init__")))
    (veNd : PySem.W.subIn K (.ref CNd) (.type "ValueError") = some true)
    (mrNd : PySem.W.mroIn K CNd (.ref CNd) = some true)
    (lgNd : K.lookup gNd = some ⟨ocgNd, odgNd, .func (PySem.W.ksFn "__init__" quNd (FoX_thing.xA p1Nd p2Nd) (FoX_thing.xB msNd r1Nd r2Nd r3Nd r4Nd r5Nd r6Nd q1Nd q2Nd q3Nd q4Nd jNd) FoX_thing.xS .none kVgNd dcgNd pmgNd angNd (.ref cdaNd) ctgNd ccNd), slgNd⟩)
    (cgNd : PySem.W.codeIn K (.ref cdaNd) quNd = true)
    (lcNd : K.lookup cdaNd = some ⟨cclNd, cddNd, .fields vsNd, ccsNd⟩)
    (vfNd : vsNd[2]? = some (.str fiNd tfNd))
    (flNd : ((l.prog.main.file : Str) == fiNd) = true)
    (lnNd : (r3Nd.endLine == r5Nd.line) = true)
    (leNd : K.lookup ccNd = some ⟨clNd, cldNd, .cell (some (.ref CNd)), cslNd⟩)
    (caNd : PySem.W.findIn K (.ref CNd) "__class__" = some (some (.builtin "object.__class__")))
    (moNd : PySem.W.mroIn K CNd (.type "object") = some true)
    (emNd : PySem.W.exmOne K (.ref CNd) (.ref CF) = some true)
    (ksNd : PySem.W.kitOne K (.ref CNd) (.ref CNd) = some true)
    (kIN : PySem.W.kitOne K (.ref CIp) (.ref CNd) = some false) :
    ∃ fd : FuncData, (∀ (s : Shared) (v : Value), BindsTo s fd ⟨[v], []⟩ [("script", v)]) ∧ ∀ base : Heap, K.In base → base.Ns mainGlobals mg → FnG l.prog w K mg base CX0 11 fa fd ["script"] (spLaw K) := by
  have e := hfa.symm.trans (PySem.W.mg_of X G aZ)
  cases e
  have FW := fun_mk (st := sWhole) lW cW kW
  have bW := FW.binds (ps := ["value"]) fun _ _ _ _ _ _ us hl => match us, hl with | [_], _ => rfl
  have FI := fun_mk (st := sInit) lI cI kI
  have bI := FI.binds (ps := ["self", "x", "y"]) fun _ _ _ _ _ _ us hl => match us, hl with | [_, _, _], _ => rfl
  have FP := fun_mk (st := sIsPoint) lP cP kP
  have bP := FP.binds (ps := ["thing"]) fun _ _ _ _ _ _ us hl => match us, hl with | [_], _ => rfl
  have FA := fun_mk (st := sAsPoint) lA cA kA
  have bA := FA.binds (ps := ["thing"]) fun _ _ _ _ _ _ us hl => match us, hl with | [_], _ => rfl
  have FO := fun_mk (st := sOperand) lO cO kO
  have bO := FO.binds (ps := ["thing"]) fun _ _ _ _ _ _ us hl => match us, hl with | [_], _ => rfl
  have FSg := fun_mk (st := sSign) lSg cSg kSg
  have bSg := FSg.binds (ps := ["number"]) fun _ _ _ _ _ _ us hl => match us, hl with | [_], _ => rfl
  have FG := fun_mk (st := sGcd) lG cG kG
  have bG := FG.binds (ps := ["one", "other"]) fun _ _ _ _ _ _ us hl => match us, hl with | [_, _], _ => rfl
  have FDr := fun_mk (st := sAsDir) lDr cDr kDr
  have bDr := FDr.binds (ps := ["thing"]) fun _ _ _ _ _ _ us hl => match us, hl with | [_], _ => rfl
  have FK := fun_mk (st := sKind) lK cK kK
  have bK := FK.binds (ps := ["direction"]) fun _ _ _ _ _ _ us hl => match us, hl with | [_], _ => rfl
  have FL := fun_mk (st := sLow) lL cL kL
  have bL := FL.binds (ps := ["direction"]) fun _ _ _ _ _ _ us hl => match us, hl with | [_], _ => rfl
  have FX := fun_mk (st := sCross) lX cX kX
  have bX := FX.binds (ps := ["self", "other"]) fun _ _ _ _ _ _ us hl => match us, hl with | [_, _], _ => rfl
  have FB := fun_mk (st := sBefore) lB cB kB
  have bB := FB.binds (ps := ["way", "other"]) fun _ _ _ _ _ _ us hl => match us, hl with | [_, _], _ => rfl
  have FPl := fun_mk (st := sPlace) lPl cPl kPl
  have bPl := FPl.binds (ps := ["way", "placed"]) fun _ _ _ _ _ _ us hl => match us, hl with | [_, _], _ => rfl
  have FH := fun_mk (st := sHand) lH cH kH
  have bH := FH.binds (ps := ["script", "k"]) fun _ _ _ _ _ _ us hl => match us, hl with | [_, _], _ => rfl
  have FD := fun_mk (st := sDraw) lD cD kD
  have bD := FD.binds (ps := ["pool", "many"]) fun _ _ _ _ _ _ us hl => match us, hl with | [_, _], _ => rfl
  have FLk := fun_mk (st := sLKind) lLk cLk kLk
  have bLk := FLk.binds (ps := ["d"]) fun _ _ _ _ _ _ us hl => match us, hl with | [_], _ => rfl
  have FDn := fun_mk (st := sDirn) lDn cDn kDn
  have bDn := FDn.binds (ps := ["pool"]) fun _ _ _ _ _ _ us hl => match us, hl with | [_], _ => rfl
  have FEr := fun_mk (st := sError) lEr cEr kEr
  have bEr := FEr.binds (ps := ["e"]) fun _ _ _ _ _ _ us hl => match us, hl with | [_], _ => rfl
  have FAk := fun_mk (st := sAsked) lAk cAk kAk
  have bAk := FAk.binds (ps := ["door", "thing"]) fun _ _ _ _ _ _ us hl => match us, hl with | [_, _], _ => rfl
  have FSm := fun_mk (st := sSame) lSm cSm kSm
  have bSm := FSm.binds (ps := ["one", "other"]) fun _ _ _ _ _ _ us hl => match us, hl with | [_, _], _ => rfl
  have FBh := fun_mk (st := sBehind) lBh cBh kBh
  have bBh := FBh.binds (ps := ["one", "other"]) fun _ _ _ _ _ _ us hl => match us, hl with | [_, _], _ => rfl
  have FIo := fun_mk (st := sInOrder) lIo cIo kIo
  have bIo := FIo.binds (ps := ["ways", "found"]) fun _ _ _ _ _ _ us hl => match us, hl with | [_, _], _ => rfl
  have FSo := fun_mk (st := sSorted) lSo cSo kSo
  have bSo := FSo.binds (ps := ["directions"]) fun _ _ _ _ _ _ us hl => match us, hl with | [_], _ => rfl
  have FAd := fun_mk (st := sAdd) lAd cAd kAd
  have bAd := FAd.binds (ps := ["self", "other"]) fun _ _ _ _ _ _ us hl => match us, hl with | [_, _], _ => rfl
  have FPm := fun_mk (st := sPairM) lPm cPm kPm
  have bPm := FPm.binds (ps := ["self"]) fun _ _ _ _ _ _ us hl => match us, hl with | [_], _ => rfl
  have FZ := fun_mk (st := sLaw) lZ cZ kZ
  have T : Txt K mg C := ⟨⟨pg, hd, po, sa⟩, nX, nY, PySem.W.mg_of X G aC, PySem.W.mg_none_of X G z_isinstance, PySem.W.mg_none_of X G z_len, PySem.W.mg_none_of X G z_int, PySem.W.mg_none_of X G z_bool, PySem.W.mg_none_of X G z_tuple, ha, hn, htk, hm, kTC, kCC⟩
  have TLm : TxtL mg := ⟨PySem.W.mg_none_of X G z_int, PySem.W.mg_none_of X G z_range, PySem.W.mg_none_of X G z_max, PySem.W.mg_none_of X G z_min, PySem.W.mg_none_of X G z_len⟩
  have Df : Defs K mg C fW fI fP fA fO _ _ _ _ _ := ⟨T, FW, bW, PySem.W.mg_of X G aW, ⟨mk, aI, iI, kc⟩, FI, bI, FP, bP, PySem.W.mg_of X G aP, FA, bA, PySem.W.mg_of X G aA, FO, bO, PySem.W.mg_of X G aO⟩
  have pr : ∀ {t : Addr} {i j : Int} {od : Option Addr} {ti tj : Tok} {n : Nat} {sl : Array (Option Value)}, K.lookup t = some ⟨.type "tuple", od, .seq #[.int i ti, .int j tj] n, sl⟩ → ∀ H : Hp, Dp K H (.ref t) (.tuple [.int i, .int j]) := fun {t i j od ti tj n sl} lt H => .tup (xs := [V.int i, V.int j]) (.inr ⟨_, _, _, lt, rfl, rfl, by show 2 ≤ sizeLine; decide, .cons ⟨_, rfl⟩ (.cons ⟨_, rfl⟩ .nil)⟩) (.cons (.int _) (.cons (.int _) .nil))
  have S : SignsAt K mg aS := ⟨PySem.W.mg_of X G aSi, ⟨_, lSi, rfl, rfl⟩, fun H => .tup (xs := [V.ref t0, V.ref t1, V.ref t2, V.ref t3, V.ref t4, V.ref t5, V.ref t6, V.ref t7]) (.inr ⟨_, _, _, lSi, rfl, rfl, by show 8 ≤ sizeLine; decide, .cons rfl (.cons rfl (.cons rfl (.cons rfl (.cons rfl (.cons rfl (.cons rfl (.cons rfl (.nil))))))))⟩) (.cons (pr lt0 H) (.cons (pr lt1 H) (.cons (pr lt2 H) (.cons (pr lt3 H) (.cons (pr lt4 H) (.cons (pr lt5 H) (.cons (pr lt6 H) (.cons (pr lt7 H) .nil))))))))⟩
  have dd : DDefs K mg C aS fSg fG fDr fK fL fX fB fPl _ _ _ _ _ _ _ _ := ⟨S, PySem.W.mg_none_of X G z_abs, FSg, bSg, PySem.W.mg_of X G aSg, FG, bG, PySem.W.mg_of X G aG, FDr, bDr, PySem.W.mg_of X G aDr, FK, bK, PySem.W.mg_of X G aK, FL, bL, PySem.W.mg_of X G aL, FX, bX, ⟨aX, iX, kX⟩, FB, bB, PySem.W.mg_of X G aB, FPl, bPl, PySem.W.mg_of X G aPl⟩
  have xtIp : FoX_thing.XTxt l.prog K mg CIp gIp := ⟨⟨_, _, _, _, _, _, _, _, _, _, _, _, _, _, _, lCIp, rvIp⟩, saIp, gaIp, ggIp, noIp, inIp, tyIp, kpIp, exIp, tcIp, hdIp, suIp, tpI, PySem.W.mg_none_of X G z_super, veIp, mrIp, tsI, ⟨quIp, msIp, _, _, _, _, _, _, ccIp, cdaIp, _, _, p1Ip, p2Ip, r1Ip, r2Ip, r3Ip, r4Ip, r5Ip, r6Ip, q1Ip, q2Ip, q3Ip, q4Ip, jIp, _, _, _, _, vsIp, _, _, fiIp, tfIp, lgIp, cgIp, lcIp, vfIp, flIp, lnIp, leIp⟩⟩
  have xtNd : FoX_thing.XTxt l.prog K mg CNd gNd := ⟨⟨_, _, _, _, _, _, _, _, _, _, _, _, _, _, _, lCNd, rvNd⟩, saNd, gaNd, ggNd, noNd, inNd, tyNd, kpNd, exNd, tcNd, hdNd, suNd, tpI, PySem.W.mg_none_of X G z_super, veNd, mrNd, tsI, ⟨quNd, msNd, _, _, _, _, _, _, ccNd, cdaNd, _, _, p1Nd, p2Nd, r1Nd, r2Nd, r3Nd, r4Nd, r5Nd, r6Nd, q1Nd, q2Nd, q3Nd, q4Nd, jNd, _, _, _, _, vsNd, _, _, fiNd, tfNd, lgNd, cgNd, lcNd, vfNd, flNd, lnNd, leNd⟩⟩
  have Rt : RTx2 l.prog K mg C CIp gIp CNd gNd CF := ⟨⟨kNC, kBC, kIC, kSC, kLC, xtIp, PySem.W.mg_of X G aCIp⟩, ⟨xtNd, PySem.W.mg_of X G aCNd⟩, PySem.W.mg_of X G aCF, emIp, emNd, ⟨gaIp, ggIp, exIp, hdIp, caIp, hn, htk, moIp⟩, ⟨gaNd, ggNd, exNd, hdNd, caNd, hn, htk, moNd⟩, ksIp, kIN, ksNd, PySem.W.mg_none_of X G z_repr⟩
  have Od : ODefs K mg C fPm fSm fBh _ _ _ := ⟨TLm, FPm, bPm, ⟨aPm, iPm, kPm⟩, FSm, bSm, PySem.W.mg_of X G aSm, FBh, bBh, PySem.W.mg_of X G aBh⟩
  have Lf : LDefs l.prog K mg C CIp gIp CNd gNd CF fH fD fDn fLk fEr fAk fIo fSo fAd fPm fSm fBh _ _ _ _ _ _ _ _ _ _ _ _ := ⟨Od, Rt, PySem.W.mg_none_of X G z_list, FH, bH, PySem.W.mg_of X G aH, FD, bD, PySem.W.mg_of X G aD, FDn, bDn, PySem.W.mg_of X G aDn, FLk, bLk, PySem.W.mg_of X G aLk, FEr, bEr, PySem.W.mg_of X G aEr, FAk, bAk, PySem.W.mg_of X G aAk, FIo, bIo, PySem.W.mg_of X G aIo, FSo, bSo, PySem.W.mg_of X G aSo, FAd, bAd, ⟨sf, aAd, iAd⟩⟩
  exact ⟨PySem.W.fnOf "law" "law" (defArgs sLaw) (defBody sLaw) (defScope sLaw) .none kVZ dcZ pmZ anZ cdZ ctZ, fun s v => .of_eq rfl, fun base _ _ => ok_law FZ Df dd Lf⟩
theorem walk {l : PySem.W.OpenLaw} {q : Program} {loose : List Str} {XP : (Str → Option Value) → Heap → Prop} {YP : World → Heap → Prop} {d : DefRec} {K : Params → PySem.W.Frag} (hn : l.most = some 63) (hdf : d.params.defaults = [])
    (hY : ∀ (w : World) (h : Heap), YP w h → (K w.params).In h)
    (F : ∀ (w : World) (mg : Str → Option Value) (fa : Addr) (h : Heap), (K w.params).In h → h.Ns mainGlobals mg → mg d.name = some (.ref fa) →
      ∃ fd : FuncData, (∀ (s : Shared) (u : Value), BindsTo s fd ⟨[u], []⟩ [("script", u)]) ∧ ∀ base : Heap, (K w.params).In base → base.Ns mainGlobals mg → FnG l.prog w (K w.params) mg base CX0 11 fa fd ["script"] (spLaw (K w.params))) :
    PySem.W.WalkO q loose XP YP l.row.toRowW d [] (fun f vs => PySem.call f vs) :=
  L2.walk_ofG (n := 63) (k := 11) (x := "script") (sp := fun w => spLaw (K w.params)) hn (by decide) hdf ⟨rfl, by decide, by decide⟩ hY F (fun _ _ a ns hl hS => ⟨a, ns, rfl, hS, hl, fun _ => rfl⟩)
end Fo

open PySem PySem.W PyProof.Rows in
set_option maxRecDepth 100000 in
set_option maxHeartbeats 0 in
theorem PySem.Challenge.cw_filledonce_k02_directions_holds : PySem.Challenge.rw_filledonce_k02_directions.Holds := by
  w_on; o_law; k_head; (case hw => w_witness2)
  k_fill
  refine Fo.walk (l := PySem.Challenge.rw_filledonce_k02_directions) rfl rfl (fun w h Y => PySem.W.kIn_of Y) ?F
  case F =>
    intro w mg fa h KX G hmg
    refine' Fo.all_mk KX G hmg ?aC ?aW ?lW ?cW ?kW ?aI ?iI ?lI ?cI ?kI ?aP ?lP ?cP ?kP ?aA ?lA ?cA ?kA ?aO ?lO ?cO ?kO ?aSg ?lSg ?cSg ?kSg ?aG ?lG ?cG ?kG ?aDr ?lDr ?cDr ?kDr ?aK ?lK ?cK ?kK ?aL ?lL ?cL ?kL ?aX ?iX ?lX ?cX ?kX ?aB ?lB ?cB ?kB ?aPl ?lPl ?cPl ?kPl ?aH ?lH ?cH ?kH ?aD ?lD ?cD ?kD ?aLk ?lLk ?cLk ?kLk ?aDn ?lDn ?cDn ?kDn ?aEr ?lEr ?cEr ?kEr ?aAk ?lAk ?cAk ?kAk ?aSm ?lSm ?cSm ?kSm ?aBh ?lBh ?cBh ?kBh ?aIo ?lIo ?cIo ?kIo ?aSo ?lSo ?cSo ?kSo ?aAd ?iAd ?lAd ?cAd ?kAd ?aPm ?iPm ?lPm ?cPm ?kPm ?aZ ?lZ ?cZ ?kZ ?pg ?hd ?po ?sa ?mk ?kc ?nX ?nY ?ha ?hn ?htk ?hm ?kTC ?kCC ?sf ?kNC ?kBC ?kIC ?kSC ?kLC ?z_isinstance ?z_len ?z_int ?z_bool ?z_tuple ?z_range ?z_max ?z_min ?z_abs ?z_list ?z_repr ?z_super ?aSi ?lSi ?lt0 ?lt1 ?lt2 ?lt3 ?lt4 ?lt5 ?lt6 ?lt7 ?aCF ?tpI ?tsI ?aCIp ?lCIp ?rvIp ?saIp ?gaIp ?ggIp ?noIp ?inIp ?tyIp ?kpIp ?exIp ?tcIp ?hdIp ?suIp ?veIp ?mrIp ?lgIp ?cgIp ?lcIp ?vfIp ?flIp ?lnIp ?leIp ?caIp ?moIp ?emIp ?ksIp ?aCNd ?lCNd ?rvNd ?saNd ?gaNd ?ggNd ?noNd ?inNd ?tyNd ?kpNd ?exNd ?tcNd ?hdNd ?suNd ?veNd ?mrNd ?lgNd ?cgNd ?lcNd ?vfNd ?flNd ?lnNd ?leNd ?caNd ?moNd ?emNd ?ksNd ?kIN
    (case aC => first | k_is | rfl | decide +kernel)
    (case aW => first | k_is | rfl | decide +kernel)
    (case lW => first | k_is | rfl | decide +kernel)
    (case cW => first | k_is | rfl | decide +kernel)
    (case kW => first | k_is | rfl | decide +kernel)
    (case aI => first | k_is | rfl | decide +kernel)
    (case iI => first | k_is | rfl | decide +kernel)
    (case lI => first | k_is | rfl | decide +kernel)
    (case cI => first | k_is | rfl | decide +kernel)
    (case kI => first | k_is | rfl | decide +kernel)
    (case aP => first | k_is | rfl | decide +kernel)
    (case lP => first | k_is | rfl | decide +kernel)
    (case cP => first | k_is | rfl | decide +kernel)
    (case kP => first | k_is | rfl | decide +kernel)
    (case aA => first | k_is | rfl | decide +kernel)
    (case lA => first | k_is | rfl | decide +kernel)
    (case cA => first | k_is | rfl | decide +kernel)
    (case kA => first | k_is | rfl | decide +kernel)
    (case aO => first | k_is | rfl | decide +kernel)
    (case lO => first | k_is | rfl | decide +kernel)
    (case cO => first | k_is | rfl | decide +kernel)
    (case kO => first | k_is | rfl | decide +kernel)
    (case aSg => first | k_is | rfl | decide +kernel)
    (case lSg => first | k_is | rfl | decide +kernel)
    (case cSg => first | k_is | rfl | decide +kernel)
    (case kSg => first | k_is | rfl | decide +kernel)
    (case aG => first | k_is | rfl | decide +kernel)
    (case lG => first | k_is | rfl | decide +kernel)
    (case cG => first | k_is | rfl | decide +kernel)
    (case kG => first | k_is | rfl | decide +kernel)
    (case aDr => first | k_is | rfl | decide +kernel)
    (case lDr => first | k_is | rfl | decide +kernel)
    (case cDr => first | k_is | rfl | decide +kernel)
    (case kDr => first | k_is | rfl | decide +kernel)
    (case aK => first | k_is | rfl | decide +kernel)
    (case lK => first | k_is | rfl | decide +kernel)
    (case cK => first | k_is | rfl | decide +kernel)
    (case kK => first | k_is | rfl | decide +kernel)
    (case aL => first | k_is | rfl | decide +kernel)
    (case lL => first | k_is | rfl | decide +kernel)
    (case cL => first | k_is | rfl | decide +kernel)
    (case kL => first | k_is | rfl | decide +kernel)
    (case aX => first | k_is | rfl | decide +kernel)
    (case iX => first | k_is | rfl | decide +kernel)
    (case lX => first | k_is | rfl | decide +kernel)
    (case cX => first | k_is | rfl | decide +kernel)
    (case kX => first | k_is | rfl | decide +kernel)
    (case aB => first | k_is | rfl | decide +kernel)
    (case lB => first | k_is | rfl | decide +kernel)
    (case cB => first | k_is | rfl | decide +kernel)
    (case kB => first | k_is | rfl | decide +kernel)
    (case aPl => first | k_is | rfl | decide +kernel)
    (case lPl => first | k_is | rfl | decide +kernel)
    (case cPl => first | k_is | rfl | decide +kernel)
    (case kPl => first | k_is | rfl | decide +kernel)
    (case aH => first | k_is | rfl | decide +kernel)
    (case lH => first | k_is | rfl | decide +kernel)
    (case cH => first | k_is | rfl | decide +kernel)
    (case kH => first | k_is | rfl | decide +kernel)
    (case aD => first | k_is | rfl | decide +kernel)
    (case lD => first | k_is | rfl | decide +kernel)
    (case cD => first | k_is | rfl | decide +kernel)
    (case kD => first | k_is | rfl | decide +kernel)
    (case aLk => first | k_is | rfl | decide +kernel)
    (case lLk => first | k_is | rfl | decide +kernel)
    (case cLk => first | k_is | rfl | decide +kernel)
    (case kLk => first | k_is | rfl | decide +kernel)
    (case aDn => first | k_is | rfl | decide +kernel)
    (case lDn => first | k_is | rfl | decide +kernel)
    (case cDn => first | k_is | rfl | decide +kernel)
    (case kDn => first | k_is | rfl | decide +kernel)
    (case aEr => first | k_is | rfl | decide +kernel)
    (case lEr => first | k_is | rfl | decide +kernel)
    (case cEr => first | k_is | rfl | decide +kernel)
    (case kEr => first | k_is | rfl | decide +kernel)
    (case aAk => first | k_is | rfl | decide +kernel)
    (case lAk => first | k_is | rfl | decide +kernel)
    (case cAk => first | k_is | rfl | decide +kernel)
    (case kAk => first | k_is | rfl | decide +kernel)
    (case aSm => first | k_is | rfl | decide +kernel)
    (case lSm => first | k_is | rfl | decide +kernel)
    (case cSm => first | k_is | rfl | decide +kernel)
    (case kSm => first | k_is | rfl | decide +kernel)
    (case aBh => first | k_is | rfl | decide +kernel)
    (case lBh => first | k_is | rfl | decide +kernel)
    (case cBh => first | k_is | rfl | decide +kernel)
    (case kBh => first | k_is | rfl | decide +kernel)
    (case aIo => first | k_is | rfl | decide +kernel)
    (case lIo => first | k_is | rfl | decide +kernel)
    (case cIo => first | k_is | rfl | decide +kernel)
    (case kIo => first | k_is | rfl | decide +kernel)
    (case aSo => first | k_is | rfl | decide +kernel)
    (case lSo => first | k_is | rfl | decide +kernel)
    (case cSo => first | k_is | rfl | decide +kernel)
    (case kSo => first | k_is | rfl | decide +kernel)
    (case aAd => first | k_is | rfl | decide +kernel)
    (case iAd => first | k_is | rfl | decide +kernel)
    (case lAd => first | k_is | rfl | decide +kernel)
    (case cAd => first | k_is | rfl | decide +kernel)
    (case kAd => first | k_is | rfl | decide +kernel)
    (case aPm => first | k_is | rfl | decide +kernel)
    (case iPm => first | k_is | rfl | decide +kernel)
    (case lPm => first | k_is | rfl | decide +kernel)
    (case cPm => first | k_is | rfl | decide +kernel)
    (case kPm => first | k_is | rfl | decide +kernel)
    (case aZ => first | k_is | rfl | decide +kernel)
    (case lZ => first | k_is | rfl | decide +kernel)
    (case cZ => first | k_is | rfl | decide +kernel)
    (case kZ => first | k_is | rfl | decide +kernel)
    (case pg => first | k_is | rfl | decide +kernel)
    (case hd => first | k_is | rfl | decide +kernel)
    (case po => first | k_is | rfl | decide +kernel)
    (case sa => first | k_is | rfl | decide +kernel)
    (case mk => first | k_is | rfl | decide +kernel)
    (case kc => first | k_is | rfl | decide +kernel)
    (case nX => first | k_is | rfl | decide +kernel)
    (case nY => first | k_is | rfl | decide +kernel)
    (case ha => first | k_is | rfl | decide +kernel)
    (case hn => first | k_is | rfl | decide +kernel)
    (case htk => first | k_is | rfl | decide +kernel)
    (case hm => first | k_is | rfl | decide +kernel)
    (case kTC => first | k_is | rfl | decide +kernel)
    (case kCC => first | k_is | rfl | decide +kernel)
    (case sf => first | k_is | rfl | decide +kernel)
    (case kNC => first | k_is | rfl | decide +kernel)
    (case kBC => first | k_is | rfl | decide +kernel)
    (case kIC => first | k_is | rfl | decide +kernel)
    (case kSC => first | k_is | rfl | decide +kernel)
    (case kLC => first | k_is | rfl | decide +kernel)
    (case z_isinstance => first | k_is | rfl | decide +kernel)
    (case z_len => first | k_is | rfl | decide +kernel)
    (case z_int => first | k_is | rfl | decide +kernel)
    (case z_bool => first | k_is | rfl | decide +kernel)
    (case z_tuple => first | k_is | rfl | decide +kernel)
    (case z_range => first | k_is | rfl | decide +kernel)
    (case z_max => first | k_is | rfl | decide +kernel)
    (case z_min => first | k_is | rfl | decide +kernel)
    (case z_abs => first | k_is | rfl | decide +kernel)
    (case z_list => first | k_is | rfl | decide +kernel)
    (case z_repr => first | k_is | rfl | decide +kernel)
    (case z_super => first | k_is | rfl | decide +kernel)
    (case aSi => first | k_is | rfl | decide +kernel)
    (case lSi => first | k_is | rfl | decide +kernel)
    (case lt0 => first | k_is | rfl | decide +kernel)
    (case lt1 => first | k_is | rfl | decide +kernel)
    (case lt2 => first | k_is | rfl | decide +kernel)
    (case lt3 => first | k_is | rfl | decide +kernel)
    (case lt4 => first | k_is | rfl | decide +kernel)
    (case lt5 => first | k_is | rfl | decide +kernel)
    (case lt6 => first | k_is | rfl | decide +kernel)
    (case lt7 => first | k_is | rfl | decide +kernel)
    (case aCF => first | k_is | rfl | decide +kernel)
    (case tpI => first | k_is | rfl | decide +kernel)
    (case tsI => first | k_is | rfl | decide +kernel)
    (case aCIp => first | k_is | rfl | decide +kernel)
    (case lCIp => first | k_is | rfl | decide +kernel)
    (case rvIp => first | k_is | rfl | decide +kernel)
    (case saIp => first | k_is | rfl | decide +kernel)
    (case gaIp => first | k_is | rfl | decide +kernel)
    (case ggIp => first | k_is | rfl | decide +kernel)
    (case noIp => first | k_is | rfl | decide +kernel)
    (case inIp => first | k_is | rfl | decide +kernel)
    (case tyIp => first | k_is | rfl | decide +kernel)
    (case kpIp => first | k_is | rfl | decide +kernel)
    (case exIp => first | k_is | rfl | decide +kernel)
    (case tcIp => first | k_is | rfl | decide +kernel)
    (case hdIp => first | k_is | rfl | decide +kernel)
    (case suIp => first | k_is | rfl | decide +kernel)
    (case veIp => first | k_is | rfl | decide +kernel)
    (case mrIp => first | k_is | rfl | decide +kernel)
    (case lgIp => first | k_is | rfl | decide +kernel)
    (case cgIp => first | k_is | rfl | decide +kernel)
    (case lcIp => first | k_is | rfl | decide +kernel)
    (case vfIp => first | k_is | rfl | decide +kernel)
    (case flIp => first | k_is | rfl | decide +kernel)
    (case lnIp => first | k_is | rfl | decide +kernel)
    (case leIp => first | k_is | rfl | decide +kernel)
    (case caIp => first | k_is | rfl | decide +kernel)
    (case moIp => first | k_is | rfl | decide +kernel)
    (case emIp => first | k_is | rfl | decide +kernel)
    (case ksIp => first | k_is | rfl | decide +kernel)
    (case aCNd => first | k_is | rfl | decide +kernel)
    (case lCNd => first | k_is | rfl | decide +kernel)
    (case rvNd => first | k_is | rfl | decide +kernel)
    (case saNd => first | k_is | rfl | decide +kernel)
    (case gaNd => first | k_is | rfl | decide +kernel)
    (case ggNd => first | k_is | rfl | decide +kernel)
    (case noNd => first | k_is | rfl | decide +kernel)
    (case inNd => first | k_is | rfl | decide +kernel)
    (case tyNd => first | k_is | rfl | decide +kernel)
    (case kpNd => first | k_is | rfl | decide +kernel)
    (case exNd => first | k_is | rfl | decide +kernel)
    (case tcNd => first | k_is | rfl | decide +kernel)
    (case hdNd => first | k_is | rfl | decide +kernel)
    (case suNd => first | k_is | rfl | decide +kernel)
    (case veNd => first | k_is | rfl | decide +kernel)
    (case mrNd => first | k_is | rfl | decide +kernel)
    (case lgNd => first | k_is | rfl | decide +kernel)
    (case cgNd => first | k_is | rfl | decide +kernel)
    (case lcNd => first | k_is | rfl | decide +kernel)
    (case vfNd => first | k_is | rfl | decide +kernel)
    (case flNd => first | k_is | rfl | decide +kernel)
    (case lnNd => first | k_is | rfl | decide +kernel)
    (case leNd => first | k_is | rfl | decide +kernel)
    (case caNd => first | k_is | rfl | decide +kernel)
    (case moNd => first | k_is | rfl | decide +kernel)
    (case emNd => first | k_is | rfl | decide +kernel)
    (case ksNd => first | k_is | rfl | decide +kernel)
    (case kIN => first | k_is | rfl | decide +kernel)
#print axioms PySem.Challenge.cw_filledonce_k02_directions_holds
