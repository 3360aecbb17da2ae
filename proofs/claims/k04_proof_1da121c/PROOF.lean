import PyProof.Rows.All
import Wide.All
import OpenK.AllK
import Wide.FinOn
import HandS.ForMost
import HandS.Wide
import HandS.IsInst
import HandS.Deep
import HandS.Strs
import HandS.NoneIn
import HandS.Evl
import HandS.More
import HandS.Style
import PySem.Challenge.RW_filledonce_k04_whole_directions
set_option Elab.async false
set_option linter.all false
set_option maxRecDepth 100000
set_option maxHeartbeats 2000000
/-! own binary operators over the hand layer -/
namespace FoOps
open PySem PySem.W PyProof.Rows
section
variable {prog : Program} {w : World} {A : Around} {E : Value → Shared → Prop} {s : Shared} {K : Frag} {x C L f : Addr} {h₀ : Heap} {m : Str → Option Value} {ox : Obj} {od : Option Obj}
theorem tup_add : fillsNumberSlot (.type "tuple") "add" = pure false := by
  unfold fillsNumberSlot
  simp only [typeLookup_type, builtinLookup_eq_fast]
  kernel_rfl
theorem tup_sub : fillsNumberSlot (.type "tuple") "sub" = pure false := by
  unfold fillsNumberSlot
  simp only [typeLookup_type, builtinLookup_eq_fast]
  kernel_rfl
theorem binop_KT {op : Operator} {b : Value} {T : String} {Q : Value → Shared → Prop} (X : K.In s.heap) (I : InstAt s.heap x ox C od) (hT : s.TypeIs b T)
    (hfl : fillsNumberSlot (.type T) op.info.2 = pure false) (hc : selfFirst K C = true)
    (hs : findIn K (.ref C) (PySem.dunder op.info.2) = some (some (.ref f))) (hf : isFn K (.ref f) = true)
    (h : wpAny (model prog w) A (call (.ref f) [.ref x, b]) (PySem.W.CmpBack Q) E s) : wpAny (model prog w) A (binaryOp op (.ref x) b) Q E s := by
  obtain ⟨cd, hcd, hm⟩ := any_some hc
  obtain ⟨rest, hm⟩ : ∃ rest, cd.mro = .ref C :: rest := by
    cases q : cd.mro with
    | nil => rw [q] at hm; cases hm
    | cons a r => rw [q] at hm; exact ⟨r, by rw [List.head?_cons] at hm; cases (beq_iff_eq.mp hm); rfl⟩
  unfold binaryOp
  refine wpAny_holding (wpAny_bind ?_)
  unfold binaryOp1
  refine wpAny_bind (I.type.here (wpAny_bind (wpAny_typeOf hT (wpAny_bind ((fills_K X hcd hm hs).here ?_)))))
  have e : (Value.ref C == Value.type T) = false := by simp
  simp only [e, Bool.false_eq_true, if_false]
  refine wpAny_bind (wpAny_of_eq hfl ?_)
  simp only [Bool.and_false, Bool.false_eq_true, if_false, Bool.false_and, if_true]
  refine wpAny_bind (wpAny_pure ?_)
  simp only [Bool.false_eq_true, if_false]
  refine wpAny_bind (m := tryMethod (.ref x) _ b) ?_
  unfold tryMethod
  refine wpAny_bind (special_fn X I hs (beq_iff_eq.mp hf) (wpAny_mono h (fun v s' hv => ?_) fun _ _ e => e))
  cases v <;> first | exact hv.elim | exact wpAny_pure (wpAny_pure (wpAny_pure hv))
end
end FoOps

namespace L2
open PySem PySem.Spec PyProof.Rows
/-- an own class whose operator nm is the def at f -/
structure OwnOp (K : PySem.W.Frag) (C : Addr) (op : Operator) (f : Addr) : Prop where
  sf : PySem.W.selfFirst K C = true
  at_ : PySem.W.findIn K (.ref C) (PySem.dunder op.info.2) = some (some (.ref f))
  fn : PySem.W.isFn K (.ref f) = true
/-- a op b, a an instance of the class at C, b one too or a tracked tuple -/
def rOwnOp (C : Addr) (sp : Sp) (E : XK) : R2 := fun x y H Q => ∃ a dx fs, x = .ref a ∧ H a = some (.ins C dx fs) ∧
  ((∃ b dy gs, y = .ref b ∧ H b = some (.ins C dy gs)) ∨ ∃ b xs, y = .ref b ∧ H b = some (.tup xs)) ∧ sp [x, y] H Q E
section
variable {X : Cx} {CX : CXT} {k : Nat} {f C : Addr} {fd : FuncData} {ps : List Str} {sp : Sp} {E : XK}
theorem not_ni {z : V} {v : Value} (r : RelV z v) : v ≠ .notImplemented := by
  intro e
  subst e
  cases z <;> first | (cases r; done) | (obtain ⟨_, r⟩ := r; cases r)
theorem cmpBack_of {Q : Value → Shared → Prop} {v : Value} {s : Shared} (hn : v ≠ .notImplemented) (h : Q v s) : PySem.W.CmpBack Q v s := by
  cases v <;> first | exact h | exact absurd rfl hn
theorem op_own {op : Operator} (O : OwnOp X.K C op f) (hfl : fillsNumberSlot (.type "tuple") op.info.2 = pure false) (F : FnOk X.prog X.w X.K X.mg X.base CX k f fd ps sp) (hr : Room k X.A) (hb : Binds X.K fd ps []) (hx : Passes CX X E) :
    OpR X (binaryOp op) (rOwnOp C sp E) := by
  intro pins s σ H x y v u Q I rx ry h
  obtain ⟨a, dx, fs, rfl, ha, hy, q⟩ := h
  obtain rfl : v = Value.ref a := rx
  obtain ⟨mA, J, _⟩ := ins_get I.hok ha
  obtain ⟨od, J, _⟩ := J.look
  obtain ⟨m, hF⟩ := I.fr
  have run : wpAny (model X.prog X.w) X.A (call (.ref f) [.ref a, u]) (PySem.W.CmpBack (EP X pins σ Q)) X.xe s := by
    refine wpAny_mono (run_fn (us := [.ref a, u]) (vs := [.ref a, y]) F hr hb .nil hx I (.cons rfl (.cons ry .nil)) q) (fun r s' z => ?_) fun _ _ z => z
    obtain ⟨z1, H1, I1, rz, qz⟩ := z
    exact cmpBack_of (not_ni rz) ⟨z1, H1, I1, rz, qz⟩
  rcases hy with ⟨b, dy, gs, rfl, hb'⟩ | ⟨b, xs, rfl, hb'⟩
  · obtain rfl : u = Value.ref b := ry
    obtain ⟨mB, J', _⟩ := ins_get I.hok hb'
    obtain ⟨od', J', _⟩ := J'.look
    exact PySem.W.binop_K hF I.ok.mod.kin J J'.type O.sf O.at_ O.fn run
  · obtain rfl : u = Value.ref b := ry
    obtain ⟨_, _, _, o, h1, h2, _⟩ := (show ObjOk X.prog X.w H s.heap b (.tup xs) from I.hok b _ hb')
    exact FoOps.binop_KT I.kIn J ⟨o, h1, h2⟩ hfl O.sf O.at_ O.fn run
end
end L2
set_option Elab.async false
set_option linter.all false
set_option maxRecDepth 100000
set_option maxHeartbeats 2000000
/-! != by an own __eq__, t.index of data -/
namespace FoOps
open PySem PySem.W PyProof.Rows
theorem slot_ne : Slot "object" "__ne__" "object.__ne__" :=
  .of (owner := "object") (n := "__ne__") (by rw [typeLookup_type, builtinLookup_eq_fast]; kernel_rfl) (by decide +kernel) (by decide +kernel) (by decide +kernel)
    (by first | exact .inl (by decide +kernel) | exact .inr (by decide +kernel)) (by rw [isSubtype_type]; kernel_rfl)
section
variable {prog : Program} {w : World} {A : Around} {E : Value → Shared → Prop} {s : Shared} {K : Frag} {x C f : Addr} {ox : Obj} {od : Option Obj} {b : Value}
theorem ne_entry {Q : Fin → Shared → Prop} (X : K.In s.heap) (I : InstAt s.heap x ox C od) (hu : A.units < cLine) (hs : findIn K (.ref C) "__eq__" = some (some (.ref f))) (hf : isFn K (.ref f) = true)
    (h : wpAny (model prog w) A (call (.ref f) [.ref x, b]) (fun v s' => ∃ k, v = .bool k ∧ Q (.done (.ret (.bool (!k)))) s') E s) :
    wpAny (model prog w) A (Builtin.«object.__ne__» ⟨[.ref x, b], []⟩) Q E s := by
  unfold Builtin.«object.__ne__»
  repeat (first
    | with_reducible refine wpAny_cRoomFor hu ?_
    | (refine wpAny_bind (m := callSpecialIfBound? (.ref x) (Str.ofString "__eq__") [b])
        (PySem.W.ifBound_K X I hs hf (wpAny_mono h (fun r s' hr => by
          obtain ⟨k, rfl, hq⟩ := hr
          repeat (first | exact hq | exact wpAny_pure hq | exact wpAny_truthy_bool hq | (refine wpAny_bind (m := truthy (.bool _)) (wpAny_truthy_bool ?_)) | wp_step)) fun _ _ e => e)))
    | wp_step)
theorem ne_own {Q : Value → Shared → Prop} (X : K.In s.heap) (I : InstAt s.heap x ox C od) (hb : Looks (model prog w) s.heap (typeOf b) (.ref C)) (hu : A.units + 1 < cLine)
    (hne : findIn K (.ref C) "__ne__" = some (some (.builtin "object.__ne__"))) (hs : findIn K (.ref C) "__eq__" = some (some (.ref f))) (hf : isFn K (.ref f) = true) (hm : mroIn K C (.type "object") = some true)
    (h : wpAny (model prog w) A.in1 (call (.ref f) [.ref x, b]) (fun v s' => ∃ k, v = .bool k ∧ Q (.bool (!k)) s') E s) : wpAny (model prog w) A (richCompare .NotEq (.ref x) b) Q E s := by
  have sub : Looks (model prog w) s.heap (isInstance (.ref x) (.type "object")) true := I.type.andThen (looks_mroIn X hm)
  have one : wpAny (model prog w) A (tryCompare (.ref x) "__ne__" b) (fun r s' => ∃ v, r = some v ∧ Q v s') E s := by
    unfold tryCompare
    refine wpAny_bind ?_
    simp only [callSpecialIfBound?, bindSpecialIfBound?]
    refine wpAny_holding (wpAny_bind (wpAny_bind (wpAny_bind (I.type.here ((looks_findIn X hne).here ?_)))))
    refine wpAny_bind (wpAny_askSetting (wpAny_ite ?_))
    have fin : wpAny (model prog w) A (call (.builtin "object.__ne__") [.ref x, b]) (fun v s' => ∃ k, v = .bool k ∧ Q (.bool k) s') E s := by
      refine wpAny_call (codeAny_call_builtin slot_ne.plain F.cmpEntry_ne (check_slot F.cmpKind_ne F.cmpSplit_ne sub (F.cmpArgs_ne _ _) ?_))
      refine ne_entry (A := A.in1) X I hu hs hf (wpAny_mono h (fun v s' hv => ?_) fun _ _ z => z)
      obtain ⟨k, rfl, q⟩ := hv
      exact ⟨k, rfl, !k, rfl, q⟩
    have fin2 : wpAny (model prog w) A (call (.builtin "object.__ne__") ([.ref x] ++ [b]) >>= fun v => pure (some v)) (fun a s₁ => wpAny (model prog w) A (match a with | some .notImplemented | none => pure none | some v => pure (some v)) (fun r s' => ∃ v, r = some v ∧ Q v s') E s₁) E s := by
      refine wpAny_bind (wpAny_mono fin (fun v s' hv => ?_) fun _ _ z => z)
      obtain ⟨k, rfl, q⟩ := hv
      exact wpAny_pure (wpAny_pure ⟨_, rfl, q⟩)
    have hbind : bindSpecial (.builtin "object.__ne__") (.ref x) = pure (.builtin "object.__ne__", [.ref x]) := slot_ne.bind _
    split
    · exact wpAny_bind (wpAny_of_eq hbind (wpAny_pure (by exact fin2)))
    · exact wpAny_tryCatch (wpAny_bind (wpAny_of_eq hbind (wpAny_pure (by exact fin2))))
  unfold richCompare
  simp only [oneThing_ref]
  refine wpAny_holding (wpAny_bind (wpAny_cRoomFor (by omega) ?_))
  refine wpAny_bind (I.type.here (wpAny_bind (hb.here ?_)))
  simp only [bne_self_eq_false, Bool.false_eq_true, if_false]
  refine wpAny_bind (wpAny_pure ?_)
  simp only [Bool.false_eq_true, if_false]
  refine wpAny_bind (wpAny_mono one (fun r s' z => ?_) fun _ _ e => e)
  obtain ⟨v, rfl, hq⟩ := z
  exact wpAny_pure hq
end
end FoOps
namespace L2
open PySem PySem.Spec PyProof.Rows
/-- an own class with an own __eq__ at f, and no __ne__ -/
structure OwnEqC (K : PySem.W.Frag) (C f : Addr) : Prop where
  eq : PySem.W.findIn K (.ref C) "__eq__" = some (some (.ref f))
  fn : PySem.W.isFn K (.ref f) = true
  ne : PySem.W.findIn K (.ref C) "__ne__" = some (some (.builtin "object.__ne__"))
  mo : PySem.W.mroIn K C (.type "object") = some true
  nt : PySem.W.notFirst K C (.type "tuple") = true
def rOwnEq (C : Addr) (sp : Sp) (E : XK) : R2 := fun x y H Q => ∃ a dx fs, x = .ref a ∧ H a = some (.ins C dx fs) ∧
  ((∃ b dy gs, y = .ref b ∧ H b = some (.ins C dy gs)) ∨ ∃ b xs, y = .ref b ∧ H b = some (.tup xs)) ∧ sp [x, y] H Q E
def rOwnNe (C : Addr) (sp : Sp) (E : XK) : R2 := fun x y H Q => ∃ a dx fs b dy gs, x = .ref a ∧ H a = some (.ins C dx fs) ∧ y = .ref b ∧ H b = some (.ins C dy gs) ∧
  sp [x, y] H (fun v H' => ∃ k, v = .bl k ∧ Q (.bl (!k)) H') E
section
variable {X : Cx} {CX : CXT} {k : Nat} {f C : Addr} {fd : FuncData} {ps : List Str} {sp : Sp} {E : XK}
theorem op_ownEq (O : OwnEqC X.K C f) (F : FnOk X.prog X.w X.K X.mg X.base CX k f fd ps sp) (hr : Room k X.A) (hb : Binds X.K fd ps []) (hx : Passes CX X E) :
    OpR X (compareOp .Eq) (rOwnEq C sp E) := by
  intro pins s σ H x y v u Q I rx ry h
  obtain ⟨a, dx, fs, rfl, ha, hy, q⟩ := h
  obtain rfl : v = Value.ref a := rx
  obtain ⟨mA, J, _⟩ := ins_get I.hok ha
  obtain ⟨od, J, _⟩ := J.look
  obtain ⟨m, hF⟩ := I.fr
  have run : wpAny (model X.prog X.w) X.A (call (.ref f) [.ref a, u]) (PySem.W.CmpBack (EP X pins σ Q)) X.xe s := by
    refine wpAny_mono (run_fn (us := [.ref a, u]) (vs := [.ref a, y]) F hr hb .nil hx I (.cons rfl (.cons ry .nil)) q) (fun r s' z => ?_) fun _ _ z => z
    obtain ⟨z1, H1, I1, rz, qz⟩ := z
    exact cmpBack_of (not_ni rz) ⟨z1, H1, I1, rz, qz⟩
  show wpAny (model X.prog X.w) X.A (richCompare .Eq (.ref a) u) (EP X pins σ Q) X.xe s
  rcases hy with ⟨b, dy, gs, rfl, hb'⟩ | ⟨b, xs, rfl, hb'⟩
  · obtain rfl : u = Value.ref b := ry
    obtain ⟨mB, J', _⟩ := ins_get I.hok hb'
    obtain ⟨od', J', _⟩ := J'.look
    exact PySem.W.cmp_K (op := .Eq) (tb := .ref C) hr.units0 hF I.ok.mod.kin J J'.type (by simp [PySem.W.notFirst]) O.eq O.fn run
  · obtain rfl : u = Value.ref b := ry
    obtain ⟨_, _, _, o, h1, h2, _⟩ := (show ObjOk X.prog X.w H s.heap b (.tup xs) from I.hok b _ hb')
    have lk : PySem.W.Looks (model X.prog X.w) s.heap (typeOf (.ref b)) (.type "tuple") := fun A Q E s' k q => wpAny_typeOf ⟨o, k _ _ h1, h2⟩ q
    exact PySem.W.cmp_K (op := .Eq) (tb := .type "tuple") hr.units0 hF I.ok.mod.kin J lk O.nt O.eq O.fn run
theorem op_ownNe (O : OwnEqC X.K C f) (F : FnOk X.prog X.w X.K X.mg X.base CX k f fd ps sp) (hr : Room (k + 1) X.A) (hb : Binds X.K fd ps []) (hx : Passes CX X E) :
    OpR X (compareOp .NotEq) (rOwnNe C sp E) := by
  intro pins s σ H x y v u Q I rx ry h
  obtain ⟨a, dx, fs, b, dy, gs, rfl, ha, rfl, hb', q⟩ := h
  obtain rfl : v = Value.ref a := rx
  obtain rfl : u = Value.ref b := ry
  obtain ⟨mA, J, _⟩ := ins_get I.hok ha
  obtain ⟨od, J, _⟩ := J.look
  obtain ⟨mB, J', _⟩ := ins_get I.hok hb'
  obtain ⟨od', J', _⟩ := J'.look
  show wpAny (model X.prog X.w) X.A (richCompare .NotEq (.ref a) (.ref b)) (EP X pins σ Q) X.xe s
  refine FoOps.ne_own I.kIn J J'.type (hu_of hr) O.ne O.eq O.fn O.mo ?_
  have hl := F.len _ _ _ _ q
  have r2 : Vals [V.ref a, V.ref b] [Value.ref a, Value.ref b] := .cons rfl (.cons rfl .nil)
  refine wpAny_call (codeAny_mono (F.run X.A.in1 X.stack s H ⟨[.ref a, .ref b], []⟩ [.ref a, .ref b] [.ref a, .ref b] _ E hr.in1 I.env0.in1 (by
    have := hb s [.ref a, .ref b] I.kIn (by simpa using hl)
    simpa using this) r2 q) fun r s' hq => ?_)
  cases r with
  | error e => exact hx pins σ H s e s' I hq
  | ok fl =>
    cases fl with
    | ret w =>
      obtain ⟨z, H', I', rz, kk, ez, ex⟩ := I.after hq
      subst ez
      cases rz
      exact ⟨kk, rfl, .bl (!kk), H', I', rfl, ex⟩
    | next => exact False.elim hq
    | brk => exact False.elim hq
    | cont => exact False.elim hq
/-- two lists of the very same objects -/
def rNeRefs : R2 := fun x y H Q => ∃ (a b : Addr) (rs : List Addr), x = .ref a ∧ y = .ref b ∧ H a = some (.lst (rs.map V.ref)) ∧ H b = some (.lst (rs.map V.ref)) ∧ Q (.bl false) H
theorem vals_refs : ∀ {rs : List Addr} {us : List Value}, Vals (rs.map V.ref) us → us = rs.map Value.ref
  | [], _, h => by
    cases h
    rfl
  | r :: rs, _, h => by
    cases h with
    | cons h1 h2 =>
      have e1 := vals_refs h2
      cases h1
      rw [e1]
      rfl
theorem op_neRefs (hu : X.A.units < cLine) : OpR X (compareOp .NotEq) rNeRefs := by
  intro pins s σ H x y v u Q I rx ry h
  obtain ⟨a, b, rs, rfl, rfl, ha, hb, q⟩ := h
  obtain rfl : v = Value.ref a := rx
  obtain rfl : u = Value.ref b := ry
  obtain ⟨_, its, n1, r1, e1⟩ := (show ObjOk X.prog X.w H s.heap a (.lst (rs.map V.ref)) from I.hok a _ ha)
  obtain ⟨_, its2, n2, r2, e2⟩ := (show ObjOk X.prog X.w H s.heap b (.lst (rs.map V.ref)) from I.hok b _ hb)
  have q1 := vals_refs r1
  have q2 := vals_refs r2
  subst q1
  subst q2
  have hl1 : s.heap.IsList a (rs.map Value.ref).toArray := ⟨_, e1, rfl, _, rfl⟩
  have hl2 : s.heap.IsList b (rs.map Value.ref).toArray := ⟨_, e2, rfl, _, rfl⟩
  have k := PySem.SeqAt.RcNeAt.lists (A := X.A) (s := s) (e := fun _ => true) hl1 hl2 rfl hu (fun j h1 h2 => PySem.SeqAt.EqAt.same _)
  have e : (!(List.range (rs.map Value.ref).toArray.size).all fun _ => true) = false := by simp
  rw [e] at k
  exact k X.prog X.w X.xe _ ⟨.bl false, H, I, rfl, q⟩
/-- t.index(x) of data: the first place of an equal one -/
def rTIndexD (K : PySem.W.Frag) : V → List V → Hp → VK → Prop := fun x xs H Q => ∃ (a : Addr) (y : V) (d : PyData) (ds : List PyData) (j : Nat) (z : PyData), x = V.ref a ∧ xs = [y] ∧ Dp K H (V.ref a) (.tuple ds) ∧ Dp K H y d ∧
  SeqAt.shaped (.tuple ds) = true ∧ SeqAt.shaped d = true ∧ ds[j]? = some z ∧ PyData.eqv z d = true ∧ (∀ (m : Nat) (z' : PyData), m < j → ds[m]? = some z' → PyData.eqv z' d = false) ∧ Q (.int (j : Nat)) H
theorem mt_tindexD (hu : X.A.units + 65 < cLine) : MtR X "tuple.index" (rTIndexD X.K) := by
  intro pins s σ H x xs v us Q I rx rxs h
  obtain ⟨a, y, d, ds, j, z, rfl, rfl, hl, hy, sl, sd, hz, hzj, hno, q⟩ := h
  cases rx
  cases rxs with
  | cons ry rt =>
    rename_i uy ut
    cases rt
    obtain ⟨bs, r1⟩ := Dp.reads I d y uy hy ry
    have hxs : PyData.canLayAll0 ds = true := SeqAt.canLay_of_shaped sl
    have hroom : X.A.units + 1 + min (PyData.depthAll ds) d.depth < cLine := room_in_shaped sd hu
    cases hl with
    | tup hs ha =>
      obtain ⟨its, rv, pl, hlen⟩ := I.tuple hs
      obtain ⟨⟨cls, dd, dt, sls⟩, ho, hc, n, hd⟩ := pl
      simp only at hc hd
      subst hc
      subst hd
      obtain ⟨as, h4⟩ := Dp.readsAll I ds _ its ha rv
      have hn : its.length = ds.length := SeqAt.ReadsAll.length ds its as h4
      have hmap : its.map (SeqAt.readOf s.heap) = ds := SeqAt.readsAll_map ds its as hxs h4
      obtain ⟨hjd, _⟩ := List.getElem?_eq_some_iff.mp hz
      have hjl : j < its.length := by omega
      have hj : j < its.toArray.size := by simpa using hjl
      have at_ : ∀ (m : Nat) (hm : m < its.toArray.size) (z' : PyData), ds[m]? = some z' → SeqAt.readOf s.heap its.toArray[m] = z' := by
        intro m hm z' hz'
        have hml : m < its.length := by simpa using hm
        rw [← hmap, List.getElem?_map, List.getElem?_eq_getElem hml] at hz'
        have e1 : SeqAt.readOf s.heap its[m] = z' := Option.some.inj (show some (SeqAt.readOf s.heap its[m]) = some z' from hz')
        simpa using e1
      refine call_meets PySem.F.slot_tuple_index ⟨_, ho, rfl⟩ PySem.F.entry_tuple_index (PySem.F.args_tuple_index_2 _ _)
        (TI.tuple_indexAt a its.toArray n dd sls uy (fun u => PyData.eqv (SeqAt.readOf s.heap u) d) j hj ?_ ?_) ⟨ho, SeqAt.items_eqAt (vs := its.toArray) (show ReadsAll s.heap its.toArray.toList ds as from h4) r1 hxs (SeqAt.canLay_of_shaped sd) hroom, ?_⟩
      · show PyData.eqv (SeqAt.readOf s.heap its.toArray[j]) d = true
        rw [at_ j hj z hz]
        exact hzj
      · intro m hm hmj
        have hmd : m < ds.length := by omega
        have hz' : ds[m]? = some ds[m] := List.getElem?_eq_getElem hmd
        show PyData.eqv (SeqAt.readOf s.heap its.toArray[m]) d = false
        rw [at_ m hm _ hz']
        exact hno m _ hmj hz'
      · exact ⟨.int (j : Nat), H, I.tok _, ⟨_, rfl⟩, q⟩
end
end L2
set_option Elab.async false
set_option linter.all false
set_option maxRecDepth 100000
set_option maxHeartbeats 2000000
/-! a * n by an own __mul__, n an int -/
namespace FoOps
open PySem PySem.W PyProof.Rows
theorem int_mul : fillsNumberSlot (.type "int") "mul" = pure true := by
  unfold fillsNumberSlot
  simp only [typeLookup_type, builtinLookup_eq_fast]
  kernel_rfl
theorem look_int : typeLookup (.type "int") (dunderR "mul") = pure (some (.builtin "int.__rmul__")) := by
  rw [typeLookup_type, builtinLookup_eq_fast]
  kernel_rfl
section
variable {prog : Program} {w : World} {A : Around} {E : Value → Shared → Prop} {s : Shared} {K : Frag} {x C f g : Addr} {ox : Obj} {od : Option Obj}
theorem inPython_K {M : Model} {h : Heap} {nm : String} (X : K.In h) (hs : findIn K (.ref C) (PySem.dunder nm) = some (some (.ref f))) (hr : findIn K (.ref C) (dunderR nm) = some (some (.ref g))) : Looks M h (numberSlotInPython (.ref C) nm) true := by
  intro A Q E s k q
  unfold numberSlotInPython
  refine wpAny_bind (looks_findIn X hs A _ E s k ?_)
  show wpAny M A (calledByName (.ref C) (PySem.dunder nm) (some (.ref f)) >>= _) Q E s
  refine wpAny_bind (wpAny_pure ?_)
  refine wpAny_bind (looks_findIn X hr A _ E s k ?_)
  show wpAny M A (calledByName (.ref C) (dunderR nm) (some (.ref g)) >>= _) Q E s
  refine wpAny_bind (wpAny_pure ?_)
  rw [if_pos (by rfl)]
  exact wpAny_pure q
theorem mul_KI {i : Int} {t : Tok} {Q : Value → Shared → Prop} (X : K.In s.heap) (I : InstAt s.heap x ox C od) (hc : selfFirst K C = true) (hsub : subIn K (.type "int") (.ref C) = some false)
    (hs : findIn K (.ref C) (PySem.dunder "mul") = some (some (.ref f))) (hf : isFn K (.ref f) = true) (hr : findIn K (.ref C) (dunderR "mul") = some (some (.ref g)))
    (h : wpAny (model prog w) A (call (.ref f) [.ref x, .int i t]) (PySem.W.CmpBack Q) E s) : wpAny (model prog w) A (binaryOp .Mult (.ref x) (.int i t)) Q E s := by
  obtain ⟨cd, hcd, hm⟩ := any_some hc
  obtain ⟨rest, hm⟩ : ∃ rest, cd.mro = .ref C :: rest := by
    cases q : cd.mro with
    | nil => rw [q] at hm; cases hm
    | cons a r => rw [q] at hm; exact ⟨r, by rw [List.head?_cons] at hm; cases (beq_iff_eq.mp hm); rfl⟩
  unfold binaryOp
  refine wpAny_holding (wpAny_bind ?_)
  show wpAny _ _ (binaryOp1 "mul" (.ref x) (.int i t)) _ _ _
  unfold binaryOp1
  refine wpAny_bind (I.type.here (wpAny_bind (wpAny_typeOf (T := "int") rfl (wpAny_bind ((fills_K X hcd hm hs).here ?_)))))
  have e : (Value.ref C == Value.type "int") = false := by simp
  simp only [e, Bool.false_eq_true, if_false]
  refine wpAny_bind (wpAny_of_eq int_mul ?_)
  simp only [Bool.and_self, if_true]
  refine wpAny_bind ((looks_subIn X hsub).here ?_)
  simp only [Bool.false_eq_true, if_false, Bool.not_false, Bool.and_true, if_true]
  refine wpAny_bind ((inPython_K X hs hr).here ?_)
  simp only [if_true]
  refine wpAny_bind (wpAny_of_eq (show numberSlotInPython (.type "int") "mul" = pure false from rfl) ?_)
  simp only [Bool.not_false, if_true]
  refine wpAny_bind (wpAny_of_eq look_int ?_)
  dsimp only
  refine wpAny_bind (m := tryMethod (.ref x) _ _) ?_
  unfold tryMethod
  refine wpAny_bind (special_fn X I hs (beq_iff_eq.mp hf) (wpAny_mono h (fun v s' hv => ?_) fun _ _ e => e))
  cases v <;> first | exact hv.elim | exact wpAny_pure (wpAny_pure (wpAny_pure hv))
end
end FoOps
namespace L2
open PySem PySem.Spec PyProof.Rows
structure OwnMul (K : PySem.W.Frag) (C f g : Addr) : Prop where
  sf : PySem.W.selfFirst K C = true
  at_ : PySem.W.findIn K (.ref C) "__mul__" = some (some (.ref f))
  fn : PySem.W.isFn K (.ref f) = true
  rat : PySem.W.findIn K (.ref C) "__rmul__" = some (some (.ref g))
  sb : PySem.W.subIn K (.type "int") (.ref C) = some false
def rOwnMul (C : Addr) (sp : Sp) (E : XK) : R2 := fun x y H Q => ∃ a dx fs i, x = .ref a ∧ H a = some (.ins C dx fs) ∧ y = .int i ∧ sp [x, y] H Q E
section
variable {X : Cx} {CX : CXT} {k : Nat} {f g C : Addr} {fd : FuncData} {ps : List Str} {sp : Sp} {E : XK}
theorem op_ownMul (O : OwnMul X.K C f g) (F : FnOk X.prog X.w X.K X.mg X.base CX k f fd ps sp) (hr : Room k X.A) (hb : Binds X.K fd ps []) (hx : Passes CX X E) :
    OpR X (binaryOp .Mult) (rOwnMul C sp E) := by
  intro pins s σ H x y v u Q I rx ry h
  obtain ⟨a, dx, fs, i, rfl, ha, rfl, q⟩ := h
  obtain rfl : v = Value.ref a := rx
  obtain ⟨mA, J, _⟩ := ins_get I.hok ha
  obtain ⟨od, J, _⟩ := J.look
  have run : wpAny (model X.prog X.w) X.A (call (.ref f) [.ref a, u]) (PySem.W.CmpBack (EP X pins σ Q)) X.xe s := by
    refine wpAny_mono (run_fn (us := [.ref a, u]) (vs := [.ref a, .int i]) F hr hb .nil hx I (.cons rfl (.cons ry .nil)) q) (fun r s' z => ?_) fun _ _ z => z
    obtain ⟨z1, H1, I1, rz, qz⟩ := z
    exact cmpBack_of (not_ni rz) ⟨z1, H1, I1, rz, qz⟩
  obtain ⟨t, rfl⟩ := ry
  exact FoOps.mul_KI I.kIn J O.sf O.sb O.at_ O.fn O.rat run
end
end L2
set_option linter.all false
/-! ### directions: kinds, the order round, the sort by insertion -/
namespace Fo
def kd (a : Int × Int) : Nat := if 0 < a.1 then (if a.2 = 0 then 0 else if 0 < a.2 then 1 else 7) else if a.1 = 0 then (if 0 < a.2 then 2 else 6) else (if 0 < a.2 then 3 else if a.2 = 0 then 4 else 5)
def crs (a b : Int × Int) : Int := a.1 * b.2 - a.2 * b.1
def dot (a b : Int × Int) : Int := a.1 * b.1 + a.2 * b.2
def bef (a b : Int × Int) : Bool := if kd a = kd b then decide (0 < crs a b) else decide (kd a < kd b)
def Dir (a : Int × Int) : Prop := a.1 ≠ 0 ∨ a.2 ≠ 0
def qtr (a : Int × Int) : Int × Int := (-a.2, a.1)
theorem crs_swap (a b : Int × Int) : crs b a = -crs a b := by
  unfold crs
  grind
theorem bef_asym {a b : Int × Int} (h : bef a b = true) : bef b a = false := by
  unfold bef at *
  by_cases e : kd a = kd b
  · rw [if_pos e] at h
    rw [if_pos e.symm]
    have h := of_decide_eq_true h
    have := crs_swap a b
    exact decide_eq_false (by omega)
  · rw [if_neg e] at h
    rw [if_neg (fun z => e z.symm)]
    have h := of_decide_eq_true h
    exact decide_eq_false (by omega)
theorem bef_irrefl (a : Int × Int) : bef a a = false := by
  unfold bef
  rw [if_pos rfl]
  have := crs_swap a a
  exact decide_eq_false (by omega)
/-- the signs of one kind -/
theorem kd_pos {a b : Int × Int} (h : kd a = kd b) : (0 < a.1 ↔ 0 < b.1) ∧ (0 < a.2 ↔ 0 < b.2) ∨ (¬ Dir a ∨ ¬ Dir b) := by
  unfold kd at h
  unfold Dir
  repeat' (split at h)
  all_goals first | (left; omega) | (right; omega) | omega
theorem kd_sign {a b : Int × Int} (ha : Dir a) (hb : Dir b) (h : kd a = kd b) : (0 < a.1 ↔ 0 < b.1) ∧ (a.1 = 0 ↔ b.1 = 0) ∧ (0 < a.2 ↔ 0 < b.2) ∧ (a.2 = 0 ↔ b.2 = 0) := by
  unfold kd at h
  unfold Dir at *
  repeat' (split at h)
  all_goals omega
theorem crs_trans {a b c : Int × Int} (ha : Dir a) (hb : Dir b) (hc : Dir c) (h1 : kd a = kd b) (h2 : kd b = kd c) (h : 0 < crs a c) : 0 < crs a b ∨ 0 < crs b c := by
  obtain ⟨p1, z1, p2, z2⟩ := kd_sign ha hb h1
  obtain ⟨r1, y1, r2, y2⟩ := kd_sign hb hc h2
  by_cases n1 : 0 < crs a b
  · exact .inl n1
  by_cases n2 : 0 < crs b c
  · exact .inr n2
  exfalso
  have id1 : crs a c * b.1 = crs a b * c.1 + crs b c * a.1 := by
    unfold crs
    grind
  have id2 : crs a c * b.2 = crs a b * c.2 + crs b c * a.2 := by
    unfold crs
    grind
  have np : ∀ u v : Int, ¬ 0 < u → 0 < v → u * v ≤ 0 := fun u v hu hv => Int.mul_nonpos_of_nonpos_of_nonneg (by omega) (by omega)
  have nn : ∀ u v : Int, ¬ 0 < u → v < 0 → 0 ≤ u * v := fun u v hu hv => Int.mul_nonneg_of_nonpos_of_nonpos (by omega) (by omega)
  rcases Int.lt_trichotomy b.1 0 with hb1 | hb1 | hb1
  · have q1 := nn _ c.1 n1 (by omega)
    have q2 := nn _ a.1 n2 (by omega)
    have q3 : crs a c * b.1 < 0 := Int.mul_neg_of_pos_of_neg h hb1
    omega
  · -- on the axis all crosses are 0
    have a0 : a.1 = 0 := z1.mpr hb1
    have c0 : c.1 = 0 := y1.mp hb1
    have : crs a c = 0 := by
      unfold crs
      rw [a0, c0]
      omega
    omega
  · have q1 := np _ c.1 n1 (by omega)
    have q2 := np _ a.1 n2 (by omega)
    have q3 : 0 < crs a c * b.1 := Int.mul_pos h hb1
    omega
theorem bef_nt {a b c : Int × Int} (ha : Dir a) (hb : Dir b) (hc : Dir c) (h : bef a c = true) : bef a b = true ∨ bef b c = true := by
  unfold bef at *
  by_cases e1 : kd a = kd b
  · by_cases e2 : kd b = kd c
    · rw [if_pos (e1.trans e2)] at h
      rw [if_pos e1, if_pos e2]
      rcases crs_trans ha hb hc e1 e2 (of_decide_eq_true h) with r | r
      · exact .inl (decide_eq_true r)
      · exact .inr (decide_eq_true r)
    · rw [if_neg (by omega)] at h
      rw [if_neg e2]
      have h := of_decide_eq_true h
      exact .inr (decide_eq_true (by omega))
  · by_cases e2 : kd b = kd c
    · rw [if_neg (by omega)] at h
      rw [if_neg e1]
      have h := of_decide_eq_true h
      exact .inl (decide_eq_true (by omega))
    · rw [if_neg e1, if_neg e2]
      by_cases e3 : kd a = kd c
      · have : kd a < kd b ∨ kd b < kd c := by omega
        rcases this with r | r
        · exact .inl (decide_eq_true r)
        · exact .inr (decide_eq_true r)
      · rw [if_neg e3] at h
        have h := of_decide_eq_true h
        have : kd a < kd b ∨ kd b < kd c := by omega
        rcases this with r | r
        · exact .inl (decide_eq_true r)
        · exact .inr (decide_eq_true r)
/-- two that are met at once are alike -/
theorem bef_alike {a b : Int × Int} (ha : Dir a) (hb : Dir b) (h1 : bef a b = false) (h2 : bef b a = false) : crs a b = 0 ∧ 0 < dot a b := by
  unfold bef at *
  by_cases e : kd a = kd b
  · rw [if_pos e] at h1
    rw [if_pos e.symm] at h2
    have h1 := of_decide_eq_false h1
    have h2 := of_decide_eq_false h2
    have := crs_swap a b
    refine ⟨by omega, ?_⟩
    obtain ⟨p1, z1, p2, z2⟩ := kd_sign ha hb e
    unfold dot
    have key : ∀ u v : Int, (0 < u ↔ 0 < v) → (u = 0 ↔ v = 0) → 0 ≤ u * v ∧ (u ≠ 0 → 0 < u * v) := by
      intro u v p z
      rcases Int.lt_trichotomy u 0 with hu | hu | hu
      · have hv : v < 0 := by omega
        have := Int.mul_pos_of_neg_of_neg hu hv
        exact ⟨by omega, fun _ => this⟩
      · rw [hu]
        simp
      · have hv : 0 < v := p.mp hu
        have := Int.mul_pos hu hv
        exact ⟨by omega, fun _ => this⟩
    have k1 := key a.1 b.1 p1 z1
    have k2 := key a.2 b.2 p2 z2
    rcases ha with ha | ha
    · have := k1.2 ha
      omega
    · have := k2.2 ha
      omega
  · rw [if_neg e] at h1
    rw [if_neg (fun z => e z.symm)] at h2
    have h1 := of_decide_eq_false h1
    have h2 := of_decide_eq_false h2
    omega
/-! ### the sort -/
section
variable {α : Type} (f : α → Int × Int)
def insB (e : α) (l : List α) : List α := l.takeWhile (fun x => !bef (f e) (f x)) ++ e :: l.dropWhile (fun x => !bef (f e) (f x))
def sortB (l : List α) : List α := l.foldl (fun acc e => insB f e acc) []
def Srt (l : List α) : Prop := l.Pairwise fun a b => bef (f b) (f a) = false
def Dirs (l : List α) : Prop := ∀ a ∈ l, Dir (f a)
variable {f}
theorem insB_perm (e : α) (l : List α) : (insB f e l).Perm (e :: l) := by
  unfold insB
  have h : (l.takeWhile (fun x => !bef (f e) (f x)) ++ l.dropWhile (fun x => !bef (f e) (f x))) = l := List.takeWhile_append_dropWhile
  refine List.perm_middle.trans ?_
  rw [h]
theorem foldl_ins_perm (l : List α) : ∀ acc : List α, (l.foldl (fun acc e => insB f e acc) acc).Perm (acc ++ l) := by
  induction l with
  | nil =>
    intro acc
    rw [List.append_nil]
    exact List.Perm.refl _
  | cons e l ih =>
    intro acc
    refine (ih (insB f e acc)).trans ?_
    have h := (insB_perm (f := f) e acc).append_right l
    refine h.trans ?_
    exact List.perm_middle.symm
theorem sortB_perm (l : List α) : (sortB f l).Perm l := foldl_ins_perm l []
theorem mem_takeWhile_p {p : α → Bool} {l : List α} {x : α} (h : x ∈ l.takeWhile p) : p x = true := by
  induction l with
  | nil => simp at h
  | cons a l ih =>
    rw [List.takeWhile_cons] at h
    by_cases c : p a = true
    · rw [if_pos c] at h
      rcases List.mem_cons.mp h with h | h
      · rw [h]
        exact c
      · exact ih h
    · rw [if_neg c] at h
      simp at h
/-- all from the first that e comes before on -/
theorem drop_bef {e : α} {l : List α} (hs : Srt f l) (hd : Dirs f l) (he : Dir (f e)) : ∀ x ∈ l.dropWhile (fun x => !bef (f e) (f x)), bef (f e) (f x) = true := by
  induction l with
  | nil =>
    intro x hx
    simp at hx
  | cons a l ih =>
    intro x hx
    have hs' := List.pairwise_cons.mp hs
    rw [List.dropWhile_cons] at hx
    by_cases c : (!bef (f e) (f a)) = true
    · rw [if_pos c] at hx
      exact ih hs'.2 (fun b hb => hd b (List.mem_cons_of_mem _ hb)) x hx
    · rw [if_neg c] at hx
      have c' : bef (f e) (f a) = true := by
        cases h : bef (f e) (f a) with
        | true => rfl
        | false => rw [h] at c; exact absurd rfl c
      rcases List.mem_cons.mp hx with hx | hx
      · rw [hx]
        exact c'
      · rcases bef_nt (b := f x) he (hd x (List.mem_cons_of_mem _ hx)) (hd a List.mem_cons_self) c' with r | r
        · exact r
        · rw [hs'.1 x hx] at r
          cases r
theorem insB_srt {e : α} {l : List α} (hs : Srt f l) (hd : Dirs f l) (he : Dir (f e)) : Srt f (insB f e l) := by
  have hdrop := drop_bef hs hd he
  have hl : (l.takeWhile (fun x => !bef (f e) (f x)) ++ l.dropWhile (fun x => !bef (f e) (f x))) = l := List.takeWhile_append_dropWhile
  have hs2 : Srt f (l.takeWhile (fun x => !bef (f e) (f x)) ++ l.dropWhile (fun x => !bef (f e) (f x))) := by
    rw [hl]
    exact hs
  have h3 := List.pairwise_append.mp hs2
  unfold insB Srt
  refine List.pairwise_append.mpr ⟨h3.1, List.pairwise_cons.mpr ⟨fun x hx => bef_asym (hdrop x hx), h3.2.1⟩, fun x hx y hy => ?_⟩
  rcases List.mem_cons.mp hy with hy | hy
  · rw [hy]
    have := mem_takeWhile_p hx
    simpa using this
  · exact h3.2.2 x hx y hy
theorem insB_dirs {e : α} {l : List α} (hd : Dirs f l) (he : Dir (f e)) : Dirs f (insB f e l) := fun a ha => by
  rcases List.mem_cons.mp ((insB_perm e l).mem_iff.mp ha) with h | h
  · rw [h]
    exact he
  · exact hd a h
theorem foldl_srt (l : List α) : ∀ acc : List α, Srt f acc → Dirs f acc → Dirs f l → Srt f (l.foldl (fun acc e => insB f e acc) acc) := by
  induction l with
  | nil =>
    intro acc h _ _
    exact h
  | cons e l ih =>
    intro acc h1 h2 h3
    have he := h3 e List.mem_cons_self
    exact ih _ (insB_srt h1 h2 he) (insB_dirs h2 he) fun a ha => h3 a (List.mem_cons_of_mem _ ha)
theorem sortB_srt {l : List α} (hd : Dirs f l) : Srt f (sortB f l) := foldl_srt l [] List.Pairwise.nil (fun a ha => by simp at ha) hd
theorem sortB_dirs {l : List α} (hd : Dirs f l) : Dirs f (sortB f l) := fun a ha => hd a ((sortB_perm l).mem_iff.mp ha)
theorem sortB_length (l : List α) : (sortB f l).length = l.length := (sortB_perm l).length_eq
theorem takeWhile_all {p : α → Bool} {l : List α} (h : ∀ x ∈ l, p x = true) : l.takeWhile p = l ∧ l.dropWhile p = [] := by
  induction l with
  | nil => exact ⟨rfl, rfl⟩
  | cons a l ih =>
    have h1 := h a List.mem_cons_self
    have h2 := ih fun x hx => h x (List.mem_cons_of_mem _ hx)
    rw [List.takeWhile_cons, if_pos h1, List.dropWhile_cons, if_pos h1, h2.1, h2.2]
    exact ⟨rfl, rfl⟩
theorem insB_end {e : α} {l : List α} (h : ∀ x ∈ l, bef (f e) (f x) = false) : insB f e l = l ++ [e] := by
  unfold insB
  have := takeWhile_all (p := fun x => !bef (f e) (f x)) (l := l) fun x hx => by
    show (!bef (f e) (f x)) = true
    rw [h x hx]
    rfl
  rw [this.1, this.2]
theorem insB_front {e : α} {l : List α} (h : ∀ x ∈ l, bef (f e) (f x) = true) : insB f e l = e :: l := by
  unfold insB
  cases l with
  | nil => rfl
  | cons a l =>
    have ha := h a List.mem_cons_self
    rw [List.takeWhile_cons, List.dropWhile_cons, ha]
    rfl
theorem foldl_fix (l : List α) : ∀ acc : List α, Srt f (acc ++ l) → l.foldl (fun acc e => insB f e acc) acc = acc ++ l := by
  induction l with
  | nil =>
    intro acc _
    rw [List.append_nil]
    rfl
  | cons e l ih =>
    intro acc h
    have h3 := List.pairwise_append.mp h
    show l.foldl (fun acc e => insB f e acc) (insB f e acc) = acc ++ e :: l
    rw [insB_end (fun x hx => h3.2.2 x hx e List.mem_cons_self)]
    have e2 : acc ++ e :: l = (acc ++ [e]) ++ l := by simp
    rw [e2] at h ⊢
    exact ih _ h
theorem sortB_fix {l : List α} (h : Srt f l) : sortB f l = l := foldl_fix l [] h
/-- strictly in order -/
def Str' (f : α → Int × Int) (l : List α) : Prop := l.Pairwise fun a b => bef (f a) (f b) = true
theorem sortB_rev {l : List α} (h : Str' f l) : sortB f l.reverse = l := by
  induction l with
  | nil => rfl
  | cons a l ih =>
    have h3 := List.pairwise_cons.mp h
    unfold sortB
    rw [List.reverse_cons, List.foldl_append]
    show insB f a (sortB f l.reverse) = a :: l
    rw [ih h3.2]
    exact insB_front h3.1
theorem srt_of_str {l : List α} (h : Str' f l) : Srt f l := List.Pairwise.imp (fun h => bef_asym h) h
theorem str_unique : ∀ {l m : List α}, Str' f l → Str' f m → l.Perm m → l = m
  | [], m, _, _, p => by
    have := p.length_eq
    cases m with
    | nil => rfl
    | cons b m => simp at this
  | a :: l, [], _, _, p => by
    have := p.length_eq
    simp at this
  | a :: l, b :: m, hl, hm, p => by
    have hl3 := List.pairwise_cons.mp hl
    have hm3 := List.pairwise_cons.mp hm
    have eab : a = b := by
      have h1 : a ∈ b :: m := p.mem_iff.mp List.mem_cons_self
      have h2 : b ∈ a :: l := p.mem_iff.mpr List.mem_cons_self
      rcases List.mem_cons.mp h1 with h1 | h1
      · exact h1
      · rcases List.mem_cons.mp h2 with h2 | h2
        · exact h2.symm
        · have q1 := hm3.1 a h1
          have q2 := hl3.1 b h2
          rw [bef_asym q1] at q2
          cases q2
    subst eab
    rw [str_unique hl3.2 hm3.2 (List.Perm.cons_inv p)]
/-- the place: all ahead of it are not behind e, all from it on are -/
theorem insB_place {e : α} : ∀ {l : List α} {i : Nat}, (∀ j (h : j < l.length), j < i → bef (f e) (f l[j]) = false) → (∀ j (h : j < l.length), i ≤ j → bef (f e) (f l[j]) = true) → l.take i ++ [e] ++ l.drop i = insB f e l
  | [], i, _, _ => by simp [insB]
  | a :: l, 0, _, h2 => by
    have : ∀ x ∈ a :: l, bef (f e) (f x) = true := fun x hx => by
      obtain ⟨j, hj, rfl⟩ := List.getElem_of_mem hx
      exact h2 j hj (Nat.zero_le _)
    rw [insB_front this]
    rfl
  | a :: l, i + 1, h1, h2 => by
    have ha : bef (f e) (f a) = false := h1 0 (Nat.succ_pos _) (Nat.succ_pos _)
    have ih := insB_place (e := e) (l := l) (i := i) (fun j h hj => h1 (j + 1) (Nat.succ_lt_succ h) (Nat.succ_lt_succ hj)) (fun j h hj => h2 (j + 1) (Nat.succ_lt_succ h) (Nat.succ_le_succ hj))
    have e1 : insB f e (a :: l) = a :: insB f e l := by
      unfold insB
      rw [List.takeWhile_cons, List.dropWhile_cons, ha]
      rfl
    rw [e1, ← ih]
    simp
end
end Fo
set_option linter.all false
namespace Fo
theorem kd_lt (a : Int × Int) : kd a < 8 := by
  unfold kd
  repeat' split
  all_goals omega
theorem kd_qtr {a : Int × Int} (h : Dir a) : kd (qtr a) = (kd a + 2) % 8 := by
  obtain ⟨x, y⟩ := a
  unfold Dir at h
  unfold kd qtr
  simp only at *
  repeat' split
  all_goals omega
theorem kd_neg {a : Int × Int} (h : Dir a) : kd (-a.1, -a.2) = (kd a + 4) % 8 := by
  obtain ⟨x, y⟩ := a
  unfold Dir at h
  unfold kd
  simp only at *
  repeat' split
  all_goals omega
theorem mul_sign {x m : Int} (hm : 0 < m) : (0 < x * m ↔ 0 < x) ∧ (x * m = 0 ↔ x = 0) := by
  rcases Int.lt_trichotomy x 0 with h | h | h
  · have := Int.mul_neg_of_neg_of_pos h hm
    omega
  · rw [h]
    simp
  · have := Int.mul_pos h hm
    omega
theorem kd_mul (a : Int × Int) {m : Int} (hm : 0 < m) : kd (a.1 * m, a.2 * m) = kd a := by
  obtain ⟨x, y⟩ := a
  have h1 := mul_sign (x := x) hm
  have h2 := mul_sign (x := y) hm
  unfold kd
  simp only at *
  simp only [h1.1, h2.1, h1.2, h2.2]
theorem crs_qtr (a b : Int × Int) : crs (qtr a) (qtr b) = crs a b := by
  unfold crs qtr
  grind
theorem sq_pos {x : Int} (h : x ≠ 0) : 0 < x * x := by
  rcases Int.lt_trichotomy x 0 with h1 | h1 | h1
  · exact Int.mul_pos_of_neg_of_neg h1 h1
  · exact absurd h1 h
  · exact Int.mul_pos h1 h1
theorem sq_nn (x : Int) : 0 ≤ x * x := by
  by_cases h : x = 0
  · rw [h]
    decide
  · exact Int.le_of_lt (sq_pos h)
theorem crs_self_qtr {a : Int × Int} (h : Dir a) : 0 < crs a (qtr a) := by
  have e : crs a (qtr a) = a.1 * a.1 + a.2 * a.2 := by
    unfold crs qtr
    grind
  rw [e]
  have h1 := sq_nn a.1
  have h2 := sq_nn a.2
  rcases h with h | h
  · have := sq_pos h
    omega
  · have := sq_pos h
    omega
theorem dir_qtr {a : Int × Int} (h : Dir a) : Dir (qtr a) := by
  unfold Dir qtr at *
  simp only
  omega
theorem dir_mul {a : Int × Int} {m : Int} (h : Dir a) (hm : 0 < m) : Dir (a.1 * m, a.2 * m) := by
  have h1 := (mul_sign (x := a.1) hm).2
  have h2 := (mul_sign (x := a.2) hm).2
  unfold Dir at *
  simp only
  omega
/-- turned, both below kind 6 or both from 6 on -/
theorem bef_qtr {a b : Int × Int} (ha : Dir a) (hb : Dir b) (h : kd a < 6 ↔ kd b < 6) : bef (qtr a) (qtr b) = bef a b := by
  have la := kd_lt a
  have lb := kd_lt b
  unfold bef
  rw [kd_qtr ha, kd_qtr hb, crs_qtr]
  by_cases e : kd a = kd b
  · rw [if_pos e, if_pos (by omega)]
  · rw [if_neg e, if_neg (by omega)]
    by_cases c : kd a < kd b
    · rw [decide_eq_true c, decide_eq_true (by omega)]
    · rw [decide_eq_false c, decide_eq_false (by omega)]
theorem bef_turned {a b : Int × Int} (ha : Dir a) (hb : Dir b) (h1 : kd a < 6) (h2 : ¬ kd b < 6) : bef (qtr b) (qtr a) = true := by
  have la := kd_lt a
  have lb := kd_lt b
  unfold bef
  rw [kd_qtr ha, kd_qtr hb, if_neg (by omega)]
  exact decide_eq_true (by omega)
section
variable {α : Type} {f : α → Int × Int}
/-- no two alike -/
def Apart (f : α → Int × Int) (l : List α) : Prop := l.Pairwise fun a b => ¬ (crs (f a) (f b) = 0 ∧ 0 < dot (f a) (f b))
theorem alike_symm {a b : Int × Int} (h : ¬ (crs a b = 0 ∧ 0 < dot a b)) : ¬ (crs b a = 0 ∧ 0 < dot b a) := by
  intro z
  apply h
  have e1 := crs_swap a b
  have e2 : dot b a = dot a b := by
    unfold dot
    grind
  omega
theorem apart_perm {l m : List α} (h : Apart f l) (p : l.Perm m) : Apart f m := (p.pairwise_iff fun h => alike_symm h).mp h
theorem str_of {l : List α} (hs : Srt f l) (hd : Dirs f l) (ha : Apart f l) : Str' f l := by
  induction l with
  | nil => exact List.Pairwise.nil
  | cons a l ih =>
    have s := List.pairwise_cons.mp hs
    have t := List.pairwise_cons.mp ha
    refine List.pairwise_cons.mpr ⟨fun b hb => ?_, ih s.2 (fun x hx => hd x (List.mem_cons_of_mem _ hx)) t.2⟩
    cases h : bef (f a) (f b) with
    | true => rfl
    | false => exact absurd (bef_alike (hd a List.mem_cons_self) (hd b (List.mem_cons_of_mem _ hb)) h (s.1 b hb)) (t.1 b hb)
theorem sortB_str {l : List α} (hd : Dirs f l) (ha : Apart f l) : Str' f (sortB f l) := str_of (sortB_srt hd) (sortB_dirs hd) (apart_perm ha (sortB_perm l).symm)
end
/-- below kind 6 stands first -/
theorem split6 : ∀ {l : List (Int × Int)}, Srt id l → ∃ n, n ≤ l.length ∧ (∀ x ∈ l.take n, kd x < 6) ∧ ∀ x ∈ l.drop n, ¬ kd x < 6
  | [], _ => ⟨0, Nat.le_refl _, fun x hx => by simp at hx, fun x hx => by simp at hx⟩
  | a :: l, h => by
    have s := List.pairwise_cons.mp h
    by_cases c : kd a < 6
    · obtain ⟨n, hn, h1, h2⟩ := split6 s.2
      refine ⟨n + 1, Nat.succ_le_succ hn, fun x hx => ?_, h2⟩
      rw [List.take_succ_cons] at hx
      rcases List.mem_cons.mp hx with hx | hx
      · rw [hx]
        exact c
      · exact h1 x hx
    · refine ⟨0, Nat.zero_le _, fun x hx => by simp at hx, fun x hx => ?_⟩
      rw [List.drop_zero] at hx
      rcases List.mem_cons.mp hx with hx | hx
      · rw [hx]
        exact c
      · have h3 := s.1 x hx
        unfold bef at h3
        simp only [id] at h3
        by_cases e : kd x = kd a
        · omega
        · rw [if_neg e] at h3
          have h3 := of_decide_eq_false h3
          omega
/-- the turned directions in order are those in order, turned, begun elsewhere -/
theorem turned_round {l : List (Int × Int)} (hd : Dirs id l) (ha : Apart id l) : ∃ n, n ≤ l.length ∧
    sortB id (l.map qtr) = ((sortB id l).map qtr).drop n ++ ((sortB id l).map qtr).take n := by
  have hs := sortB_srt hd
  have hst := sortB_str hd ha
  have hds := sortB_dirs hd
  obtain ⟨n, hn, h1, h2⟩ := split6 hs
  rw [sortB_length] at hn
  refine ⟨n, hn, ?_⟩
  have hsd : Dirs id (l.map qtr) := fun x hx => by
    obtain ⟨y, hy, rfl⟩ := List.mem_map.mp hx
    exact dir_qtr (hd y hy)
  have hap : Apart id (l.map qtr) := by
    refine List.pairwise_map.mpr (List.Pairwise.imp ?_ ha)
    intro a b h z
    apply h
    have e2 : dot (qtr a) (qtr b) = dot a b := by
      unfold dot qtr
      grind
    have e1 := crs_qtr a b
    simp only [id] at *
    omega
  refine str_unique (f := id) (sortB_str hsd hap) ?_ ?_
  · rw [← List.map_drop, ← List.map_take]
    have hdl : ∀ x ∈ (sortB id l).drop n, Dir x := fun x hx => hds x (List.mem_of_mem_drop hx)
    have htl : ∀ x ∈ (sortB id l).take n, Dir x := fun x hx => hds x (List.mem_of_mem_take hx)
    refine List.pairwise_append.mpr ⟨?_, ?_, ?_⟩
    · refine List.pairwise_map.mpr ?_
      have p : ((sortB id l).drop n).Pairwise fun a b => bef a b = true := List.Pairwise.drop hst
      refine List.Pairwise.imp_of_mem ?_ p
      intro a b ma mb h
      have k1 := h2 a ma
      have k2 := h2 b mb
      simp only [id]
      rw [bef_qtr (hdl a ma) (hdl b mb) (by omega)]
      exact h
    · refine List.pairwise_map.mpr ?_
      have p : ((sortB id l).take n).Pairwise fun a b => bef a b = true := List.Pairwise.take hst
      refine List.Pairwise.imp_of_mem ?_ p
      intro a b ma mb h
      have k1 := h1 a ma
      have k2 := h1 b mb
      simp only [id]
      rw [bef_qtr (htl a ma) (htl b mb) (by omega)]
      exact h
    · intro x hx y hy
      obtain ⟨u, hu, rfl⟩ := List.mem_map.mp hx
      obtain ⟨v, hv, rfl⟩ := List.mem_map.mp hy
      exact bef_turned (htl v hv) (hdl u hu) (h1 v hv) (h2 u hu)
  · refine (sortB_perm _).trans ?_
    have p1 : (((sortB id l).map qtr).drop n ++ ((sortB id l).map qtr).take n).Perm (((sortB id l).map qtr).take n ++ ((sortB id l).map qtr).drop n) := List.perm_append_comm
    rw [List.take_append_drop] at p1
    exact (p1.trans ((sortB_perm l).map qtr)).symm
/-! ### the shortest -/
def gcI (a : Int × Int) : Int := (Int.gcd a.1 a.2 : Int)
def low (a : Int × Int) : Int × Int := (a.1 / gcI a, a.2 / gcI a)
theorem gcI_pos {a : Int × Int} (h : Dir a) : 0 < gcI a := by
  unfold gcI
  have : Int.gcd a.1 a.2 ≠ 0 := by
    intro z
    have := Int.gcd_eq_zero_iff.mp z
    rcases h with h | h
    · exact h this.1
    · exact h this.2
  omega
theorem gcI_dvd1 (a : Int × Int) : gcI a ∣ a.1 := Int.gcd_dvd_left ..
theorem gcI_dvd2 (a : Int × Int) : gcI a ∣ a.2 := Int.gcd_dvd_right ..
theorem low_mul {a : Int × Int} (h : Dir a) {m : Int} (hm : 0 < m) : low (a.1 * m, a.2 * m) = low a := by
  have e : gcI (a.1 * m, a.2 * m) = gcI a * m := by
    unfold gcI
    simp only
    rw [Int.gcd_mul_right]
    rw [Int.natCast_mul]
    congr 1
    omega
  unfold low
  rw [e]
  simp only
  rw [Int.mul_ediv_mul_of_pos_left _ _ hm, Int.mul_ediv_mul_of_pos_left _ _ hm]
theorem low_qtr {a : Int × Int} : low (qtr a) = qtr (low a) := by
  have e : gcI (qtr a) = gcI a := by
    unfold gcI qtr
    simp only
    rw [Int.neg_gcd, Int.gcd_comm]
  unfold low
  rw [e]
  unfold qtr
  simp only
  rw [Int.neg_ediv_of_dvd (gcI_dvd2 a)]
end Fo
set_option Elab.async false
set_option linter.all false
set_option maxRecDepth 100000
set_option maxHeartbeats 2000000
namespace Fo
open PySem L2
/-! ### the text by places -/
def top (i : Nat) : Stmt := PySem.Challenge.pw_filledonce_k04_whole_directions.main.body.getD i (.Pass ⟨0, 0, 0, 0⟩)
abbrev sWhole : Stmt := top 6
abbrev sInit : Stmt := inClass (top 10) 0
abbrev sAdd : Stmt := inClass (top 10) 3
abbrev sSub : Stmt := inClass (top 10) 5
abbrev sCross : Stmt := inClass (top 10) 9
abbrev sMul : Stmt := inClass (top 10) 7
abbrev sEq : Stmt := inClass (top 10) 2
abbrev sPairM : Stmt := inClass (top 10) 10
abbrev sIsPoint : Stmt := top 11
abbrev sAsPoint : Stmt := top 12
abbrev sOperand : Stmt := top 13
abbrev sQuarter : Stmt := top 14
/-! ### data -/
theorem xy_ : ¬ (("x" : Str) = "y") := by decide +kernel
theorem yx_ : ¬ (("y" : Str) = "x") := by decide +kernel
def ptF (x y : Int) : List (Str × V) := putF "y" (.int y) (putF "x" (.int x) [])
theorem ptF_x (x y : Int) : (ptF x y).lookup ("x" : Str) = some (.int x) := by
  unfold ptF
  rw [lookup_putF, if_neg xy_, lookup_putF, if_pos rfl]
theorem ptF_y (x y : Int) : (ptF x y).lookup ("y" : Str) = some (.int y) := by
  unfold ptF
  rw [lookup_putF, if_pos rfl]
theorem ptF_no (x y : Int) {m : Str} (h1 : ¬ m = "y") (h2 : ¬ m = "x") : (ptF x y).lookup m = none := by
  unfold ptF
  rw [lookup_putF, if_neg h1, lookup_putF, if_neg h2]
  all_goals rfl
/-- an instance of Point with these numbers -/
def IsP (C : Addr) (v : V) (x y : Int) (H : Hp) : Prop := ∃ a dx, v = .ref a ∧ H a = some (.ins C dx (ptF x y))
/-- it, or a pair that stands for it -/
def IsPt (C : Addr) (v : V) (x y : Int) (H : Hp) : Prop := ∃ a, v = .ref a ∧ ((∃ dx, H a = some (.ins C dx (ptF x y))) ∨ H a = some (.tup [.int x, .int y]))
theorem IsP.ex {C : Addr} {v : V} {x y : Int} {H H' : Hp} (e : Same H H') (h : IsP C v x y H) : IsP C v x y H' := by
  obtain ⟨a, dx, rfl, h⟩ := h
  exact ⟨a, dx, rfl, e _ _ h⟩
theorem IsPt.ex {C : Addr} {v : V} {x y : Int} {H H' : Hp} (e : Same H H') (h : IsPt C v x y H) : IsPt C v x y H' := by
  obtain ⟨a, rfl, h⟩ := h
  rcases h with ⟨dx, h⟩ | h
  · exact ⟨a, rfl, .inl ⟨dx, e _ _ h⟩⟩
  · exact ⟨a, rfl, .inr (e _ _ h)⟩
theorem IsP.pt {C : Addr} {v : V} {x y : Int} {H : Hp} (h : IsP C v x y H) : IsPt C v x y H := by
  obtain ⟨a, dx, rfl, h⟩ := h
  exact ⟨a, rfl, .inl ⟨dx, h⟩⟩
theorem same_new {H : Hp} {p : Addr} {o : HO} (h : H p = none) : Same H (upd H p o) := fun a u e => by
  rw [upd_ne (ne_of_none e h)]
  exact e
def Sm (n : Nat) (x : Int) : Prop := x.natAbs < 2 ^ n
theorem Sm.mul {n : Nat} {x y : Int} (hx : Sm n x) (hy : Sm n y) (h0 : 0 < n) (h1 : n ≤ 1000) : CMulW x y := wide_mul hx hy h0 h0 (by omega)
theorem Sm.sub {n : Nat} {x y : Int} (hx : Sm n x) (hy : Sm n y) : Sm (n + 1) (x - y) := by
  unfold Sm at *
  rw [Nat.pow_succ]
  omega
theorem Sm.up {n m : Nat} {x : Int} (hx : Sm n x) (h : n ≤ m) : Sm m x := Nat.lt_of_lt_of_le hx (Nat.pow_le_pow_right (by decide) h)
/-! ### promises -/
def spWhole : Sp := fun vs H Q _ => ∃ i : Int, vs = [.int i] ∧ Q (.bl true) H
def spInit (C : Addr) : Sp := fun vs H Q _ => ∃ (p dx : Addr) (x y : Int), vs = [.ref p, .int x, .int y] ∧ H p = some (.ins C dx []) ∧ Q .non (upd (upd H p (.ins C dx (putF "x" (.int x) []))) p (.ins C dx (ptF x y)))
def spIsPoint (C : Addr) : Sp := fun vs H Q _ => ∃ (v : V) (x y : Int), vs = [v] ∧ IsPt C v x y H ∧ Q (.bl true) H
def spAsPoint (C : Addr) : Sp := fun vs H Q _ => ∃ (v : V) (x y : Int), vs = [v] ∧ IsPt C v x y H ∧ ∀ w H', Same H H' → IsP C w x y H' → (IsP C v x y H → w = v) → Q w H'
def spBin (C : Addr) (g : Int → Int → Int) : Sp := fun vs H Q _ => ∃ (v u : V) (x y z t : Int), vs = [v, u] ∧ IsP C v x y H ∧ IsPt C u z t H ∧ ∀ w H', Same H H' → IsP C w (g x z) (g y t) H' → Q w H'
def spCross (C : Addr) : Sp := fun vs H Q _ => ∃ (n : Nat) (v u : V) (x y z t : Int), vs = [v, u] ∧ IsP C v x y H ∧ IsPt C u z t H ∧ 0 < n ∧ n ≤ 1000 ∧ Sm n x ∧ Sm n y ∧ Sm n z ∧ Sm n t ∧ ∀ H', Same H H' → Q (.int (x * t - y * z)) H'
def sideI (ax ay bx by' px py : Int) : Int := (bx - ax) * (py - ay) - (by' - ay) * (px - ax)
def spSide (C : Addr) : Sp := fun vs H Q _ => ∃ (n : Nat) (a b p : V) (ax ay bx by' px py : Int), vs = [a, b, p] ∧ IsPt C a ax ay H ∧ IsPt C b bx by' H ∧ IsPt C p px py H ∧ n < 1000 ∧
  Sm n ax ∧ Sm n ay ∧ Sm n bx ∧ Sm n by' ∧ Sm n px ∧ Sm n py ∧ ∀ H', Same H H' → Q (.int (sideI ax ay bx by' px py)) H'
def spQuarter (C : Addr) : Sp := fun vs H Q _ => ∃ (v : V) (x y : Int), vs = [v] ∧ IsPt C v x y H ∧ ∀ w H', Same H H' → IsP C w (-y) x H' → Q w H'
/-- what the top has written of Point -/
structure Txt (K : PySem.W.Frag) (mg : Str → Option Value) (C : Addr) : Prop where
  cl : Cls K C
  nX : NoAttr K C "x"
  nY : NoAttr K C "y"
  mgC : mg "Point" = some (.ref C)
  isi : mg "isinstance" = none
  len : mg "len" = none
  int : mg "int" = none
  bool : mg "bool" = none
  tuple : mg "tuple" = none
  ha : PySem.W.findIn K (.ref C) "__class__" = some (some (.builtin "object.__class__"))
  hn : PySem.W.specialIn K (.builtin "object.__class__") "__get__" = some (some (.builtin "getset_descriptor.__get__"))
  htk : PySem.W.takesIn K (.builtin "object.__class__") = some true
  hm : PySem.W.mroIn K C (.type "object") = some true
  kTC : PySem.W.kitOne K (.type "tuple") (.ref C) = some false
  kCC : PySem.W.kitOne K (.ref C) (.ref C) = some true
section
variable {P : Program} {w : World} {K : PySem.W.Frag} {mg : Str → Option Value} {base : Heap}
theorem scWhole : FnScope ["value"] ["value"] (defScope sWhole) := ⟨rfl, rfl, rfl, by decide +kernel, rfl, by decide +kernel, by decide +kernel⟩
theorem ok_whole {f C : Addr} {fd : FuncData} (F : Fun K "is_whole" "is_whole" sWhole f fd) (T : Txt K mg C) : FnOk P w K mg base CX0 1 f fd ["value"] spWhole := by
  refine F.ok scWhole (fun vs H Q E h => ?_) (fun cdv A outer s H vs Q E hr h => ?_)
  · obtain ⟨i, rfl, _⟩ := h
    rfl
  · obtain ⟨i, rfl, k⟩ := h
    refine ⟨_, pss_one (ps_ret (pe_and (pe_callB call_isi (by rfl) T.isi (by decide +kernel) (pa_cons (pv 0) (pa_cons (pe_bltn (v := .ty "int") (by rfl) T.int (by decide +kernel) rfl) pa_nil)))
      (pe_one (pe_not (pe_callB call_isi (by rfl) T.isi (by decide +kernel) (pa_cons (pv 0) (pa_cons (pe_bltn (v := .ty "bool") (by rfl) T.bool (by decide +kernel) rfl) pa_nil))))))), ?_⟩
    refine ⟨_, rfl, _, _, _, _, true, rfl, .ty _, .base (.int i), kit_ty (by decide +kernel), true, rfl, ?_⟩
    refine iteT ?_
    exact ⟨_, rfl, _, _, _, _, false, rfl, .ty _, .base (.int i), kit_ty (by decide +kernel), false, rfl, k⟩

theorem scInit : FnScope ["self", "x", "y"] ["self", "x", "y"] (defScope sInit) := ⟨rfl, rfl, rfl, by decide +kernel, rfl, by decide +kernel, by decide +kernel⟩
theorem ok_init {f C fW : Addr} {fd fdW : FuncData} (F : Fun K "__init__" "Point.__init__" sInit f fd) (T : Txt K mg C) (FW : Fun K "is_whole" "is_whole" sWhole fW fdW) (bW : Binds K fdW ["value"] []) (mW : mg "is_whole" = some (.ref fW)) :
    FnOk P w K mg base CX0 2 f fd ["self", "x", "y"] (spInit C) := by
  have GW : FnOk P w K mg base CX0 1 fW fdW ["value"] spWhole := ok_whole FW T
  refine F.ok scInit (fun vs H Q E h => ?_) (fun cdv A outer s H vs Q E hr h => ?_)
  · obtain ⟨p, dx, x, y, rfl, _⟩ := h
    rfl
  · obtain ⟨p, dx, x, y, rfl, hp, k⟩ := h
    refine ⟨_, pss_cons (ps_if (PW.pt (pw_or (pt_not (pt_val (pe_call GW hr rfl mW FW.kp bW .nil pass0 (pa_cons (pv 1) pa_nil)))) (pw_or1 (pt_not (pt_val (pe_call GW hr rfl mW FW.kp bW .nil pass0 (pa_cons (pv 2) pa_nil))))))) (pss_one ps_never) pss_nil)
      (pss_cons (ps_fld (pv 0) (pv 1) rfl) (pss_one (ps_fld (pv 0) (pv 2) rfl))), ?_⟩
    refine ⟨_, rfl, x, rfl, true, rfl, ?_⟩
    refine iteF ?_
    refine ⟨_, rfl, y, rfl, true, rfl, ?_⟩
    refine iteF ?_
    refine ⟨_, rfl, _, rfl, p, C, dx, [], rfl, hp, T.cl, T.nX, (by show 0 < 1000; decide), ?_⟩
    refine ⟨_, rfl, _, rfl, p, C, dx, _, rfl, upd_same, T.cl, T.nY, (by show 1 < 1000; decide), ?_⟩
    exact k
theorem ty_ins {C a dx : Addr} {fs : List (Str × V)} {H : Hp} (T : Txt K mg C) (h : H a = some (.ins C dx fs)) : TyX K H (.ref a) (.ref C) := .base (.ins h T.cl T.ha T.hn T.htk T.hm)
theorem scIsPoint : FnScope ["thing"] ["thing"] (defScope sIsPoint) := ⟨rfl, rfl, rfl, by decide +kernel, rfl, by decide +kernel, by decide +kernel⟩
theorem ok_is_point {f C fW : Addr} {fd fdW : FuncData} (F : Fun K "is_point" "is_point" sIsPoint f fd) (T : Txt K mg C) (FW : Fun K "is_whole" "is_whole" sWhole fW fdW) (bW : Binds K fdW ["value"] []) (mW : mg "is_whole" = some (.ref fW)) :
    FnOk P w K mg base CX0 2 f fd ["thing"] (spIsPoint C) := by
  have GW : FnOk P w K mg base CX0 1 fW fdW ["value"] spWhole := ok_whole FW T
  refine F.ok scIsPoint (fun vs H Q E h => ?_) (fun cdv A outer s H vs Q E hr h => ?_)
  · obtain ⟨v, x, y, rfl, _⟩ := h
    rfl
  · obtain ⟨v, x, y, rfl, ⟨a, rfl, hv⟩, k⟩ := h
    refine ⟨_, pss_cons (ps_if (pt_val (pe_callB call_isi (by rfl) T.isi (by decide +kernel) (pa_cons (pv 0) (pa_cons (pe_glob (v := .ref C) rfl T.mgC rfl) pa_nil)))) (pss_one (ps_ret pe_bl)) pss_nil)
      (pss_one (ps_ret (pe_and (pe_callB call_isi (by rfl) T.isi (by decide +kernel) (pa_cons (pv 0) (pa_cons (pe_bltn (v := .ty "tuple") (by rfl) T.tuple (by decide +kernel) rfl) pa_nil)))
        (pe_and (pe_cmpR op_eq (pe_callB call_len_seq (by rfl) T.len PySem.boot_len (pa_cons (pv 0) pa_nil)) pe_int (nomark _))
        (pe_and (pe_call GW hr rfl mW FW.kp bW .nil pass0 (pa_cons (pe_ix ix_tup (pv 0) pe_int (fun _ _ => rfl)) pa_nil))
        (pe_one (pe_call GW hr rfl mW FW.kp bW .nil pass0 (pa_cons (pe_ix ix_tup (pv 0) pe_int (fun _ _ => rfl)) pa_nil)))))))), ?_⟩
    rcases hv with ⟨dx, hv⟩ | hv
    · refine ⟨_, rfl, _, _, _, _, true, rfl, .own C, ty_ins T hv, T.kCC, true, rfl, ?_⟩
      refine iteT ?_
      exact k
    · refine ⟨_, rfl, _, _, _, _, false, rfl, .own C, .base (.tup hv), T.kTC, false, rfl, ?_⟩
      refine iteF ?_
      refine ⟨_, rfl, _, _, _, _, true, rfl, .ty _, .base (.tup hv), kit_ty (by decide +kernel), true, rfl, ?_⟩
      refine iteT ?_
      refine ⟨_, rfl, a, _, rfl, .inr (SqT.of hv), rfl, true, rfl, ?_⟩
      refine iteT ?_
      refine ⟨_, rfl, a, _, _, _, rfl, rfl, SqT.of hv, atI_nat (j := 0) rfl, x, rfl, true, rfl, ?_⟩
      refine iteT ?_
      exact ⟨_, rfl, a, _, _, _, rfl, rfl, SqT.of hv, atI_nat (j := 1) rfl, y, rfl, k⟩

/-- a new Point -/
theorem made_same {C x dx : Addr} {H : Hp} {X Y : Int} (nx : H x = none) (nd : H dx = none) : Same H (upd (upd (upd (upd H dx (.own x)) x (.ins C dx [])) x (.ins C dx (putF "x" (.int X) []))) x (.ins C dx (ptF X Y))) := fun b o e => by
  have n1 : b ≠ x := ne_of_none e nx
  have n2 : b ≠ dx := ne_of_none e nd
  rw [upd_ne n1, upd_ne n1, upd_ne n1, upd_ne n2]
  exact e
theorem made_is {C x dx : Addr} {H : Hp} {X Y : Int} : IsP C (.ref x) X Y (upd (upd (upd (upd H dx (.own x)) x (.ins C dx [])) x (.ins C dx (putF "x" (.int X) []))) x (.ins C dx (ptF X Y))) := ⟨x, dx, rfl, upd_same⟩
/-- Point(a, b) of two numbers: spInit's reading at a new instance -/
theorem make_pt {C : Addr} {H : Hp} {X Y : Int} {Q : VK} {E : XK} (k : ∀ v H', Same H H' → IsP C v X Y H' → Q v H') :
    ∀ x dx, H x = none → H dx = none → dx ≠ x → spInit C (.ref x :: ([.int X, .int Y] ++ [])) (upd (upd H dx (.own x)) x (.ins C dx [])) (fun v H2 => v = .non ∧ Q (.ref x) H2) E := fun x dx nx nd _ =>
  ⟨x, dx, X, Y, rfl, upd_same, rfl, k _ _ (made_same nx nd) made_is⟩
/-- the program's defs that others call, as they stand -/
structure Defs (K : PySem.W.Frag) (mg : Str → Option Value) (C fW fI fP fA fO : Addr) (fdW fdI fdP fdA fdO : FuncData) : Prop where
  T : Txt K mg C
  FW : Fun K "is_whole" "is_whole" sWhole fW fdW
  bW : Binds K fdW ["value"] []
  mW : mg "is_whole" = some (.ref fW)
  M : Mk K C fI
  FI : Fun K "__init__" "Point.__init__" sInit fI fdI
  bI : Binds K fdI ["self", "x", "y"] []
  FP : Fun K "is_point" "is_point" sIsPoint fP fdP
  bP : Binds K fdP ["thing"] []
  mP : mg "is_point" = some (.ref fP)
  FA : Fun K "as_point" "as_point" sAsPoint fA fdA
  bA : Binds K fdA ["thing"] []
  mA : mg "as_point" = some (.ref fA)
  FO : Fun K "operand" "operand" sOperand fO fdO
  bO : Binds K fdO ["thing"] []
  mO : mg "operand" = some (.ref fO)
variable {C fW fI fP fA fO : Addr} {fdW fdI fdP fdA fdO : FuncData}
theorem Defs.GW (D : Defs K mg C fW fI fP fA fO fdW fdI fdP fdA fdO) : FnOk P w K mg base CX0 1 fW fdW ["value"] spWhole := ok_whole D.FW D.T
theorem Defs.GI (D : Defs K mg C fW fI fP fA fO fdW fdI fdP fdA fdO) : FnOk P w K mg base CX0 2 fI fdI ["self", "x", "y"] (spInit C) := ok_init D.FI D.T D.FW D.bW D.mW
theorem Defs.GP (D : Defs K mg C fW fI fP fA fO fdW fdI fdP fdA fdO) : FnOk P w K mg base CX0 2 fP fdP ["thing"] (spIsPoint C) := ok_is_point D.FP D.T D.FW D.bW D.mW
theorem scAsPoint : FnScope ["thing"] ["thing"] (defScope sAsPoint) := ⟨rfl, rfl, rfl, by decide +kernel, rfl, by decide +kernel, by decide +kernel⟩
theorem Defs.GA (D : Defs K mg C fW fI fP fA fO fdW fdI fdP fdA fdO) : FnOk P w K mg base CX0 4 fA fdA ["thing"] (spAsPoint C) := by
  have GP : FnOk P w K mg base CX0 2 fP fdP ["thing"] (spIsPoint C) := D.GP
  have GI : FnOk P w K mg base CX0 2 fI fdI ["self", "x", "y"] (spInit C) := D.GI
  have T := D.T
  refine D.FA.ok scAsPoint (fun vs H Q E h => ?_) (fun cdv A outer s H vs Q E hr h => ?_)
  · obtain ⟨v, x, y, rfl, _⟩ := h
    rfl
  · obtain ⟨v, x, y, rfl, hp, k⟩ := h
    refine ⟨_, pss_cons (ps_if (pt_not (pt_val (pe_call GP (hr.mono (by decide)) rfl D.mP D.FP.kp D.bP .nil pass0 (pa_cons (pv 0) pa_nil)))) (pss_one ps_never) pss_nil)
      (pss_cons (ps_if (pt_val (pe_callB call_isi (by rfl) T.isi (by decide +kernel) (pa_cons (pv 0) (pa_cons (pe_glob (v := .ref C) rfl T.mgC rfl) pa_nil)))) (pss_one (ps_ret (pv 0))) pss_nil)
      (pss_one (ps_ret (pe_make D.M GI hr rfl T.mgC D.bI .nil pass0 (pa_cons (pe_ix ix_tup (pv 0) pe_int (fun _ _ => rfl)) (pa_cons (pe_ix ix_tup (pv 0) pe_int (fun _ _ => rfl)) pa_nil)))))), ?_⟩
    refine ⟨_, rfl, v, x, y, rfl, hp, true, rfl, ?_⟩
    refine iteF ?_
    obtain ⟨a, rfl, hv⟩ := hp
    rcases hv with ⟨dx, hv⟩ | hv
    · refine ⟨_, rfl, _, _, _, _, true, rfl, .own C, ty_ins T hv, T.kCC, true, rfl, ?_⟩
      refine iteT ?_
      exact ⟨_, rfl, k _ _ (Same.refl _) ⟨a, dx, rfl, hv⟩ fun _ => rfl⟩
    · refine ⟨_, rfl, _, _, _, _, false, rfl, .own C, .base (.tup hv), T.kTC, false, rfl, ?_⟩
      refine iteF ?_
      refine ⟨_, rfl, a, _, _, _, rfl, rfl, SqT.of hv, atI_nat (j := 0) rfl, _, rfl, a, _, _, _, rfl, rfl, SqT.of hv, atI_nat (j := 1) rfl, ?_⟩
      refine make_pt fun v H2 e2 h2 => k v H2 e2 h2 fun hp => ?_
      obtain ⟨b, dy, q1, q2⟩ := hp
      cases q1
      rw [hv] at q2
      cases q2
theorem scOperand : FnScope ["thing"] ["thing"] (defScope sOperand) := ⟨rfl, rfl, rfl, by decide +kernel, rfl, by decide +kernel, by decide +kernel⟩
theorem Defs.GO (D : Defs K mg C fW fI fP fA fO fdW fdI fdP fdA fdO) : FnOk P w K mg base CX0 5 fO fdO ["thing"] (spAsPoint C) := by
  have GP : FnOk P w K mg base CX0 2 fP fdP ["thing"] (spIsPoint C) := D.GP
  have GA : FnOk P w K mg base CX0 4 fA fdA ["thing"] (spAsPoint C) := D.GA
  refine D.FO.ok scOperand (fun vs H Q E h => ?_) (fun cdv A outer s H vs Q E hr h => ?_)
  · obtain ⟨v, x, y, rfl, _⟩ := h
    rfl
  · obtain ⟨v, x, y, rfl, hp, k⟩ := h
    refine ⟨_, pss_cons (ps_if (pt_not (pt_val (pe_call GP (hr.mono (by decide)) rfl D.mP D.FP.kp D.bP .nil pass0 (pa_cons (pv 0) pa_nil)))) (pss_one ps_never) pss_nil)
      (pss_one (ps_ret (pe_call GA hr rfl D.mA D.FA.kp D.bA .nil pass0 (pa_cons (pv 0) pa_nil)))), ?_⟩
    refine ⟨_, rfl, v, x, y, rfl, hp, true, rfl, ?_⟩
    refine iteF ?_
    exact ⟨_, rfl, v, x, y, rfl, hp, k⟩
theorem scAdd : FnScope ["self", "other", "by"] ["self", "other"] (defScope sAdd) := ⟨rfl, rfl, rfl, by decide +kernel, rfl, by decide +kernel, by decide +kernel⟩
theorem ok_add {f : Addr} {fd : FuncData} (F : Fun K "__add__" "Point.__add__" sAdd f fd) (D : Defs K mg C fW fI fP fA fO fdW fdI fdP fdA fdO) : FnOk P w K mg base CX0 6 f fd ["self", "other"] (spBin C (· + ·)) := by
  have GO : FnOk P w K mg base CX0 5 fO fdO ["thing"] (spAsPoint C) := D.GO
  have GI : FnOk P w K mg base CX0 2 fI fdI ["self", "x", "y"] (spInit C) := D.GI
  have T := D.T
  refine F.ok scAdd (fun vs H Q E h => ?_) (fun cdv A outer s H vs Q E hr h => ?_)
  · obtain ⟨v, u, x, y, z, t, rfl, _⟩ := h
    rfl
  · obtain ⟨v, u, x, y, z, t, rfl, hv, hu, k⟩ := h
    refine ⟨_, pss_cons (ps_set (i := 2) scAdd.nd rfl (Or.inl rfl) (pe_call GO hr rfl D.mO D.FO.kp D.bO .nil pass0 (pa_cons (pv 1) pa_nil)))
      (pss_one (ps_ret (pe_make D.M GI (hr.mono (by decide)) rfl T.mgC D.bI .nil pass0 (pa_cons (pe_op op_add (pe_fld (pv 0) rfl) (pe_fld (pv 2) rfl)) (pa_cons (pe_op op_add (pe_fld (pv 0) rfl) (pe_fld (pv 2) rfl)) pa_nil))))), ?_⟩
    refine ⟨_, rfl, u, z, t, rfl, hu, fun w H' e hw _ => ?_⟩
    obtain ⟨a, dx, rfl, ha⟩ := hv.ex e
    obtain ⟨b, dy, rfl, hb⟩ := hw
    refine ⟨_, rfl, a, C, dx, _, _, rfl, ha, T.cl, T.nX, ptF_x _ _, _, rfl, b, C, dy, _, _, rfl, hb, T.cl, T.nX, ptF_x _ _, _, _, rfl, rfl, ?_⟩
    refine ⟨_, rfl, a, C, dx, _, _, rfl, ha, T.cl, T.nY, ptF_y _ _, _, rfl, b, C, dy, _, _, rfl, hb, T.cl, T.nY, ptF_y _ _, _, _, rfl, rfl, ?_⟩
    exact make_pt fun v H2 e2 h2 => k v H2 (e.trans e2) h2
theorem scSub : FnScope ["self", "other", "by"] ["self", "other"] (defScope sSub) := ⟨rfl, rfl, rfl, by decide +kernel, rfl, by decide +kernel, by decide +kernel⟩
theorem ok_sub {f : Addr} {fd : FuncData} (F : Fun K "__sub__" "Point.__sub__" sSub f fd) (D : Defs K mg C fW fI fP fA fO fdW fdI fdP fdA fdO) : FnOk P w K mg base CX0 6 f fd ["self", "other"] (spBin C (· - ·)) := by
  have GO : FnOk P w K mg base CX0 5 fO fdO ["thing"] (spAsPoint C) := D.GO
  have GI : FnOk P w K mg base CX0 2 fI fdI ["self", "x", "y"] (spInit C) := D.GI
  have T := D.T
  refine F.ok scSub (fun vs H Q E h => ?_) (fun cdv A outer s H vs Q E hr h => ?_)
  · obtain ⟨v, u, x, y, z, t, rfl, _⟩ := h
    rfl
  · obtain ⟨v, u, x, y, z, t, rfl, hv, hu, k⟩ := h
    refine ⟨_, pss_cons (ps_set (i := 2) scSub.nd rfl (Or.inl rfl) (pe_call GO hr rfl D.mO D.FO.kp D.bO .nil pass0 (pa_cons (pv 1) pa_nil)))
      (pss_one (ps_ret (pe_make D.M GI (hr.mono (by decide)) rfl T.mgC D.bI .nil pass0 (pa_cons (pe_op op_sub (pe_fld (pv 0) rfl) (pe_fld (pv 2) rfl)) (pa_cons (pe_op op_sub (pe_fld (pv 0) rfl) (pe_fld (pv 2) rfl)) pa_nil))))), ?_⟩
    refine ⟨_, rfl, u, z, t, rfl, hu, fun w H' e hw _ => ?_⟩
    obtain ⟨a, dx, rfl, ha⟩ := hv.ex e
    obtain ⟨b, dy, rfl, hb⟩ := hw
    refine ⟨_, rfl, a, C, dx, _, _, rfl, ha, T.cl, T.nX, ptF_x _ _, _, rfl, b, C, dy, _, _, rfl, hb, T.cl, T.nX, ptF_x _ _, _, _, rfl, rfl, ?_⟩
    refine ⟨_, rfl, a, C, dx, _, _, rfl, ha, T.cl, T.nY, ptF_y _ _, _, rfl, b, C, dy, _, _, rfl, hb, T.cl, T.nY, ptF_y _ _, _, _, rfl, rfl, ?_⟩
    exact make_pt fun v H2 e2 h2 => k v H2 (e.trans e2) h2
theorem scCross : FnScope ["self", "other", "second"] ["self", "other"] (defScope sCross) := ⟨rfl, rfl, rfl, by decide +kernel, rfl, by decide +kernel, by decide +kernel⟩
theorem ok_cross {f : Addr} {fd : FuncData} (F : Fun K "cross" "Point.cross" sCross f fd) (D : Defs K mg C fW fI fP fA fO fdW fdI fdP fdA fdO) : FnOk P w K mg base CX0 5 f fd ["self", "other"] (spCross C) := by
  have GA : FnOk P w K mg base CX0 4 fA fdA ["thing"] (spAsPoint C) := D.GA
  have T := D.T
  refine F.ok scCross (fun vs H Q E h => ?_) (fun cdv A outer s H vs Q E hr h => ?_)
  · obtain ⟨n, v, u, x, y, z, t, rfl, _⟩ := h
    rfl
  · obtain ⟨n, v, u, x, y, z, t, rfl, hv, hu, n0, n1, sx, sy, sz, st, k⟩ := h
    refine ⟨_, pss_cons (ps_set (i := 2) scCross.nd rfl (Or.inl rfl) (pe_call GA hr rfl D.mA D.FA.kp D.bA .nil pass0 (pa_cons (pv 1) pa_nil)))
      (pss_one (ps_ret (pe_op op_sub (pe_op op_mulW (pe_fld (pv 0) rfl) (pe_fld (pv 2) rfl)) (pe_op op_mulW (pe_fld (pv 0) rfl) (pe_fld (pv 2) rfl))))), ?_⟩
    refine ⟨_, rfl, u, z, t, rfl, hu, fun w H' e hw _ => ?_⟩
    obtain ⟨a, dx, rfl, ha⟩ := hv.ex e
    obtain ⟨b, dy, rfl, hb⟩ := hw
    refine ⟨_, rfl, a, C, dx, _, _, rfl, ha, T.cl, T.nX, ptF_x _ _, _, rfl, b, C, dy, _, _, rfl, hb, T.cl, T.nY, ptF_y _ _, _, _, rfl, rfl, sx.mul st n0 n1, ?_⟩
    refine ⟨_, rfl, a, C, dx, _, _, rfl, ha, T.cl, T.nY, ptF_y _ _, _, rfl, b, C, dy, _, _, rfl, hb, T.cl, T.nX, ptF_x _ _, _, _, rfl, rfl, sy.mul sz n0 n1, ?_⟩
    exact ⟨_, _, rfl, rfl, k H' e⟩
theorem IsPt.opnd {v : V} {x y : Int} {H : Hp} (h : IsPt C v x y H) : (∃ b dy gs, v = .ref b ∧ H b = some (.ins C dy gs)) ∨ ∃ b xs, v = .ref b ∧ H b = some (.tup xs) := by
  obtain ⟨a, rfl, h⟩ := h
  rcases h with ⟨dx, h⟩ | h
  · exact .inl ⟨a, dx, _, rfl, h⟩
  · exact .inr ⟨a, _, rfl, h⟩
theorem cross_no (x y : Int) : (ptF x y).lookup ("cross" : Str) = none := ptF_no _ _ (by decide +kernel) (by decide +kernel)
theorem scQuarter : FnScope ["point", "old"] ["point"] (defScope sQuarter) := ⟨rfl, rfl, rfl, by decide +kernel, rfl, by decide +kernel, by decide +kernel⟩
theorem ok_quarter {f : Addr} {fd : FuncData} (F : Fun K "quarter" "quarter" sQuarter f fd) (D : Defs K mg C fW fI fP fA fO fdW fdI fdP fdA fdO) : FnOk P w K mg base CX0 5 f fd ["point"] (spQuarter C) := by
  have GA : FnOk P w K mg base CX0 4 fA fdA ["thing"] (spAsPoint C) := D.GA
  have GI : FnOk P w K mg base CX0 2 fI fdI ["self", "x", "y"] (spInit C) := D.GI
  have T := D.T
  refine F.ok scQuarter (fun vs H Q E h => ?_) (fun cdv A outer s H vs Q E hr h => ?_)
  · obtain ⟨v, x, y, rfl, _⟩ := h
    rfl
  · obtain ⟨v, x, y, rfl, hv, k⟩ := h
    refine ⟨_, pss_cons (ps_set (i := 1) scQuarter.nd rfl (Or.inl rfl) (pe_call GA hr rfl D.mA D.FA.kp D.bA .nil pass0 (pa_cons (pv 0) pa_nil)))
      (pss_one (ps_ret (pe_make D.M GI (hr.mono (by decide)) rfl T.mgC D.bI .nil pass0 (pa_cons (pe_un un_neg (pe_fld (pv 1) rfl)) (pa_cons (pe_fld (pv 1) rfl) pa_nil))))), ?_⟩
    refine ⟨_, rfl, v, x, y, rfl, hv, fun w H' e hw _ => ?_⟩
    obtain ⟨b, dy, rfl, hb⟩ := hw
    refine ⟨_, rfl, b, C, dy, _, _, rfl, hb, T.cl, T.nY, ptF_y _ _, _, rfl, ?_⟩
    refine ⟨_, rfl, b, C, dy, _, _, rfl, hb, T.cl, T.nX, ptF_x _ _, ?_⟩
    exact make_pt fun v H2 e2 h2 => k v H2 (e.trans e2) h2
def spMul (C : Addr) : Sp := fun vs H Q _ => ∃ (v : V) (x y m : Int), vs = [v, .int m] ∧ IsP C v x y H ∧ CMulW x m ∧ CMulW y m ∧ ∀ w H', Same H H' → IsP C w (x * m) (y * m) H' → Q w H'
theorem scMul : FnScope ["self", "other"] ["self", "other"] (defScope sMul) := ⟨rfl, rfl, rfl, by decide +kernel, rfl, by decide +kernel, by decide +kernel⟩
theorem ok_mul {f : Addr} {fd : FuncData} (F : Fun K "__mul__" "Point.__mul__" sMul f fd) (D : Defs K mg C fW fI fP fA fO fdW fdI fdP fdA fdO) : FnOk P w K mg base CX0 4 f fd ["self", "other"] (spMul C) := by
  have GW : FnOk P w K mg base CX0 1 fW fdW ["value"] spWhole := D.GW
  have GI : FnOk P w K mg base CX0 2 fI fdI ["self", "x", "y"] (spInit C) := D.GI
  have T := D.T
  refine F.ok scMul (fun vs H Q E h => ?_) (fun cdv A outer s H vs Q E hr h => ?_)
  · obtain ⟨v, x, y, m, rfl, _⟩ := h
    rfl
  · obtain ⟨v, x, y, m, rfl, hv, c1, c2, k⟩ := h
    refine ⟨_, pss_cons (ps_if (pt_not (pt_val (pe_call GW (hr.mono (by decide)) rfl D.mW D.FW.kp D.bW .nil pass0 (pa_cons (pv 1) pa_nil)))) (pss_one ps_never) pss_nil)
      (pss_one (ps_ret (pe_make D.M GI hr rfl T.mgC D.bI .nil pass0 (pa_cons (pe_op op_mulW (pe_fld (pv 0) rfl) (pv 1)) (pa_cons (pe_op op_mulW (pe_fld (pv 0) rfl) (pv 1)) pa_nil))))), ?_⟩
    refine ⟨_, rfl, m, rfl, true, rfl, ?_⟩
    refine iteF ?_
    obtain ⟨a, dx, rfl, ha⟩ := hv
    refine ⟨_, rfl, a, C, dx, _, _, rfl, ha, T.cl, T.nX, ptF_x _ _, _, rfl, _, _, rfl, rfl, c1, ?_⟩
    refine ⟨_, rfl, a, C, dx, _, _, rfl, ha, T.cl, T.nY, ptF_y _ _, _, rfl, _, _, rfl, rfl, c2, ?_⟩
    exact make_pt k
def spEqP (C : Addr) : Sp := fun vs H Q _ => ∃ (v u : V) (x y z t : Int), vs = [v, u] ∧ IsP C v x y H ∧ ((IsP C u z t H ∧ Q (.bl (decide (x = z) && decide (y = t))) H) ∨ ((∃ b xs, u = .ref b ∧ H b = some (.tup xs)) ∧ Q (.bl false) H))
theorem scEq : FnScope ["self", "other"] ["self", "other"] (defScope sEq) := ⟨rfl, rfl, rfl, by decide +kernel, rfl, by decide +kernel, by decide +kernel⟩
theorem ok_eq {f : Addr} {fd : FuncData} (F : Fun K "__eq__" "Point.__eq__" sEq f fd) (T : Txt K mg C) : FnOk P w K mg base CX0 1 f fd ["self", "other"] (spEqP C) := by
  refine F.ok scEq (fun vs H Q E h => ?_) (fun cdv A outer s H vs Q E hr h => ?_)
  · obtain ⟨v, u, x, y, z, t, rfl, _⟩ := h
    rfl
  · obtain ⟨v, u, x, y, z, t, rfl, ⟨a, dx, rfl, ha⟩, hu⟩ := h
    refine ⟨_, pss_one (ps_ret (pe_and (pe_callB call_isi (by rfl) T.isi (by decide +kernel) (pa_cons (pv 1) (pa_cons (pe_glob (v := .ref C) rfl T.mgC rfl) pa_nil)))
      (pe_and (pe_cmpR op_eq (pe_fld (pv 0) rfl) (pe_fld (pv 1) rfl) (nomark _)) (pe_one (pe_cmpR op_eq (pe_fld (pv 0) rfl) (pe_fld (pv 1) rfl) (nomark _)))))), ?_⟩
    rcases hu with ⟨⟨b, dy, rfl, hb⟩, k⟩ | ⟨⟨b, xs, rfl, hb⟩, k⟩
    · refine ⟨_, rfl, _, _, _, _, true, rfl, .own C, ty_ins T hb, T.kCC, true, rfl, ?_⟩
      refine iteT ?_
      refine ⟨_, rfl, a, C, dx, _, _, rfl, ha, T.cl, T.nX, ptF_x _ _, _, rfl, b, C, dy, _, _, rfl, hb, T.cl, T.nX, ptF_x _ _, rfl, _, rfl, ?_⟩
      have ei : ∀ i j : Int, decide (V.int i = V.int j) = decide (i = j) := fun i j => by
        by_cases h : i = j
        · rw [h, decide_eq_true rfl, decide_eq_true rfl]
        · rw [decide_eq_false h, decide_eq_false (fun q => h (by cases q; rfl))]
      rw [ei x z]
      by_cases hxz : x = z
      · rw [decide_eq_true hxz] at *
        refine iteT ?_
        refine ⟨_, rfl, a, C, dx, _, _, rfl, ha, T.cl, T.nY, ptF_y _ _, _, rfl, b, C, dy, _, _, rfl, hb, T.cl, T.nY, ptF_y _ _, rfl, ?_⟩
        rw [ei y t]
        simpa using k
      · rw [decide_eq_false hxz] at *
        refine iteF ?_
        simpa using k
    · refine ⟨_, rfl, _, _, _, _, false, rfl, .own C, .base (.tup hb), T.kTC, false, rfl, ?_⟩
      refine iteF ?_
      exact k
def spPairM (C : Addr) : Sp := fun vs H Q _ => ∃ (v : V) (x y : Int), vs = [v] ∧ IsP C v x y H ∧ ∀ q H', H q = none → Same H H' → H' q = some (.tup [.int x, .int y]) → Q (.ref q) H'
theorem scPairM : FnScope ["self"] ["self"] (defScope sPairM) := ⟨rfl, rfl, rfl, by decide +kernel, rfl, by decide +kernel, by decide +kernel⟩
theorem ok_pairM {f : Addr} {fd : FuncData} (F : Fun K "pair" "Point.pair" sPairM f fd) (T : Txt K mg C) : FnOk P w K mg base CX0 1 f fd ["self"] (spPairM C) := by
  refine F.ok scPairM (fun vs H Q E h => ?_) (fun cdv A outer s H vs Q E hr h => ?_)
  · obtain ⟨v, x, y, rfl, _⟩ := h
    rfl
  · obtain ⟨v, x, y, rfl, ⟨a, dx, rfl, ha⟩, k⟩ := h
    refine ⟨_, pss_one (ps_ret (pe_tup (pa_cons (pe_fld (pv 0) rfl) (pa_cons (pe_fld (pv 0) rfl) pa_nil)))), ?_⟩
    refine ⟨_, rfl, a, C, dx, _, _, rfl, ha, T.cl, T.nX, ptF_x _ _, _, rfl, a, C, dx, _, _, rfl, ha, T.cl, T.nY, ptF_y _ _, (by show 2 ≤ sizeLine; decide), fun t nt => ?_⟩
    exact k t _ nt (same_new nt) upd_same
end
end Fo
set_option Elab.async false
set_option linter.all false
set_option maxRecDepth 100000
set_option maxHeartbeats 2000000
namespace Fo
open PySem L2
/-! ### the law's own helpers: the pool and its draws -/
abbrev sHand : Stmt := top 24
abbrev sDraw : Stmt := top 25
/-- what stands but at p stands -/
def But (p : Addr) (H H' : Hp) : Prop := ∀ b o, b ≠ p → H b = some o → H' b = some o
theorem But.refl (p : Addr) (H : Hp) : But p H H := fun _ _ _ h => h
theorem But.trans {p : Addr} {H H1 H2 : Hp} (a : But p H H1) (b : But p H1 H2) : But p H H2 := fun c o n h => b c o n (a c o n h)
theorem But.upd {p : Addr} {H : Hp} {o : HO} : But p H (upd H p o) := fun b u n h => by
  rw [upd_ne n]
  exact h
theorem But.of {p : Addr} {H H' : Hp} (e : Same H H') : But p H H' := fun b o _ h => e b o h
/-- from a heap that does not know p -/
theorem But.same {p : Addr} {H0 H H' : Hp} (h0 : H0 p = none) (e : Same H0 H) (b : But p H H') : Same H0 H' := fun c o h => b c o (ne_of_none h h0) (e c o h)
def PoolAt (p : Addr) (H : Hp) : Prop := ∃ i j : Int, H p = some (.lst [.int i, .int j]) ∧ 0 ≤ i ∧ 0 ≤ j ∧ j < 2147483647
theorem PoolAt.ex {p : Addr} {H H' : Hp} (e : Same H H') (h : PoolAt p H) : PoolAt p H' := by
  obtain ⟨i, j, h, r⟩ := h
  exact ⟨i, j, e _ _ h, r⟩
def spHand (K : PySem.W.Frag) : Sp := fun vs H Q _ => ∃ (a : Addr) (ns : List Int) (k : Int), vs = [.ref a, .int k] ∧ SqL K H a (ns.map V.int) ∧ ns.length ≤ 63 ∧ 0 ≤ k ∧ k ≤ 100 ∧
  ∀ p H', H p = none → Same H H' → PoolAt p H' → Q (.ref p) H'
def spDraw : Sp := fun vs H Q _ => ∃ (p : Addr) (m : Int), vs = [.ref p, .int m] ∧ PoolAt p H ∧ 0 < m ∧ m < 1073741824 ∧
  ∀ r H', 0 ≤ r → r < m → But p H H' → PoolAt p H' → Q (.int r) H'
structure TxtL (mg : Str → Option Value) : Prop where
  int : mg "int" = none
  range : mg "range" = none
  max : mg "max" = none
  min : mg "min" = none
  len : mg "len" = none
theorem head_int {ns : List Int} {lo hi : Option Int} : ∃ c : Int, atI (cutV (ns.map V.int) lo hi ++ [V.int 0]) 0 = some (V.int c) := by
  have e : cutV (ns.map V.int) lo hi = ((ns.drop (HT.sIx (ns.map V.int).length 0 lo)).take (HT.sIx (ns.map V.int).length (ns.map V.int).length hi - HT.sIx (ns.map V.int).length 0 lo)).map V.int := by
    unfold cutV
    rw [← List.map_drop, ← List.map_take]
  rw [e]
  cases (ns.drop (HT.sIx (ns.map V.int).length 0 lo)).take (HT.sIx (ns.map V.int).length (ns.map V.int).length hi - HT.sIx (ns.map V.int).length 0 lo) with
  | nil => exact ⟨0, atI_nat (j := 0) rfl⟩
  | cons c r => exact ⟨c, atI_nat (j := 0) rfl⟩
section
variable {P : Program} {w : World} {K : PySem.W.Frag} {mg : Str → Option Value} {base : Heap}
theorem scHand : FnScope ["script", "k", "cell", "seed"] ["script", "k"] (defScope sHand) := ⟨rfl, rfl, rfl, by decide +kernel, rfl, by decide +kernel, by decide +kernel⟩
theorem ok_hand {f : Addr} {fd : FuncData} (F : Fun K "_law_hand" "_law_hand" sHand f fd) (T : TxtL mg) : FnOk P w K mg base CX0 1 f fd ["script", "k"] (spHand K) := by
  refine F.ok scHand (fun vs H Q E h => ?_) (fun cdv A outer s H vs Q E hr h => ?_)
  · obtain ⟨a, ns, k, rfl, _⟩ := h
    rfl
  · obtain ⟨a, ns, k, rfl, hS, hl, k0, k1, q⟩ := h
    refine ⟨_, pss_cons (ps_set (i := 2) scHand.nd rfl (Or.inl rfl) (pe_ix ix_list (pe_op op_cat (pe_slice sl_list (pv 0) (po_some (pv 1)) (po_some (pe_op op_add (pv 1) pe_int))) (pe_lst (pa_cons pe_int pa_nil))) pe_int (fun _ _ => rfl)))
      (pss_cons (ps_set (i := 3) scHand.nd rfl (Or.inl rfl) (pe_op op_mod (pe_op op_mul (pe_op op_add (pe_op op_add (pe_op op_mod (pe_callTy call_int1 (by rfl) T.int (by decide +kernel) (pa_cons (pv 2) pa_nil)) pe_int) (pe_op op_mul pe_int (pv 1))) pe_int) pe_int) pe_int))
      (pss_one (ps_ret (pe_lst (pa_cons (pe_op op_mul (pe_callTy call_int1 (by rfl) T.int (by decide +kernel) (pa_cons (pe_cmpR op_ge (pv 2) (pe_op op_pow pe_int pe_int) (nomark _)) pa_nil)) (pv 2)) (pa_cons (pv 3) pa_nil)))))), ?_⟩
    obtain ⟨c, hc⟩ := head_int (ns := ns) (lo := some k) (hi := some (k + 1))
    -- cell
    refine ⟨_, rfl, _, rfl, _, rfl, _, rfl, _, _, rfl, rfl, _, rfl, a, _, rfl, hS, fun p1 n1 => ?_⟩
    refine ⟨(by show 1 ≤ sizeLine; decide), fun p2 n2 => ?_⟩
    have ne12 : p1 ≠ p2 := fun q => by rw [← q, upd_same] at n2; cases n2
    refine ⟨p1, p2, _, _, rfl, rfl, (by rw [upd_ne ne12, upd_same]), upd_same, ?_, fun p3 n3 => ?_⟩
    · have := cutV_length (ns.map V.int) (some k) (some (k + 1))
      rw [List.length_map] at this
      show _ + 1 ≤ sizeLine
      exact Nat.le_trans (Nat.add_le_add_right this 1) (Nat.le_trans (Nat.add_le_add_right hl 1) (by decide))
    refine ⟨p3, _, _, _, rfl, rfl, SqL.of upd_same, hc, ?_⟩
    have e1 : Same H (upd H p1 (.lst (cutV (ns.map V.int) (some k) (some (k + 1))))) := same_new n1
    have e2 := e1.trans (same_new (o := .lst [V.int 0]) n2)
    have e3 := e2.trans (same_new (o := .lst (cutV (ns.map V.int) (some k) (some (k + 1)) ++ [V.int 0])) n3)
    -- seed
    refine ⟨_, rfl, .inl ⟨_, rfl, ?_⟩⟩
    refine ⟨_, _, rfl, rfl, (by show (0 : Int) < 2147483647; decide), _, rfl, _, _, rfl, rfl, .inl ⟨by decide, by decide⟩, _, _, rfl, rfl, _, _, rfl, rfl, _, _, rfl, rfl, .inr ⟨by decide, by decide⟩, _, _, rfl, rfl, (by show (0 : Int) < 2147483629; decide), ?_⟩
    -- the list
    refine ⟨_, rfl, _, _, rfl, rfl, ⟨by decide, by decide, by decide⟩, _, _, rfl, rfl, .inr ⟨_, rfl, ?_⟩⟩
    refine ⟨_, rfl, _, _, rfl, rfl, .inl ?_, _, rfl, (by show 2 ≤ sizeLine; decide), fun p4 n4 => ?_⟩
    · split <;> exact ⟨by decide, by decide⟩
    · refine q p4 _ (Same.free e3 n4) (e3.trans (same_new n4)) ⟨_, _, upd_same, ?_, ?_, ?_⟩
      · by_cases hb : (10 : Int) ^ (18 : Int).toNat ≤ c
        · have h0 : (0 : Int) ≤ (10 : Int) ^ (18 : Int).toNat := by decide
          rw [decide_eq_true hb]
          show 0 ≤ 1 * c
          omega
        · rw [decide_eq_false hb]
          show 0 ≤ 0 * c
          omega
      · exact Int.emod_nonneg _ (by decide)
      · exact Int.lt_trans (Int.emod_lt_of_pos _ (by decide)) (by decide)
theorem scDraw : FnScope ["pool", "many", "found"] ["pool", "many"] (defScope sDraw) := ⟨rfl, rfl, rfl, by decide +kernel, rfl, by decide +kernel, by decide +kernel⟩
theorem ok_draw {f : Addr} {fd : FuncData} (F : Fun K "_law_draw" "_law_draw" sDraw f fd) (T : TxtL mg) : FnOk P w K mg base CX0 1 f fd ["pool", "many"] spDraw := by
  refine F.ok scDraw (fun vs H Q E h => ?_) (fun cdv A outer s H vs Q E hr h => ?_)
  · obtain ⟨p, m, rfl, _⟩ := h
    rfl
  · obtain ⟨p, m, rfl, ⟨i, j, hp, i0, j0, j1⟩, m0, m1, q⟩ := h
    refine ⟨_, pss_cons (ps_if (pt_cmpR op_gt (pe_ix ix_list (pv 0) pe_int (fun _ _ => rfl)) pe_int (nomark _))
        (pss_cons (ps_set (i := 2) scDraw.nd rfl (Or.inl rfl) (pe_op op_mod (pe_callTy call_int1 (by rfl) T.int (by decide +kernel) (pa_cons (pe_ix ix_list (pv 0) pe_int (fun _ _ => rfl)) pa_nil)) (pv 1)))
        (pss_cons (ps_asg (pe_op op_fdiv (pe_ix ix_list (pv 0) pe_int (fun _ _ => rfl)) (pv 1)) (pg_sub (pv 0) pe_int set_list))
        (pss_one (ps_ret (pv 2))))) pss_nil)
      (pss_cons (ps_asg (pe_op op_mod (pe_callTy call_int1 (by rfl) T.int (by decide +kernel) (pa_cons (pe_op op_add (pe_op op_mul (pe_ix ix_list (pv 0) pe_int (fun _ _ => rfl)) pe_int) pe_int) pa_nil)) pe_int) (pg_sub (pv 0) pe_int set_list))
      (pss_one (ps_ret (pe_op op_mod (pe_op op_fdiv (pe_op op_mod (pe_callTy call_int1 (by rfl) T.int (by decide +kernel) (pa_cons (pe_op op_mul (pe_ix ix_list (pv 0) pe_int (fun _ _ => rfl)) (pe_ix ix_list (pv 0) pe_int (fun _ _ => rfl))) pa_nil)) pe_int) pe_int) (pv 1))))), ?_⟩
    refine ⟨_, rfl, p, _, _, _, rfl, rfl, SqL.of hp, atI_nat (j := 0) rfl, _, _, rfl, rfl, _, rfl, ?_⟩
    refine ite2 (fun hi => ?_) (fun hi => ?_)
    · refine ⟨_, rfl, p, _, _, _, rfl, rfl, SqL.of hp, atI_nat (j := 0) rfl, .inl ⟨_, rfl, ?_⟩⟩
      refine ⟨_, rfl, _, _, rfl, rfl, m0, ?_⟩
      refine ⟨_, rfl, p, _, _, _, rfl, rfl, SqL.of hp, atI_nat (j := 0) rfl, _, rfl, _, _, rfl, rfl, ⟨m0, m1⟩, ?_⟩
      refine ⟨_, rfl, p, _, _, 0, rfl, rfl, hp, rfl, ?_⟩
      refine ⟨_, rfl, ?_⟩
      refine q _ _ (Int.emod_nonneg _ (by omega)) (Int.emod_lt_of_pos _ m0) But.upd ⟨_, _, upd_same, Int.ediv_nonneg i0 (by omega), j0, j1⟩
    · refine ⟨_, rfl, p, _, _, _, rfl, rfl, SqL.of hp, atI_nat (j := 1) rfl, _, _, rfl, rfl, .inr ⟨by decide, by decide⟩, _, _, rfl, rfl, .inl ⟨_, rfl, ?_⟩⟩
      refine ⟨_, _, rfl, rfl, (by show (0 : Int) < 2147483647; decide), ?_⟩
      refine ⟨_, rfl, p, _, _, 1, rfl, rfl, hp, rfl, ?_⟩
      have a0 : (0 : Int) ≤ (j * 48271 + 11) % 2147483647 := Int.emod_nonneg _ (by decide)
      have a1 : (j * 48271 + 11) % 2147483647 < (2147483647 : Int) := Int.emod_lt_of_pos _ (by decide)
      refine ⟨_, rfl, p, _, _, _, rfl, rfl, SqL.of upd_same, atI_nat (j := 1) rfl, _, rfl, p, _, _, _, rfl, rfl, SqL.of upd_same, atI_nat (j := 1) rfl, _, _, rfl, rfl, .inl ⟨by omega, by omega⟩, .inl ⟨_, rfl, ?_⟩⟩
      refine ⟨_, _, rfl, rfl, (by show (0 : Int) < 2147483629; decide), _, _, rfl, rfl, ⟨by decide, by decide⟩, _, rfl, _, _, rfl, rfl, m0, ?_⟩
      exact q _ _ (Int.emod_nonneg _ (by omega)) (Int.emod_lt_of_pos _ m0) But.upd ⟨_, _, upd_same, i0, a0, a1⟩
end
end Fo
set_option Elab.async false
set_option linter.all false
set_option maxRecDepth 100000
set_option maxHeartbeats 2000000
namespace Fo
open PySem L2
/-! ### filledonce.directions -/
abbrev sSign : Stmt := top 7
abbrev sGcd : Stmt := top 8
abbrev sAsDir : Stmt := top 17
abbrev sKind : Stmt := top 18
abbrev sLow : Stmt := top 19
abbrev sBefore : Stmt := top 22
abbrev sPlace : Stmt := top 21
abbrev sSorted : Stmt := top 20
def sgn (i : Int) : Int := if 0 < i then 1 else if i < 0 then -1 else 0
def spSign : Sp := fun vs H Q _ => ∃ i : Int, vs = [.int i] ∧ Q (.int (sgn i)) H
def spGcd : Sp := fun vs H Q _ => ∃ a b : Int, vs = [.int a, .int b] ∧ Q (.int (Int.gcd a b : Int)) H
def spAsDir (C : Addr) : Sp := fun vs H Q _ => ∃ (v : V) (x y : Int), vs = [v] ∧ IsPt C v x y H ∧ Dir (x, y) ∧ ∀ w H', Same H H' → IsP C w x y H' → (IsP C v x y H → w = v) → Q w H'
def spKind (C : Addr) : Sp := fun vs H Q _ => ∃ (v : V) (x y : Int), vs = [v] ∧ IsPt C v x y H ∧ Dir (x, y) ∧ ∀ H', Same H H' → Q (.int (kd (x, y) : Int)) H'
def spLow (C : Addr) : Sp := fun vs H Q _ => ∃ (n : Nat) (v : V) (x y : Int), vs = [v] ∧ IsPt C v x y H ∧ Dir (x, y) ∧ 0 < n ∧ n ≤ 1000 ∧ Sm n x ∧ Sm n y ∧ ∀ w H', Same H H' → IsP C w (low (x, y)).1 (low (x, y)).2 H' → Q w H'
def spBefore (C : Addr) : Sp := fun vs H Q _ => ∃ (n : Nat) (v u : V) (x y z t : Int), vs = [v, u] ∧ IsP C v x y H ∧ IsP C u z t H ∧ Dir (x, y) ∧ Dir (z, t) ∧ 0 < n ∧ n ≤ 1000 ∧ Sm n x ∧ Sm n y ∧ Sm n z ∧ Sm n t ∧ ∀ H', Same H H' → Q (.bl (bef (x, y) (z, t))) H'
/-- the eight pairs of signs, as data -/
def sgD : List PyData := [.tuple [.int 1, .int 0], .tuple [.int 1, .int 1], .tuple [.int 0, .int 1], .tuple [.int (-1), .int 1], .tuple [.int (-1), .int 0], .tuple [.int (-1), .int (-1)], .tuple [.int 0, .int (-1)], .tuple [.int 1, .int (-1)]]
/-- SIGNS as it stands -/
structure SignsAt (K : PySem.W.Frag) (mg : Str → Option Value) (a : Addr) : Prop where
  mg : mg "SIGNS" = some (.ref a)
  ty : ∃ o, K.lookup a = some o ∧ o.cls = .type "tuple" ∧ o.dict = none
  dp : ∀ H : Hp, Dp K H (.ref a) (.tuple sgD)
theorem sg_shaped : SeqAt.shaped (.tuple sgD) = true := by decide +kernel
theorem sg1_shaped (i j : Int) : SeqAt.shaped (.tuple [.int i, .int j]) = true := rfl
theorem kd_index {a : Int × Int} (h : Dir a) : sgD[kd a]? = some (.tuple [.int (sgn a.1), .int (sgn a.2)]) ∧
    ∀ (m : Nat) (z : PyData), m < kd a → sgD[m]? = some z → PyData.eqv z (.tuple [.int (sgn a.1), .int (sgn a.2)]) = false := by
  obtain ⟨x, y⟩ := a
  have hx : sgn x = 1 ∨ sgn x = 0 ∨ sgn x = -1 := by
    unfold sgn
    repeat' split
    all_goals omega
  have hy : sgn y = 1 ∨ sgn y = 0 ∨ sgn y = -1 := by
    unfold sgn
    repeat' split
    all_goals omega
  have hk : (sgn x = 1 → sgn y = 0 → kd (x, y) = 0) ∧ (sgn x = 1 → sgn y = 1 → kd (x, y) = 1) ∧ (sgn x = 0 → sgn y = 1 → kd (x, y) = 2) ∧ (sgn x = -1 → sgn y = 1 → kd (x, y) = 3) ∧ (sgn x = -1 → sgn y = 0 → kd (x, y) = 4) ∧
      (sgn x = -1 → sgn y = -1 → kd (x, y) = 5) ∧ (sgn x = 0 → sgn y = -1 → kd (x, y) = 6) ∧ (sgn x = 1 → sgn y = -1 → kd (x, y) = 7) ∧ ¬ (sgn x = 0 ∧ sgn y = 0) := by
    unfold sgn kd Dir at *
    simp only at *
    repeat' split
    all_goals omega
  obtain ⟨k0, k1, k2, k3, k4, k5, k6, k7, k8⟩ := hk
  rcases hx with hx | hx | hx <;> rcases hy with hy | hy | hy <;> simp only [hx, hy] at *
  · rw [k1 trivial trivial]
    refine ⟨rfl, fun m z hm hz => ?_⟩
    have : m = 0 := by omega
    subst this
    cases hz
    decide +kernel
  · rw [k0 trivial trivial]
    exact ⟨rfl, fun m z hm hz => absurd hm (Nat.not_lt_zero _)⟩
  · rw [k7 trivial trivial]
    refine ⟨rfl, fun m z hm hz => ?_⟩
    have : m = 0 ∨ m = 1 ∨ m = 2 ∨ m = 3 ∨ m = 4 ∨ m = 5 ∨ m = 6 := by omega
    rcases this with rfl | rfl | rfl | rfl | rfl | rfl | rfl <;> (cases hz; decide +kernel)
  · rw [k2 trivial trivial]
    refine ⟨rfl, fun m z hm hz => ?_⟩
    have : m = 0 ∨ m = 1 := by omega
    rcases this with rfl | rfl <;> (cases hz; decide +kernel)
  · exact absurd ⟨trivial, trivial⟩ k8
  · rw [k6 trivial trivial]
    refine ⟨rfl, fun m z hm hz => ?_⟩
    have : m = 0 ∨ m = 1 ∨ m = 2 ∨ m = 3 ∨ m = 4 ∨ m = 5 := by omega
    rcases this with rfl | rfl | rfl | rfl | rfl | rfl <;> (cases hz; decide +kernel)
  · rw [k3 trivial trivial]
    refine ⟨rfl, fun m z hm hz => ?_⟩
    have : m = 0 ∨ m = 1 ∨ m = 2 := by omega
    rcases this with rfl | rfl | rfl <;> (cases hz; decide +kernel)
  · rw [k4 trivial trivial]
    refine ⟨rfl, fun m z hm hz => ?_⟩
    have : m = 0 ∨ m = 1 ∨ m = 2 ∨ m = 3 := by omega
    rcases this with rfl | rfl | rfl | rfl <;> (cases hz; decide +kernel)
  · rw [k5 trivial trivial]
    refine ⟨rfl, fun m z hm hz => ?_⟩
    have : m = 0 ∨ m = 1 ∨ m = 2 ∨ m = 3 ∨ m = 4 := by omega
    rcases this with rfl | rfl | rfl | rfl | rfl <;> (cases hz; decide +kernel)
theorem eqv_self (i j : Int) : PyData.eqv (.tuple [.int i, .int j]) (.tuple [.int i, .int j]) = true := SeqAt.eqv_refl _ rfl
section
variable {P : Program} {w : World} {K : PySem.W.Frag} {mg : Str → Option Value} {base : Heap}
theorem scSign : FnScope ["number"] ["number"] (defScope sSign) := ⟨rfl, rfl, rfl, by decide +kernel, rfl, by decide +kernel, by decide +kernel⟩
theorem ok_sign {f : Addr} {fd : FuncData} (F : Fun K "sign" "sign" sSign f fd) : FnOk P w K mg base CX0 1 f fd ["number"] spSign := by
  refine F.ok scSign (fun vs H Q E h => ?_) (fun cdv A outer s H vs Q E hr h => ?_)
  · obtain ⟨i, rfl, _⟩ := h
    rfl
  · obtain ⟨i, rfl, k⟩ := h
    refine ⟨_, pss_cons (ps_if (pt_cmpR op_gt (pv 0) pe_int (nomark _)) (pss_one (ps_ret pe_int)) pss_nil) (pss_cons (ps_if (pt_cmpR op_lt (pv 0) pe_int (nomark _)) (pss_one (ps_ret (pe_un un_neg pe_int))) pss_nil) (pss_one (ps_ret pe_int))), ?_⟩
    unfold sgn at k
    refine ⟨_, rfl, _, _, rfl, rfl, _, rfl, ite2 (fun h1 => ?_) (fun h1 => ?_)⟩
    · have h1 : 0 < i := of_decide_eq_true h1
      rw [if_pos h1] at k
      exact k
    · have h1 : ¬ 0 < i := fun z => h1 (decide_eq_true z)
      rw [if_neg h1] at k
      refine ⟨_, rfl, _, _, rfl, rfl, _, rfl, ite2 (fun h2 => ?_) (fun h2 => ?_)⟩
      · have h2 : i < 0 := of_decide_eq_true h2
        rw [if_pos h2] at k
        exact ⟨_, rfl, k⟩
      · have h2 : ¬ i < 0 := fun z => h2 (decide_eq_true z)
        rw [if_neg h2] at k
        exact k
theorem scGcd : FnScope ["one", "other", "kept", "rest"] ["one", "other"] (defScope sGcd) := ⟨rfl, rfl, rfl, by decide +kernel, rfl, by decide +kernel, by decide +kernel⟩
theorem ok_gcd {f : Addr} {fd : FuncData} (F : Fun K "common_divisor" "common_divisor" sGcd f fd) (zA : mg "abs" = none) : FnOk P w K mg base CX0 1 f fd ["one", "other"] spGcd := by
  refine F.ok scGcd (fun vs H Q E h => ?_) (fun cdv A outer s H vs Q E hr h => ?_)
  · obtain ⟨a, b, rfl, _⟩ := h
    rfl
  · obtain ⟨a, b, rfl, k⟩ := h
    refine ⟨_, pss_cons (ps_set (i := 2) scGcd.nd rfl (Or.inl rfl) (pe_callB call_abs (by rfl) zA (by decide +kernel) (pa_cons (pv 0) pa_nil)))
      (pss_cons (ps_set (i := 3) scGcd.nd rfl (Or.inl rfl) (pe_callB call_abs (by rfl) zA (by decide +kernel) (pa_cons (pv 1) pa_nil)))
      (pss_cons (ps_while PassesOwn.never (pt_cmpR op_gt (pv 3) pe_int (nomark _)) (pss_one (ps_par (i := 2) (j := 3) (by rfl) scGcd.nd rfl rfl (by decide) rfl rfl (pa_cons (pv 3) (pa_cons (pe_op op_mod (pv 2) (pv 3)) pa_nil)) (by rfl))))
      (pss_one (ps_ret (pv 2))))), ?_⟩
    refine ⟨_, rfl, _, rfl, _, rfl, _, rfl, ?_⟩
    have ab : ∀ z : Int, (if z < 0 then -z else z) = (z.natAbs : Int) := fun z => by
      split <;> omega
    rw [ab a, ab b]
    refine ⟨fun m σ H' => ∃ p r : Nat, σ = [some (.int a), some (.int b), some (.int (p : Int)), some (.int (r : Int))] ∧ H' = H ∧ Nat.gcd p r = Int.gcd a b ∧ m = r, ⟨b.natAbs, a.natAbs, b.natAbs, rfl, rfl, rfl, rfl⟩, ?_⟩
    rintro m σ H' ⟨p, r, rfl, rfl, hg, rfl⟩
    refine ⟨_, rfl, _, _, rfl, rfl, _, rfl, ?_⟩
    by_cases h0 : (0 : Int) < (m : Int)
    · rw [decide_eq_true h0]
      refine iteT ?_
      refine ⟨fun σ' H2 => ∃ p' r' : Nat, σ' = [some (.int a), some (.int b), some (.int (p' : Int)), some (.int (r' : Int))] ∧ H2 = H' ∧ Nat.gcd p' r' = Int.gcd a b ∧ r' < m, ?_, ?_⟩
      · rintro σ' H'' ⟨p', r', rfl, rfl, hg', hl⟩
        exact ⟨r', hl, p', r', rfl, rfl, hg', rfl⟩
      · refine ⟨_, rfl, _, rfl, _, rfl, _, _, rfl, rfl, h0, _, _, rfl, ?_⟩
        refine ⟨m, p % m, ?_, rfl, ?_, Nat.mod_lt _ (by omega)⟩
        · rw [Int.natCast_emod]
          rfl
        · rw [← hg, Nat.gcd_comm p m, Nat.gcd_rec m p, Nat.gcd_comm]
    · rw [decide_eq_false h0]
      refine iteF ?_
      have m0 : m = 0 := by omega
      subst m0
      rw [Nat.gcd_zero_right] at hg
      refine ⟨_, rfl, ?_⟩
      rw [hg]
      exact k
variable {C fW fI fP fA fO : Addr} {fdW fdI fdP fdA fdO : FuncData}
theorem scAsDir : FnScope ["thing", "way"] ["thing"] (defScope sAsDir) := ⟨rfl, rfl, rfl, by decide +kernel, rfl, by decide +kernel, by decide +kernel⟩
theorem ok_as_dir {f : Addr} {fd : FuncData} (F : Fun K "as_direction" "as_direction" sAsDir f fd) (D : Defs K mg C fW fI fP fA fO fdW fdI fdP fdA fdO) : FnOk P w K mg base CX0 5 f fd ["thing"] (spAsDir C) := by
  have GA : FnOk P w K mg base CX0 4 fA fdA ["thing"] (spAsPoint C) := D.GA
  have T := D.T
  refine F.ok scAsDir (fun vs H Q E h => ?_) (fun cdv A outer s H vs Q E hr h => ?_)
  · obtain ⟨v, x, y, rfl, _⟩ := h
    rfl
  · obtain ⟨v, x, y, rfl, hv, hd, k⟩ := h
    refine ⟨_, pss_cons (ps_set (i := 1) scAsDir.nd rfl (Or.inl rfl) (pe_call GA hr rfl D.mA D.FA.kp D.bA .nil pass0 (pa_cons (pv 0) pa_nil)))
      (pss_cons (ps_if (PW.pt (pw_and (pt_cmpR op_eq (pe_fld (pv 1) rfl) pe_int (nomark _)) (pw_and1 (pt_cmpR op_eq (pe_fld (pv 1) rfl) pe_int (nomark _))))) (pss_one ps_never) pss_nil)
      (pss_one (ps_ret (pv 1)))), ?_⟩
    refine ⟨_, rfl, v, x, y, rfl, hv, fun w H' e hw hid => ?_⟩
    obtain ⟨b, dy, rfl, hb⟩ := id hw
    refine ⟨_, rfl, b, C, dy, _, _, rfl, hb, T.cl, T.nX, ptF_x _ _, rfl, _, rfl, ?_⟩
    have ni : ∀ i : Int, i ≠ 0 → decide (V.int i = V.int 0) = false := fun i hi => decide_eq_false (fun q => hi (by cases q; rfl))
    by_cases hx : x = 0
    · have hy : y ≠ 0 := by
        rcases hd with h | h
        · exact absurd hx h
        · exact h
      subst hx
      rw [decide_eq_true rfl]
      refine iteT ?_
      refine ⟨_, rfl, b, C, dy, _, _, rfl, hb, T.cl, T.nY, ptF_y _ _, rfl, _, rfl, ?_⟩
      rw [ni y hy]
      refine iteF ?_
      exact ⟨_, rfl, k _ H' e hw hid⟩
    · rw [ni x hx]
      refine iteF ?_
      refine iteF ?_
      exact ⟨_, rfl, k _ H' e hw hid⟩
end
end Fo
set_option Elab.async false
set_option linter.all false
set_option maxRecDepth 100000
set_option maxHeartbeats 2000000
namespace Fo
open PySem L2
theorem u65 {k : Nat} {A : Around} (r : Room k A) : A.units + 65 < cLine := by
  have := r.un
  omega
/-- what the order needs: points of the heap with their numbers -/
abbrev Ent := Addr × (Int × Int)
def Ents (C : Addr) (n : Nat) (es : List Ent) (H : Hp) : Prop := ∀ e ∈ es, IsP C (.ref e.1) e.2.1 e.2.2 H ∧ Dir e.2 ∧ Sm n e.2.1 ∧ Sm n e.2.2
theorem Ents.ex {C : Addr} {n : Nat} {es : List Ent} {H H' : Hp} (e : Same H H') (h : Ents C n es H) : Ents C n es H' := fun x hx => ⟨(h x hx).1.ex e, (h x hx).2⟩
theorem Ents.dirs {C : Addr} {n : Nat} {es : List Ent} {H : Hp} (h : Ents C n es H) : Dirs Prod.snd es := fun x hx => (h x hx).2.1
theorem IsP.but {C : Addr} {v : V} {x y : Int} {D : Addr} {xs : List V} {H H' : Hp} (hD : H D = some (.lst xs)) (b : But D H H') (h : IsP C v x y H) : IsP C v x y H' := by
  obtain ⟨a, dx, rfl, h⟩ := h
  exact ⟨a, dx, rfl, b _ _ (ne_of h hD (by intro z; cases z)) h⟩
theorem IsPt.but {C : Addr} {v : V} {x y : Int} {D : Addr} {xs : List V} {H H' : Hp} (hD : H D = some (.lst xs)) (b : But D H H') (h : IsPt C v x y H) : IsPt C v x y H' := by
  obtain ⟨a, rfl, h⟩ := h
  rcases h with ⟨dx, h⟩ | h
  · exact ⟨a, rfl, .inl ⟨dx, b _ _ (ne_of h hD (by intro z; cases z)) h⟩⟩
  · exact ⟨a, rfl, .inr (b _ _ (ne_of h hD (by intro z; cases z)) h)⟩
theorem Ents.but {C : Addr} {n : Nat} {es : List Ent} {D : Addr} {xs : List V} {H H' : Hp} (hD : H D = some (.lst xs)) (b : But D H H') (h : Ents C n es H) : Ents C n es H' := fun x hx => ⟨(h x hx).1.but hD b, (h x hx).2⟩
def refs (es : List Ent) : List V := es.map fun e => V.ref e.1
def spPlace (C : Addr) : Sp := fun vs H Q _ => ∃ (n : Nat) (v : V) (x y : Int) (l : Addr) (es : List Ent), vs = [v, .ref l] ∧ IsP C v x y H ∧ Dir (x, y) ∧ Sm n x ∧ Sm n y ∧ 0 < n ∧ n ≤ 1000 ∧ H l = some (.lst (refs es)) ∧ es.length ≤ 1000 ∧ Ents C n es H ∧ Srt Prod.snd es ∧
  ∀ (i : Nat) H', Same H H' → i ≤ es.length → (∀ j (h : j < es.length), j < i → bef (x, y) es[j].2 = false) → (∀ j (h : j < es.length), i ≤ j → bef (x, y) es[j].2 = true) → Q (.int (i : Int)) H'
/-- the list that is asked: each its numbers -/
def Asked (C : Addr) (n : Nat) (xs : List V) (ps : List (Int × Int)) (H : Hp) : Prop := xs.length = ps.length ∧ ∀ (i : Nat) x p, xs[i]? = some x → ps[i]? = some p → IsPt C x p.1 p.2 H ∧ Dir p ∧ Sm n p.1 ∧ Sm n p.2
def spSorted (C : Addr) (K : PySem.W.Frag) : Sp := fun vs H Q _ => ∃ (n : Nat) (l : Addr) (xs : List V) (ps : List (Int × Int)), vs = [.ref l] ∧ SqL K H l xs ∧ xs.length ≤ 1000 ∧ 0 < n ∧ n ≤ 1000 ∧ Asked C n xs ps H ∧
  ∀ D H' (es : List Ent), H D = none → Same H H' → H' D = some (.lst (refs (sortB Prod.snd es))) → Ents C n es H' → es.map Prod.snd = ps →
    (∀ (i : Nat) x e, xs[i]? = some x → es[i]? = some e → IsP C x e.2.1 e.2.2 H → V.ref e.1 = x) → Q (.ref D) H'
section
variable {P : Program} {w : World} {K : PySem.W.Frag} {mg : Str → Option Value} {base : Heap} {C fW fI fP fA fO : Addr} {fdW fdI fdP fdA fdO : FuncData}
/-- the defs of directions, as they stand -/
structure DDefs (K : PySem.W.Frag) (mg : Str → Option Value) (C aS fSg fG fDr fK fL fX fB fPl : Addr) (fdSg fdG fdDr fdK fdL fdX fdB fdPl : FuncData) : Prop where
  S : SignsAt K mg aS
  zA : mg "abs" = none
  FSg : Fun K "sign" "sign" sSign fSg fdSg
  bSg : Binds K fdSg ["number"] []
  mSg : mg "sign" = some (.ref fSg)
  FG : Fun K "common_divisor" "common_divisor" sGcd fG fdG
  bG : Binds K fdG ["one", "other"] []
  mG : mg "common_divisor" = some (.ref fG)
  FDr : Fun K "as_direction" "as_direction" sAsDir fDr fdDr
  bDr : Binds K fdDr ["thing"] []
  mDr : mg "as_direction" = some (.ref fDr)
  FK : Fun K "kind_of" "kind_of" sKind fK fdK
  bK : Binds K fdK ["direction"] []
  mK : mg "kind_of" = some (.ref fK)
  FL : Fun K "lowest" "lowest" sLow fL fdL
  bL : Binds K fdL ["direction"] []
  mL : mg "lowest" = some (.ref fL)
  FX : Fun K "cross" "Point.cross" sCross fX fdX
  bX : Binds K fdX ["self", "other"] []
  mX : Meth K C "cross" fX
  FB : Fun K "comes_before" "comes_before" sBefore fB fdB
  bB : Binds K fdB ["way", "other"] []
  mB : mg "comes_before" = some (.ref fB)
  FPl : Fun K "place_for" "place_for" sPlace fPl fdPl
  bPl : Binds K fdPl ["way", "placed"] []
  mPl : mg "place_for" = some (.ref fPl)
variable {aS fSg fG fDr fK fL fX fB fPl : Addr} {fdSg fdG fdDr fdK fdL fdX fdB fdPl : FuncData}
theorem scKind : FnScope ["direction", "way"] ["direction"] (defScope sKind) := ⟨rfl, rfl, rfl, by decide +kernel, rfl, by decide +kernel, by decide +kernel⟩
theorem DDefs.GK (d : DDefs K mg C aS fSg fG fDr fK fL fX fB fPl fdSg fdG fdDr fdK fdL fdX fdB fdPl) (D : Defs K mg C fW fI fP fA fO fdW fdI fdP fdA fdO) : FnOk P w K mg base CX0 6 fK fdK ["direction"] (spKind C) := by
  have GD : FnOk P w K mg base CX0 5 fDr fdDr ["thing"] (spAsDir C) := ok_as_dir d.FDr D
  have GS : FnOk P w K mg base CX0 1 fSg fdSg ["number"] spSign := ok_sign d.FSg
  have T := D.T
  refine d.FK.ok scKind (fun vs H Q E h => ?_) (fun cdv A outer s H vs Q E hr h => ?_)
  · obtain ⟨v, x, y, rfl, _⟩ := h
    rfl
  · obtain ⟨v, x, y, rfl, hv, hd, k⟩ := h
    have hr1 : Room 1 _ := hr.mono (by decide)
    refine ⟨_, pss_cons (ps_set (i := 1) scKind.nd rfl (Or.inl rfl) (pe_call GD hr rfl d.mDr d.FDr.kp d.bDr .nil pass0 (pa_cons (pv 0) pa_nil)))
      (pss_one (ps_ret (pe_bm PySem.F.plainAttrs_tuple PySem.F.slot_tuple_index PySem.F.type_tuple_index (mt_tindexD (u65 hr)) (pe_glob (v := .ref aS) rfl d.S.mg rfl)
        (pa_cons (pe_tup (pa_cons (pe_call GS hr1 rfl d.mSg d.FSg.kp d.bSg .nil pass0 (pa_cons (pe_fld (pv 1) rfl) pa_nil)) (pa_cons (pe_call GS hr1 rfl d.mSg d.FSg.kp d.bSg .nil pass0 (pa_cons (pe_fld (pv 1) rfl) pa_nil)) pa_nil))) pa_nil)))), ?_⟩
    refine ⟨_, rfl, v, x, y, rfl, hv, hd, fun w H' e hw _ => ?_⟩
    obtain ⟨b, dy, rfl, hb⟩ := hw
    obtain ⟨o, ho⟩ := d.S.ty
    refine ⟨.inr (.inl ⟨rfl, o, ho⟩), ?_⟩
    refine ⟨_, rfl, b, C, dy, _, _, rfl, hb, T.cl, T.nX, ptF_x _ _, x, rfl, _, rfl, b, C, dy, _, _, rfl, hb, T.cl, T.nY, ptF_y _ _, y, rfl, (by show 2 ≤ sizeLine; decide), fun t nt => ?_⟩
    have hi := kd_index hd
    exact ⟨aS, .ref t, _, _, kd (x, y), _, rfl, rfl, d.S.dp _, .tup (SqT.of upd_same) (.cons (.int _) (.cons (.int _) .nil)), sg_shaped, sg1_shaped _ _, hi.1, eqv_self _ _, hi.2, k _ (e.trans (same_new nt))⟩
theorem Sm.gcd {n : Nat} {x y : Int} (hd : Dir (x, y)) (hx : Sm n x) (hy : Sm n y) : (gcI (x, y)).natAbs < 2 ^ n := by
  unfold gcI
  unfold Sm at hx hy
  simp only [Int.natAbs_natCast]
  rcases hd with h | h
  · have h : x ≠ 0 := h
    exact Nat.lt_of_le_of_lt (Nat.le_of_dvd (by omega) (Nat.gcd_dvd_left ..)) hx
  · have h : y ≠ 0 := h
    exact Nat.lt_of_le_of_lt (Nat.le_of_dvd (by omega) (Nat.gcd_dvd_right ..)) hy
theorem scLow : FnScope ["direction", "way", "parts"] ["direction"] (defScope sLow) := ⟨rfl, rfl, rfl, by decide +kernel, rfl, by decide +kernel, by decide +kernel⟩
theorem DDefs.GL (d : DDefs K mg C aS fSg fG fDr fK fL fX fB fPl fdSg fdG fdDr fdK fdL fdX fdB fdPl) (D : Defs K mg C fW fI fP fA fO fdW fdI fdP fdA fdO) : FnOk P w K mg base CX0 6 fL fdL ["direction"] (spLow C) := by
  have GD : FnOk P w K mg base CX0 5 fDr fdDr ["thing"] (spAsDir C) := ok_as_dir d.FDr D
  have GG : FnOk P w K mg base CX0 1 fG fdG ["one", "other"] spGcd := ok_gcd d.FG d.zA
  have GI : FnOk P w K mg base CX0 2 fI fdI ["self", "x", "y"] (spInit C) := D.GI
  have T := D.T
  refine d.FL.ok scLow (fun vs H Q E h => ?_) (fun cdv A outer s H vs Q E hr h => ?_)
  · obtain ⟨n, v, x, y, rfl, _⟩ := h
    rfl
  · obtain ⟨n, v, x, y, rfl, hv, hd, n0, n1, sx, sy, k⟩ := h
    refine ⟨_, pss_cons (ps_set (i := 1) scLow.nd rfl (Or.inl rfl) (pe_call GD hr rfl d.mDr d.FDr.kp d.bDr .nil pass0 (pa_cons (pv 0) pa_nil)))
      (pss_cons (ps_set (i := 2) scLow.nd rfl (Or.inl rfl) (pe_call GG (hr.mono (by decide)) rfl d.mG d.FG.kp d.bG .nil pass0 (pa_cons (pe_fld (pv 1) rfl) (pa_cons (pe_fld (pv 1) rfl) pa_nil))))
      (pss_one (ps_ret (pe_make D.M GI (hr.mono (by decide)) rfl T.mgC D.bI .nil pass0 (pa_cons (pe_op op_fdivW (pe_fld (pv 1) rfl) (pv 2)) (pa_cons (pe_op op_fdivW (pe_fld (pv 1) rfl) (pv 2)) pa_nil)))))), ?_⟩
    refine ⟨_, rfl, v, x, y, rfl, hv, hd, fun w H' e hw _ => ?_⟩
    obtain ⟨b, dy, rfl, hb⟩ := hw
    refine ⟨_, rfl, b, C, dy, _, _, rfl, hb, T.cl, T.nX, ptF_x _ _, _, rfl, b, C, dy, _, _, rfl, hb, T.cl, T.nY, ptF_y _ _, x, y, rfl, ?_⟩
    have cd : ∀ i, CDivW i (gcI (x, y)) := fun i => wide_div (gcI_pos hd) (Sm.gcd hd sx sy) n0 (by omega)
    refine ⟨_, rfl, b, C, dy, _, _, rfl, hb, T.cl, T.nX, ptF_x _ _, _, rfl, _, _, rfl, rfl, cd _, _, rfl, b, C, dy, _, _, rfl, hb, T.cl, T.nY, ptF_y _ _, _, rfl, _, _, rfl, rfl, cd _, ?_⟩
    exact make_pt fun v H2 e2 h2 => k v H2 (e.trans e2) h2
theorem scBefore : FnScope ["way", "other", "kind", "other_kind"] ["way", "other"] (defScope sBefore) := ⟨rfl, rfl, rfl, by decide +kernel, rfl, by decide +kernel, by decide +kernel⟩
theorem DDefs.GB (d : DDefs K mg C aS fSg fG fDr fK fL fX fB fPl fdSg fdG fdDr fdK fdL fdX fdB fdPl) (D : Defs K mg C fW fI fP fA fO fdW fdI fdP fdA fdO) : FnOk P w K mg base CX0 7 fB fdB ["way", "other"] (spBefore C) := by
  have GK : FnOk P w K mg base CX0 6 fK fdK ["direction"] (spKind C) := d.GK D
  have GX : FnOk P w K mg base CX0 5 fX fdX ["self", "other"] (spCross C) := ok_cross d.FX D
  have T := D.T
  refine d.FB.ok scBefore (fun vs H Q E h => ?_) (fun cdv A outer s H vs Q E hr h => ?_)
  · obtain ⟨n, v, u, x, y, z, t, rfl, _⟩ := h
    rfl
  · obtain ⟨n, v, u, x, y, z, t, rfl, hv, hu, hdv, hdu, n0, n1, sx, sy, sz, st, k⟩ := h
    refine ⟨_, pss_cons (ps_set (i := 2) scBefore.nd rfl (Or.inl rfl) (pe_call GK hr rfl d.mK d.FK.kp d.bK .nil pass0 (pa_cons (pv 0) pa_nil)))
      (pss_cons (ps_set (i := 3) scBefore.nd rfl (Or.inl rfl) (pe_call GK hr rfl d.mK d.FK.kp d.bK .nil pass0 (pa_cons (pv 1) pa_nil)))
      (pss_cons (ps_if (pt_cmpR op_ne (pv 2) (pv 3) (nomark _)) (pss_one (ps_ret (pe_cmpR op_lt (pv 2) (pv 3) (nomark _)))) pss_nil)
      (pss_one (ps_ret (pe_cmpR op_gt (pe_meth (pv 0) T.cl d.mX GX (hr.mono (by decide)) d.bX .nil pass0 (pa_cons (pv 1) pa_nil)) pe_int (nomark _)))))), ?_⟩
    refine ⟨_, rfl, v, x, y, rfl, hv.pt, hdv, fun H1 e1 => ?_⟩
    refine ⟨_, rfl, u, z, t, rfl, (hu.ex e1).pt, hdu, fun H2 e2 => ?_⟩
    refine ⟨_, rfl, _, rfl, rfl, _, rfl, ?_⟩
    unfold bef at k
    by_cases hk : kd (x, y) = kd (z, t)
    · rw [if_pos hk] at k
      refine iteNS (by rw [hk]) ?_
      obtain ⟨a, dx, rfl, ha⟩ := (hv.ex e1).ex e2
      refine ⟨_, rfl, a, dx, _, rfl, ha, cross_no _ _, _, rfl, n, _, _, x, y, z, t, rfl, ⟨a, dx, rfl, ha⟩, ((hu.ex e1).ex e2).pt, n0, n1, sx, sy, sz, st, fun H3 e3 => ?_⟩
      exact ⟨_, _, rfl, rfl, k H3 ((e1.trans e2).trans e3)⟩
    · rw [if_neg hk] at k
      have ne : decide (V.int (kd (x, y) : Int) = V.int (kd (z, t) : Int)) = false := decide_eq_false (fun q => hk (by injection q with q; omega))
      rw [ne]
      refine iteT ?_
      refine ⟨_, rfl, _, rfl, _, _, rfl, rfl, ?_⟩
      have e : decide ((kd (x, y) : Int) < (kd (z, t) : Int)) = decide (kd (x, y) < kd (z, t)) := by
        by_cases c : kd (x, y) < kd (z, t)
        · rw [decide_eq_true c, decide_eq_true (by omega)]
        · rw [decide_eq_false c, decide_eq_false (by omega)]
      have := k H2 (e1.trans e2)
      rw [← e] at this
      exact this
theorem scPlace : FnScope ["way", "placed", "low", "high", "middle"] ["way", "placed"] (defScope sPlace) := ⟨rfl, rfl, rfl, by decide +kernel, rfl, by decide +kernel, by decide +kernel⟩
/-- in a list in order: not behind one, so not behind those ahead of it -/
theorem srt_left {d : Int × Int} {es : List Ent} (hs : Srt Prod.snd es) (hd : Dirs Prod.snd es) (h0 : Dir d) {m : Nat} (hm : m < es.length) (h : bef d es[m].2 = false) : ∀ j (hj : j < es.length), j ≤ m → bef d es[j].2 = false := by
  intro j hj hjm
  by_cases e : j = m
  · subst e
    exact h
  · have hp := List.pairwise_iff_getElem.mp hs j m hj hm (by omega)
    cases q : bef d es[j].2 with
    | false => rfl
    | true =>
      rcases bef_nt (b := es[m].2) h0 (hd _ (List.getElem_mem hm)) (hd _ (List.getElem_mem hj)) q with r | r
      · rw [h] at r
        cases r
      · rw [hp] at r
        cases r
theorem srt_right {d : Int × Int} {es : List Ent} (hs : Srt Prod.snd es) (hd : Dirs Prod.snd es) (h0 : Dir d) {m : Nat} (hm : m < es.length) (h : bef d es[m].2 = true) : ∀ j (hj : j < es.length), m ≤ j → bef d es[j].2 = true := by
  intro j hj hjm
  by_cases e : j = m
  · subst e
    exact h
  · have hp := List.pairwise_iff_getElem.mp hs m j hm hj (by omega)
    rcases bef_nt (b := es[j].2) h0 (hd _ (List.getElem_mem hj)) (hd _ (List.getElem_mem hm)) h with r | r
    · exact r
    · rw [hp] at r
      cases r
theorem DDefs.GPl (d : DDefs K mg C aS fSg fG fDr fK fL fX fB fPl fdSg fdG fdDr fdK fdL fdX fdB fdPl) (D : Defs K mg C fW fI fP fA fO fdW fdI fdP fdA fdO) : FnOk P w K mg base CX0 8 fPl fdPl ["way", "placed"] (spPlace C) := by
  have GB : FnOk P w K mg base CX0 7 fB fdB ["way", "other"] (spBefore C) := d.GB D
  have T := D.T
  refine d.FPl.ok scPlace (fun vs H Q E h => ?_) (fun cdv A outer s H vs Q E hr h => ?_)
  · obtain ⟨n, v, x, y, l, es, rfl, _⟩ := h
    rfl
  · obtain ⟨n, v, x, y, l, es, rfl, hv, hd, sx, sy, n0, n1, hl, hlen, hes, hs, k⟩ := h
    refine ⟨_, pss_cons (ps_set (i := 2) scPlace.nd rfl (Or.inl rfl) pe_int)
      (pss_cons (ps_set (i := 3) scPlace.nd rfl (Or.inl rfl) (pe_callB call_len_seq (by rfl) T.len PySem.boot_len (pa_cons (pv 1) pa_nil)))
      (pss_cons (ps_while PassesOwn.never (pt_cmpR op_lt (pv 2) (pv 3) (nomark _))
        (pss_cons (ps_set (i := 4) scPlace.nd rfl (Or.inl rfl) (pe_op op_fdiv (pe_op op_add (pv 2) (pv 3)) pe_int))
        (pss_one (ps_if (pt_val (pe_call GB hr rfl d.mB d.FB.kp d.bB .nil pass0 (pa_cons (pv 0) (pa_cons (pe_ix ix_list (pv 1) (pv 4) (fun _ _ => rfl)) pa_nil))))
          (pss_one (ps_set (i := 3) scPlace.nd rfl (Or.inl rfl) (pv 4))) (pss_one (ps_set (i := 2) scPlace.nd rfl (Or.inl rfl) (pe_op op_add (pv 4) pe_int)))))))
      (pss_one (ps_ret (pv 2))))), ?_⟩
    refine ⟨_, rfl, l, _, rfl, .inl (SqL.of hl), ?_⟩
    have hlr : (refs es).length = es.length := List.length_map ..
    rw [hlr]
    refine ⟨fun m σ H' => ∃ (lo hi : Nat) (u : Option V), σ = [some v, some (.ref l), some (.int (lo : Int)), some (.int (hi : Int)), u] ∧ Same H H' ∧ lo ≤ hi ∧ hi ≤ es.length ∧ (∀ j (h : j < es.length), j < lo → bef (x, y) es[j].2 = false) ∧ (∀ j (h : j < es.length), hi ≤ j → bef (x, y) es[j].2 = true) ∧ m = hi - lo,
      ⟨es.length, 0, es.length, none, rfl, Same.refl _, Nat.zero_le _, Nat.le_refl _, fun j h hj => absurd hj (Nat.not_lt_zero _), fun j h hj => absurd hj (by omega), by omega⟩, ?_⟩
    rintro m σ H' ⟨lo, hi, u, rfl, e, h1, h2, hlo, hhi, rfl⟩
    refine ⟨_, rfl, _, rfl, _, _, rfl, rfl, _, rfl, ?_⟩
    by_cases hlt : (lo : Int) < (hi : Int)
    · rw [decide_eq_true hlt]
      refine iteT ?_
      refine ⟨fun σ' H2 => ∃ (lo' hi' : Nat) (u : Option V), σ' = [some v, some (.ref l), some (.int (lo' : Int)), some (.int (hi' : Int)), u] ∧ Same H H2 ∧ lo' ≤ hi' ∧ hi' ≤ es.length ∧ (∀ j (h : j < es.length), j < lo' → bef (x, y) es[j].2 = false) ∧ (∀ j (h : j < es.length), hi' ≤ j → bef (x, y) es[j].2 = true) ∧ hi' - lo' < hi - lo, ?_, ?_⟩
      · rintro σ' H2 ⟨lo', hi', u', rfl, e', a1, a2, a3, a4, a5⟩
        exact ⟨hi' - lo', a5, lo', hi', u', rfl, e', a1, a2, a3, a4, rfl⟩
      · refine ⟨_, rfl, _, rfl, _, _, rfl, rfl, _, _, rfl, rfl, ⟨by decide, by decide⟩, ?_⟩
        have hmid : ((lo : Int) + (hi : Int)) / 2 = (((lo + hi) / 2 : Nat) : Int) := by omega
        have hm : (lo + hi) / 2 < es.length := by omega
        have hget : (refs es)[(lo + hi) / 2]? = some (V.ref es[(lo + hi) / 2].1) := by
          unfold refs
          rw [List.getElem?_map, List.getElem?_eq_getElem hm]
          rfl
        have ent := hes _ (List.getElem_mem hm)
        refine ⟨_, rfl, _, rfl, _, rfl, l, refs es, _, _, rfl, rfl, SqL.of (e _ _ hl), (by rw [hmid]; exact atI_nat hget), ?_⟩
        refine ⟨n, v, _, x, y, _, _, rfl, hv.ex e, ent.1.ex e, hd, ent.2.1, n0, n1, sx, sy, ent.2.2.1, ent.2.2.2, fun H2 e2 => ?_⟩
        refine ⟨_, rfl, ?_⟩
        cases hb : bef (x, y) (es[(lo + hi) / 2].2.1, es[(lo + hi) / 2].2.2) with
        | true =>
          refine iteT ?_
          refine ⟨_, rfl, ?_⟩
          refine ⟨lo, (lo + hi) / 2, some (V.int (((lo : Int) + (hi : Int)) / 2)), ?_, e.trans e2, by omega, by omega, hlo, srt_right hs hes.dirs hd hm hb, by omega⟩
          show [some v, some (V.ref l), some (V.int (lo : Int)), some (V.int (((lo : Int) + (hi : Int)) / 2)), some (V.int (((lo : Int) + (hi : Int)) / 2))] = _
          rw [hmid]
        | false =>
          refine iteF ?_
          refine ⟨_, rfl, _, _, rfl, rfl, ?_⟩
          refine ⟨(lo + hi) / 2 + 1, hi, some (V.int (((lo : Int) + (hi : Int)) / 2)), ?_, e.trans e2, by omega, h2, fun j h hj => srt_left hs hes.dirs hd hm hb j h (by omega), hhi, by omega⟩
          show [some v, some (V.ref l), some (V.int (((lo : Int) + (hi : Int)) / 2 + 1)), some (V.int (hi : Int)), some (V.int (((lo : Int) + (hi : Int)) / 2))] = _
          rw [hmid]
          rfl
    · rw [decide_eq_false hlt]
      refine iteF ?_
      refine ⟨_, rfl, ?_⟩
      exact k lo H' e (by omega) hlo (fun j h hj => hhi j h (by omega))
end
end Fo
set_option Elab.async false
set_option linter.all false
set_option maxRecDepth 100000
set_option maxHeartbeats 2000000
namespace Fo
open PySem L2
theorem sortB_snoc {α : Type} {f : α → Int × Int} (l : List α) (e : α) : sortB f (l ++ [e]) = insB f e (sortB f l) := by
  unfold sortB
  rw [List.foldl_append]
  rfl
theorem refs_ins (l : List Ent) (e : Ent) (i : Nat) : (refs l).take i ++ [V.ref e.1] ++ (refs l).drop i = refs (l.take i ++ [e] ++ l.drop i) := by
  unfold refs
  simp
theorem Ents.sort {C : Addr} {n : Nat} {es : List Ent} {H : Hp} (h : Ents C n es H) : Ents C n (sortB Prod.snd es) H := fun x hx => h x ((sortB_perm es).mem_iff.mp hx)
section
variable {P : Program} {w : World} {K : PySem.W.Frag} {mg : Str → Option Value} {base : Heap} {C fW fI fP fA fO : Addr} {fdW fdI fdP fdA fdO : FuncData}
variable {aS fSg fG fDr fK fL fX fB fPl : Addr} {fdSg fdG fdDr fdK fdL fdX fdB fdPl : FuncData}
theorem scSorted : FnScope ["directions", "placed", "thing", "way"] ["directions"] (defScope sSorted) := ⟨rfl, rfl, rfl, by decide +kernel, rfl, by decide +kernel, by decide +kernel⟩
theorem ok_sorted {f : Addr} {fd : FuncData} (F : Fun K "sorted_around" "sorted_around" sSorted f fd) (d : DDefs K mg C aS fSg fG fDr fK fL fX fB fPl fdSg fdG fdDr fdK fdL fdX fdB fdPl) (D : Defs K mg C fW fI fP fA fO fdW fdI fdP fdA fdO) :
    FnOk P w K mg base CX0 9 f fd ["directions"] (spSorted C K) := by
  have GD : FnOk P w K mg base CX0 5 fDr fdDr ["thing"] (spAsDir C) := ok_as_dir d.FDr D
  have GP : FnOk P w K mg base CX0 8 fPl fdPl ["way", "placed"] (spPlace C) := d.GPl D
  refine F.ok scSorted (fun vs H Q E h => ?_) (fun cdv A outer s H vs Q E hr h => ?_)
  · obtain ⟨n, l, xs, ps, rfl, _⟩ := h
    rfl
  · obtain ⟨n, l, xs, ps, rfl, hl, hlen, n0, n1, ⟨hxp, hask⟩, k⟩ := h
    refine ⟨_, pss_cons (ps_set (i := 1) scSorted.nd rfl (Or.inl rfl) (pe_lst pa_nil))
      (pss_cons (ps_for PassesOwn.never rfl (pi_list (pv 0)) (pg_name (i := 2) scSorted.nd rfl (Or.inl rfl))
        (pss_cons (ps_set (i := 3) scSorted.nd rfl (Or.inl rfl) (pe_call GD (hr.mono (by decide)) rfl d.mDr d.FDr.kp d.bDr .nil pass0 (pa_cons (pv 2) pa_nil)))
        (pss_one (ps_expr (pe_bm PySem.F.plainAttrs_list PySem.F.slot_list_insert PySem.F.type_list_insert mt_insert (pv 1)
          (pa_cons (pe_call GP hr rfl d.mPl d.FPl.kp d.bPl .nil pass0 (pa_cons (pv 3) (pa_cons (pv 1) pa_nil))) (pa_cons (pv 3) pa_nil)))))))
      (pss_one (ps_ret (pv 1)))), ?_⟩
    refine ⟨Nat.zero_le _, fun pl npl => ?_⟩
    have e0 : Same H (upd H pl (.lst [])) := same_new npl
    refine ⟨_, rfl, l, rfl, ⟨_, e0.seq hl⟩, for_list (K := K) (a := l) (xs := xs) (fun i σ H' => ∃ (es : List Ent) (u w : Option V), σ = [some (.ref l), some (.ref pl), u, w] ∧ Same H H' ∧ H' pl = some (.lst (refs (sortB Prod.snd es))) ∧ Ents C n es H' ∧ es.length = i ∧
        (∀ (j : Nat) e p, es[j]? = some e → ps[j]? = some p → e.2 = p) ∧ (∀ (j : Nat) x e, xs[j]? = some x → es[j]? = some e → IsP C x e.2.1 e.2.2 H → V.ref e.1 = x))
      ⟨[], none, none, rfl, e0, upd_same, fun e he => by simp at he, rfl, fun j e p h _ => by simp at h, fun j x e _ h => by simp at h⟩ (fun i σ H' _ ⟨es, u, w, _, e, _⟩ => e.seq hl) ?_ ?_⟩
    · rintro i x σ H' hi ⟨es, u, w, rfl, e, hpl, hes, hel, hep, hid⟩
      have hil : i < xs.length := (List.getElem?_eq_some_iff.mp hi).1
      have hip : i < ps.length := by omega
      obtain ⟨hx, hd, s1, s2⟩ := hask i x ps[i] hi (List.getElem?_eq_getElem hip)
      generalize hpi : ps[i] = p at hx hd s1 s2
      refine ⟨_, rfl, x, p.1, p.2, rfl, hx.ex e, hd, fun w2 H2 e2 hw2 hid2 => ?_⟩
      have hpl2 := e2 _ _ hpl
      have hes2 := hes.ex e2
      have hsl : (sortB Prod.snd es).length = i := by rw [sortB_length, hel]
      obtain ⟨a2, d2, rfl, ha2⟩ := id hw2
      refine ⟨_, rfl, .inl ⟨rfl, _, SqL.of hpl2⟩, _, rfl, _, rfl, ?_⟩
      refine ⟨n, _, p.1, p.2, pl, sortB Prod.snd es, rfl, hw2, hd, s1, s2, n0, n1, hpl2, by omega, hes2.sort, sortB_srt hes2.dirs, fun i' H3 e3 hi' hl1 hl2 => ?_⟩
      refine ⟨_, rfl, pl, _, _, _, rfl, rfl, e3 _ _ hpl2, ?_, by omega, by omega, ?_⟩
      · show (refs _).length < sizeLine
        unfold refs
        rw [List.length_map, hsl]
        exact Nat.lt_of_lt_of_le (by omega : i < 1001) (by decide)
      · have ep : ((i' : Int)).toNat = i' := by omega
        rw [ep, refs_ins _ (a2, p) i', insB_place (f := Prod.snd) (e := ((a2, p) : Ent)) hl1 hl2, ← sortB_snoc]
        have hn : H pl = none := npl
        have e4 : Same H (upd H3 pl (.lst (refs (sortB Prod.snd (es ++ [(a2, p)]))))) := But.upd.same hn (e.trans (e2.trans e3))
        refine ⟨es ++ [(a2, p)], _, _, rfl, e4, upd_same, ?_, by rw [List.length_append, hel]; rfl, ?_, ?_⟩
        · intro z hz
          rcases List.mem_append.mp hz with hz | hz
          · exact (((hes2.ex e3).but (e3 _ _ hpl2) But.upd) z hz)
          · rw [List.mem_singleton] at hz
            subst hz
            exact ⟨(hw2.ex e3).but (e3 _ _ hpl2) But.upd, hd, s1, s2⟩
        · intro j z q hz hq
          by_cases hj : j < es.length
          · rw [List.getElem?_append_left hj] at hz
            exact hep j z q hz hq
          · have hj2 : j = es.length := by
              have := (List.getElem?_eq_some_iff.mp hz).1
              rw [List.length_append] at this
              simp at this
              omega
            subst hj2
            rw [List.getElem?_append_right (Nat.le_refl _)] at hz
            simp at hz
            subst hz
            rw [hel, List.getElem?_eq_getElem hip] at hq
            have := Option.some.inj hq
            rw [← this, hpi]
        · intro j z q hz hq hp
          by_cases hj : j < es.length
          · rw [List.getElem?_append_left hj] at hq
            exact hid j z q hz hq hp
          · have hj2 : j = es.length := by
              have := (List.getElem?_eq_some_iff.mp hq).1
              rw [List.length_append] at this
              simp at this
              omega
            subst hj2
            rw [List.getElem?_append_right (Nat.le_refl _)] at hq
            simp at hq
            subst hq
            rw [hel, hi] at hz
            have hz := Option.some.inj hz
            subst hz
            exact hid2 (hp.ex e)
    · rintro σ H' ⟨es, u, w, rfl, e, hpl, hes, hel, hep, hid⟩
      refine ⟨_, rfl, ?_⟩
      refine k pl H' es npl e hpl hes ?_ hid
      apply List.ext_getElem?
      intro j
      rw [List.getElem?_map]
      by_cases hj : j < es.length
      · have hjp : j < ps.length := by omega
        rw [List.getElem?_eq_getElem hj, List.getElem?_eq_getElem hjp]
        show some es[j].2 = some ps[j]
        rw [hep j _ _ (List.getElem?_eq_getElem hj) (List.getElem?_eq_getElem hjp)]
      · rw [List.getElem?_eq_none (by omega), List.getElem?_eq_none (by omega)]
        rfl
end
end Fo
set_option Elab.async false
set_option linter.all false
set_option maxRecDepth 100000
set_option maxHeartbeats 2000000
namespace Fo
open PySem L2
abbrev sPair : Stmt := top 26
def spPair : Sp := fun vs H Q _ => ∃ (p : Addr) (n : Int), vs = [.ref p, .int n] ∧ PoolAt p H ∧ 0 < n ∧ n < 1000 ∧
  ∀ q x y H', But p H H' → PoolAt p H' → H' q = some (.tup [.int x, .int y]) → -n ≤ x → x ≤ n → -n ≤ y → y ≤ n → Q (.ref q) H'
section
variable {P : Program} {w : World} {K : PySem.W.Frag} {mg : Str → Option Value} {base : Heap}
theorem scPair : FnScope ["pool", "size_here"] ["pool", "size_here"] (defScope sPair) := ⟨rfl, rfl, rfl, by decide +kernel, rfl, by decide +kernel, by decide +kernel⟩
theorem ok_pair {f fD : Addr} {fd fdD : FuncData} (F : Fun K "_law_pair" "_law_pair" sPair f fd) (T : TxtL mg) (FD : Fun K "_law_draw" "_law_draw" sDraw fD fdD) (bD : Binds K fdD ["pool", "many"] []) (mD : mg "_law_draw" = some (.ref fD)) :
    FnOk P w K mg base CX0 2 f fd ["pool", "size_here"] spPair := by
  have GD : FnOk P w K mg base CX0 1 fD fdD ["pool", "many"] spDraw := ok_draw FD T
  refine F.ok scPair (fun vs H Q E h => ?_) (fun cdv A outer s H vs Q E hr h => ?_)
  · obtain ⟨p, n, rfl, _⟩ := h
    rfl
  · obtain ⟨p, n, rfl, hp, n0, n1, q⟩ := h
    refine ⟨_, pss_one (ps_ret (pe_tup (pa_cons (pe_op op_sub (pe_call GD hr rfl mD FD.kp bD .nil pass0 (pa_cons (pv 0) (pa_cons (pe_op op_add (pe_op op_mul pe_int (pv 1)) pe_int) pa_nil))) (pv 1))
      (pa_cons (pe_op op_sub (pe_call GD hr rfl mD FD.kp bD .nil pass0 (pa_cons (pv 0) (pa_cons (pe_op op_add (pe_op op_mul pe_int (pv 1)) pe_int) pa_nil))) (pv 1)) pa_nil)))), ?_⟩
    refine ⟨_, rfl, _, rfl, _, _, rfl, rfl, .inl ⟨by decide, by decide⟩, _, _, rfl, rfl, p, _, rfl, hp, by omega, by omega, fun r1 H1 r10 r11 b1 p1 => ?_⟩
    refine ⟨_, rfl, _, _, rfl, rfl, ?_⟩
    refine ⟨_, rfl, _, rfl, _, _, rfl, rfl, .inl ⟨by decide, by decide⟩, _, _, rfl, rfl, p, _, rfl, p1, by omega, by omega, fun r2 H2 r20 r21 b2 p2 => ?_⟩
    refine ⟨_, rfl, _, _, rfl, rfl, (by show 2 ≤ sizeLine; decide), fun t ht => ?_⟩
    exact q t _ _ _ ((b1.trans b2).trans (But.of (same_new ht))) (p2.ex (same_new ht)) upd_same (by omega) (by omega) (by omega) (by omega)
end
end Fo
set_option Elab.async false
set_option linter.all false
set_option maxRecDepth 100000
set_option maxHeartbeats 2000000
namespace Fo
open PySem L2
abbrev sDirn : Stmt := top 27
abbrev sTurned : Stmt := top 28
/-- a list of pairs -/
inductive TL (H : Hp) : List V → List (Int × Int) → Prop
  | nil : TL H [] []
  | cons {q : Addr} {p : Int × Int} {xs : List V} {ps : List (Int × Int)} : H q = some (.tup [.int p.1, .int p.2]) → TL H xs ps → TL H (.ref q :: xs) (p :: ps)
theorem TL.ex {H H' : Hp} {xs : List V} {ps : List (Int × Int)} (e : Same H H') (h : TL H xs ps) : TL H' xs ps := by
  induction h with
  | nil => exact .nil
  | cons h _ ih => exact .cons (e _ _ h) ih
theorem TL.but {H H' : Hp} {D : Addr} {ys : List V} {xs : List V} {ps : List (Int × Int)} (hD : H D = some (.lst ys)) (b : But D H H') (h : TL H xs ps) : TL H' xs ps := by
  induction h with
  | nil => exact .nil
  | cons h _ ih => exact .cons (b _ _ (ne_of h hD (by intro z; cases z)) h) ih
theorem TL.length {H : Hp} {xs : List V} {ps : List (Int × Int)} (h : TL H xs ps) : xs.length = ps.length := by
  induction h with
  | nil => rfl
  | cons h _ ih => rw [List.length_cons, List.length_cons, ih]
theorem TL.append {H : Hp} {xs ys : List V} {ps qs : List (Int × Int)} (h : TL H xs ps) (h2 : TL H ys qs) : TL H (xs ++ ys) (ps ++ qs) := by
  induction h with
  | nil => exact h2
  | cons h _ ih => exact .cons h ih
theorem TL.take {H : Hp} {xs : List V} {ps : List (Int × Int)} (h : TL H xs ps) : ∀ n, TL H (xs.take n) (ps.take n) := by
  induction h with
  | nil =>
    intro n
    rw [List.take_nil, List.take_nil]
    exact .nil
  | cons h _ ih =>
    intro n
    cases n with
    | zero => exact .nil
    | succ n => exact .cons h (ih n)
theorem TL.drop {H : Hp} {xs : List V} {ps : List (Int × Int)} (h : TL H xs ps) : ∀ n, TL H (xs.drop n) (ps.drop n) := by
  induction h with
  | nil =>
    intro n
    rw [List.drop_nil, List.drop_nil]
    exact .nil
  | cons h t ih =>
    intro n
    cases n with
    | zero => exact .cons h t
    | succ n => exact ih n
theorem TL.get {H : Hp} {xs : List V} {ps : List (Int × Int)} (h : TL H xs ps) : ∀ {i : Nat} {x : V}, xs[i]? = some x → ∃ q p, x = V.ref q ∧ ps[i]? = some p ∧ H q = some (.tup [.int p.1, .int p.2]) := by
  induction h with
  | nil =>
    intro i x hx
    simp at hx
  | @cons q p _ _ h _ ih =>
    intro i x hx
    cases i with
    | zero =>
      simp at hx
      exact ⟨q, p, hx.symm, rfl, h⟩
    | succ i =>
      simp at hx
      obtain ⟨q2, p2, e1, e2, e3⟩ := ih hx
      exact ⟨q2, p2, e1, by simpa using e2, e3⟩
def pD (p : Int × Int) : PyData := .tuple [.int p.1, .int p.2]
theorem TL.dp {K : PySem.W.Frag} {H : Hp} {xs : List V} {ps : List (Int × Int)} (h : TL H xs ps) : DpAll K H xs (ps.map pD) := by
  induction h with
  | nil => exact .nil
  | cons h _ ih => exact .cons (.tup (SqT.of h) (.cons (.int _) (.cons (.int _) .nil))) ih
theorem pDs_lay : ∀ ps : List (Int × Int), PyData.canLayAll0 (ps.map pD) = true
  | [] => by simp [PyData.canLayAll0]
  | p :: ps => by simp [PyData.canLayAll0, PyData.canLay0, pD, pDs_lay ps]
theorem pDs_depth : ∀ ps : List (Int × Int), PyData.depthAll (ps.map pD) ≤ 2
  | [] => by simp [PyData.depthAll]
  | p :: ps => by
    have h1 := pDs_depth ps
    have h2 : (pD p).depth ≤ 2 := by simp [pD, PyData.depth, PyData.depthAll]
    simp only [List.map_cons, PyData.depthAll]
    omega
theorem pDs_shaped (ps : List (Int × Int)) : SeqAt.shaped (.list (ps.map pD)) = true := by
  have h1 := pDs_depth ps
  have h2 : PyData.depth (.list (ps.map pD)) ≤ 64 := by
    simp only [PyData.depth]
    omega
  show (PyData.canLay0 (.list (ps.map pD)) && decide (PyData.depth (.list (ps.map pD)) ≤ 64)) = true
  rw [Bool.and_eq_true]
  exact ⟨by simp only [PyData.canLay0]; exact pDs_lay ps, decide_eq_true h2⟩
theorem pDs_refl (ps : List (Int × Int)) : PyData.eqv (.list (ps.map pD)) (.list (ps.map pD)) = true := SeqAt.eqv_refl _ (by simp only [PyData.canLay0]; exact pDs_lay ps)
def spDirn : Sp := fun vs H Q _ => ∃ p : Addr, vs = [.ref p] ∧ PoolAt p H ∧ ∀ q x y H', But p H H' → PoolAt p H' → H' q = some (.tup [.int x, .int y]) → Dir (x, y) → -5 ≤ x → x ≤ 5 → -5 ≤ y → y ≤ 5 → Q (.ref q) H'
def spTurned : Sp := fun vs H Q _ => ∃ (a b : Addr) (xs ys : List V) (ps qs : List (Int × Int)) (m : Nat), vs = [.ref a, .ref b] ∧ H a = some (.lst xs) ∧ H b = some (.lst ys) ∧ TL H xs ps ∧ TL H ys qs ∧ ys.length ≤ 1000 ∧ m ≤ qs.length ∧ ps = qs.drop m ++ qs.take m ∧ ∀ H', Same H H' → Q (.bl true) H'
section
variable {P : Program} {w : World} {K : PySem.W.Frag} {mg : Str → Option Value} {base : Heap}
theorem scDirn : FnScope ["pool", "d"] ["pool"] (defScope sDirn) := ⟨rfl, rfl, rfl, by decide +kernel, rfl, by decide +kernel, by decide +kernel⟩
theorem ok_dirn {f fPr fD : Addr} {fd fdPr fdD : FuncData} (F : Fun K "_law_direction" "_law_direction" sDirn f fd) (T : TxtL mg) (FPr : Fun K "_law_pair" "_law_pair" sPair fPr fdPr) (bPr : Binds K fdPr ["pool", "size_here"] []) (mPr : mg "_law_pair" = some (.ref fPr))
    (FD : Fun K "_law_draw" "_law_draw" sDraw fD fdD) (bD : Binds K fdD ["pool", "many"] []) (mD : mg "_law_draw" = some (.ref fD)) : FnOk P w K mg base CX0 3 f fd ["pool"] spDirn := by
  have GP : FnOk P w K mg base CX0 2 fPr fdPr ["pool", "size_here"] spPair := ok_pair FPr T FD bD mD
  refine F.ok scDirn (fun vs H Q E h => ?_) (fun cdv A outer s H vs Q E hr h => ?_)
  · obtain ⟨p, rfl, _⟩ := h
    rfl
  · obtain ⟨p, rfl, hp, k⟩ := h
    refine ⟨_, pss_cons (ps_set (i := 1) scDirn.nd rfl (Or.inl rfl) (pe_call GP hr rfl mPr FPr.kp bPr .nil pass0 (pa_cons (pv 0) (pa_cons pe_int pa_nil))))
      (pss_one (ps_ret (pe_ifExp (pt_cmpR (op_eqD hr.units) (pv 1) (pe_tup (pa_cons pe_int (pa_cons pe_int pa_nil))) (nomark _)) (pe_tup (pa_cons pe_int (pa_cons (pe_un un_neg pe_int) pa_nil))) (pv 1)))), ?_⟩
    refine ⟨_, rfl, p, 5, rfl, hp, by decide, by decide, fun q x y H1 b1 p1 hq x0 x1 y0 y1 => ?_⟩
    refine ⟨_, rfl, (by show 2 ≤ sizeLine; decide), fun t nt => ?_⟩
    have e1 := same_new (o := HO.tup [.int 0, .int 0]) nt
    refine ⟨pD (x, y), pD (0, 0), .tup (SqT.of (e1 _ _ hq)) (.cons (.int _) (.cons (.int _) .nil)), .tup (SqT.of upd_same) (.cons (.int _) (.cons (.int _) .nil)), rfl, rfl, _, rfl, ?_⟩
    have ev : PyData.eqv (pD (x, y)) (pD (0, 0)) = ((x == 0) && ((y == 0) && true)) := by simp only [pD, PyData.eqv, PyData.eqvAll]
    by_cases hz : x = 0 ∧ y = 0
    · obtain ⟨rfl, rfl⟩ := hz
      rw [show PyData.eqv (pD (0, 0)) (pD (0, 0)) = true from by rw [ev] <;> rfl]
      refine iteT ?_
      refine ⟨_, rfl, (by show 2 ≤ sizeLine; decide), fun t2 nt2 => ?_⟩
      have e2 := same_new (o := HO.tup [.int 4, .int (-3)]) nt2
      exact k t2 4 (-3) _ (b1.trans (But.of (e1.trans e2))) ((p1.ex e1).ex e2) upd_same (.inl (by decide)) (by decide) (by decide) (by decide) (by decide)
    · have hn : ((x == 0) && ((y == 0) && true)) = false := by
        by_cases h1 : x = 0
        · have h2 : y ≠ 0 := fun z => hz ⟨h1, z⟩
          simp [h2]
        · simp [h1]
      rw [ev, hn]
      refine iteF ?_
      refine ⟨_, rfl, k q x y _ (b1.trans (But.of e1)) (p1.ex e1) (e1 _ _ hq) ?_ x0 x1 y0 y1⟩
      show x ≠ 0 ∨ y ≠ 0
      omega
theorem cut_from (xs : List V) {i : Nat} (h : i ≤ xs.length) : cutV xs (some (i : Int)) none = xs.drop i := by
  have e1 : HT.sIx xs.length 0 (some (i : Int)) = i := by
    rw [HT.sIx_nat]
    omega
  have e2 : HT.sIx xs.length xs.length none = xs.length := rfl
  unfold cutV
  rw [e1, e2]
  exact List.take_of_length_le (by rw [List.length_drop]; omega)
theorem cut_to (xs : List V) {i : Nat} (h : i ≤ xs.length) : cutV xs none (some (i : Int)) = xs.take i := by
  have e1 : HT.sIx xs.length xs.length (some (i : Int)) = i := by
    rw [HT.sIx_nat]
    omega
  have e2 : HT.sIx xs.length 0 none = 0 := rfl
  unfold cutV
  rw [e1, e2]
  rfl
theorem scTurned : FnScope ["one", "other", "rest", "at"] ["one", "other"] (defScope sTurned) := ⟨rfl, rfl, rfl, by decide +kernel, rfl, by decide +kernel, by decide +kernel⟩
theorem ok_turned {f : Addr} {fd : FuncData} (F : Fun K "_law_is_turned" "_law_is_turned" sTurned f fd) (T : TxtL mg) (zL : mg "list" = none) : FnOk P w K mg base CX0 1 f fd ["one", "other"] spTurned := by
  refine F.ok scTurned (fun vs H Q E h => ?_) (fun cdv A outer s H vs Q E hr h => ?_)
  · obtain ⟨a, b, xs, ys, ps, qs, m, rfl, _⟩ := h
    rfl
  · obtain ⟨a, b, xs, ys, ps, qs, m, rfl, ha, hb, hx, hy, hlen, hm, hrot, k⟩ := h
    have hyl := hy.length
    refine ⟨_, pss_cons (ps_set (i := 2) scTurned.nd rfl (Or.inl rfl) (pe_callTy call_list_of (by rfl) zL (by decide +kernel) (pa_cons (pv 1) pa_nil)))
      (pss_cons (ps_for PassesOwn.never rfl (pi_range1 rfl T.range (pa_cons (pe_callB call_len_seq (by rfl) T.len PySem.boot_len (pa_cons (pv 1) pa_nil)) pa_nil)) (pg_name (i := 3) scTurned.nd rfl (Or.inl rfl))
        (pss_one (ps_if (pt_cmpR (op_eqD hr.units) (pe_op op_cat (pe_slice sl_list (pv 2) (po_some (pv 3)) po_none) (pe_slice sl_list (pv 2) po_none (po_some (pv 3)))) (pv 0) (nomark _)) (pss_one (ps_ret pe_bl)) pss_nil)))
      (pss_one (ps_ret (pe_cmpR (op_eqD hr.units) (pv 0) (pv 1) (nomark _))))), ?_⟩
    refine ⟨_, rfl, b, ys, rfl, .inl (SqL.of hb), fun r nr => ?_⟩
    have e0 := same_new (o := HO.lst ys) nr
    refine ⟨_, rfl, b, ys, rfl, .inl (SqL.of (e0 _ _ hb)), ?_⟩
    refine ⟨_, rfl, by omega, by omega, ?_⟩
    have hn : ((ys.length : Nat) : Int).toNat = ys.length := by omega
    rw [hn]
    refine for_range (lo := 0) (fun i σ H' => ∃ u : Option V, σ = [some (.ref a), some (.ref b), some (.ref r), u] ∧ Same (upd H r (.lst ys)) H' ∧ ∀ j, j < i → PyData.eqv (.list ((qs.drop j ++ qs.take j).map pD)) (.list (ps.map pD)) = false)
      ⟨none, rfl, Same.refl _, fun j hj => absurd hj (Nat.not_lt_zero _)⟩ ?_ ?_
    · rintro i σ H' hi ⟨u, rfl, e, hno⟩
      have hz : (0 : Int) + (i : Int) = (i : Int) := by omega
      rw [hz]
      have hr0 : H' r = some (.lst ys) := e _ _ upd_same
      refine ⟨_, rfl, _, rfl, _, rfl, r, ys, rfl, SqL.of hr0, fun p1 n1 => ?_⟩
      have e1 := same_new (o := HO.lst (cutV ys (some (i : Int)) none)) n1
      refine ⟨_, rfl, _, rfl, _, rfl, r, ys, rfl, SqL.of (e1 _ _ hr0), fun p2 n2 => ?_⟩
      have e2 := same_new (o := HO.lst (cutV ys none (some (i : Int)))) n2
      have l1 := cutV_length ys (some (i : Int)) none
      have l2 := cutV_length ys none (some (i : Int))
      refine ⟨p1, p2, _, _, rfl, rfl, e2 _ _ upd_same, upd_same, Nat.le_trans (by omega : _ ≤ 2000) (by decide), fun p3 n3 => ?_⟩
      have e3 := same_new (o := HO.lst (cutV ys (some (i : Int)) none ++ cutV ys none (some (i : Int)))) n3
      have eall := (e0.trans e).trans ((e1.trans e2).trans e3)
      rw [cut_from ys (by omega), cut_to ys (by omega)] at *
      have hyr := ((hy.ex eall).drop i).append ((hy.ex eall).take i)
      refine ⟨_, rfl, .list ((qs.drop i ++ qs.take i).map pD), .list (ps.map pD), .lst (SqL.of upd_same) hyr.dp, .lst (SqL.of (eall _ _ ha)) (hx.ex eall).dp, pDs_shaped _, pDs_shaped _, _, rfl, ?_⟩
      cases hb2 : PyData.eqv (.list ((qs.drop i ++ qs.take i).map pD)) (.list (ps.map pD)) with
      | true =>
        refine iteT ?_
        exact k _ eall
      | false =>
        refine iteF ?_
        refine ⟨_, rfl, e.trans ((e1.trans e2).trans e3), fun j hj => ?_⟩
        by_cases hji : j = i
        · rw [hji]
          exact hb2
        · exact hno j (by omega)
    · rintro σ H' ⟨u, rfl, e, hno⟩
      have eall := e0.trans e
      refine ⟨_, rfl, _, rfl, .list (ps.map pD), .list (qs.map pD), .lst (SqL.of (eall _ _ ha)) (hx.ex eall).dp, .lst (SqL.of (eall _ _ hb)) (hy.ex eall).dp, pDs_shaped _, pDs_shaped _, ?_⟩
      by_cases hm2 : m < ys.length
      · have := hno m hm2
        rw [← hrot, pDs_refl] at this
        cases this
      · have hm3 : m = qs.length := by omega
        have e1 : qs.drop m ++ qs.take m = qs := by
          rw [hm3, List.drop_length, List.take_length]
          rfl
        rw [e1] at hrot
        rw [hrot, pDs_refl]
        exact k _ eall
end
end Fo
set_option Elab.async false
set_option linter.all false
set_option maxRecDepth 100000
set_option maxHeartbeats 2000000
namespace Fo
open PySem L2
/-- [te for y in l]: what each item is -/
theorem lc_gen {K : PySem.W.Frag} {l D : Addr} {te : TE} {σ : L2.St} {H1 : Hp} {xs : List V} {sl : Nat} {Qd : Hp → Prop} (R : Nat → V → Hp → Prop) (rex : ∀ i v H H', Same H H' → R i v H → R i v H') (rbut : ∀ i v H H' D ys, H D = some (HO.lst ys) → But D H H' → R i v H → R i v H')
    (hl : SqL K H1 l xs) (hn : xs.length ≤ 1000)
    (step : ∀ i x H', xs[i]? = some x → Same H1 H' → ∀ Q' : VK, (∀ v H'', Same H' H'' → R i v H'' → Q' v H'') → te ((wipe σ [sl]).set sl (some x)) H' Q')
    (hd : ∀ H' vs, Same H1 H' → H' D = some (.lst vs) → vs.length = xs.length → (∀ i v, vs[i]? = some v → R i v H') → Qd H') (hD : H1 D = none) :
    ∃ W : Nat → Nat → Hp → Prop, (∃ m, W 0 m (upd H1 D (.lst []))) ∧ ∀ i m H, W i m H → ((Itl K l).stop i H ∧ Qd H) ∨
      ((Itl K l).go i H ∧ ∃ Nx : Hp → Prop, (∀ H', Nx H' → ∃ m', m' < m ∧ W (i + 1) m' H') ∧ ∀ x H', (Itl K l).yld i H x H' → gName sl x (wipe σ [sl]) H' fun σ2 H2 => wipe σ2 [sl] = wipe σ [sl] ∧ tYes σ2 H2 fun b H3 =>
      if b = true then te σ2 H3 fun y H4 => ∃ acc, H4 D = some (.lst acc) ∧ acc.length < sizeLine ∧ Nx (upd H4 D (.lst (acc ++ [y]))) else Nx H3) := by
  refine lc_list (K := K) (a := l) (xs := xs) (fun i H' => Same H1 H' ∧ ∃ vs : List V, H' D = some (.lst vs) ∧ vs.length = i ∧ ∀ j v, vs[j]? = some v → R j v H') ?_ ?_ ?_ ?_
  · exact ⟨same_new hD, [], upd_same, rfl, fun j v h => by simp at h⟩
  · rintro i H' _ ⟨e, _⟩
    exact e.seq hl
  · rintro i x H' hx ⟨e, vs, hv, hlen, hp⟩
    have hi : i < xs.length := (List.getElem?_eq_some_iff.mp hx).1
    show wipe _ _ = _ ∧ _
    refine ⟨?_, ?_⟩
    · show ((σ.set sl none).set sl (some x)).set sl none = σ.set sl none
      rw [List.set_set, List.set_set]
    · unfold tYes
      dsimp only
      rw [if_pos rfl]
      refine step i x H' hx e _ fun v H'' e2 h2 => ?_
      have hv2 := e2 _ _ hv
      refine ⟨vs, hv2, Nat.lt_of_lt_of_le (by omega : vs.length < 1001) (by decide), (But.upd.same hD (e.trans e2)), vs ++ [v], upd_same, by rw [List.length_append, hlen]; rfl, fun j u hu => ?_⟩
      by_cases hj : j < vs.length
      · rw [List.getElem?_append_left hj] at hu
        exact rbut _ _ _ _ _ _ hv2 But.upd (rex _ _ _ _ e2 (hp j u hu))
      · have hj2 : j = vs.length := by
          have := (List.getElem?_eq_some_iff.mp hu).1
          rw [List.length_append] at this
          simp at this
          omega
        subst hj2
        rw [List.getElem?_append_right (Nat.le_refl _)] at hu
        simp at hu
        subst hu
        rw [hlen]
        exact rbut _ _ _ _ _ _ hv2 But.upd h2
  · rintro H' ⟨e, vs, hv, hlen, hp⟩
    exact hd H' vs e hv hlen hp
end Fo
set_option Elab.async false
set_option linter.all false
set_option maxRecDepth 100000
set_option maxHeartbeats 2000000
namespace Fo
open PySem L2
/-! ### what the law needs besides -/
theorem seq_gen {t1 t2 : TS} {D : Ends} {σ : L2.St} {H : Hp} (cond : L2.St → Hp → Prop) (h1 : ∀ N : L2.St → Hp → Prop, (∀ σ' H', cond σ' H' → N σ' H') → t1 { D with nx := N } σ H) (h2 : ∀ σ' H', cond σ' H' → t2 D σ' H') : tSeq t1 t2 D σ H := h1 _ h2
theorem gap4 {a b : Int × Int} (ha : Dir a) (hb : Dir b) (h1 : kd a < kd b) (h2 : (kd b : Int) - (kd a : Int) < 4) : 0 ≤ crs a b := by
  have key : (0 ≤ a.1 ∧ 0 ≤ b.2 ∨ a.1 ≤ 0 ∧ b.2 ≤ 0) ∧ (0 ≤ a.2 ∧ b.1 ≤ 0 ∨ a.2 ≤ 0 ∧ 0 ≤ b.1) := by
    obtain ⟨ax, ay⟩ := a
    obtain ⟨bx, by'⟩ := b
    unfold kd Dir at *
    simp only at *
    repeat' (split at h1)
    all_goals (repeat' (split at h2))
    all_goals omega
  unfold crs
  have p : 0 ≤ a.1 * b.2 := by
    rcases key.1 with ⟨u, v⟩ | ⟨u, v⟩
    · exact Int.mul_nonneg u v
    · exact Int.mul_nonneg_of_nonpos_of_nonpos u v
  have q : a.2 * b.1 ≤ 0 := by
    rcases key.2 with ⟨u, v⟩ | ⟨u, v⟩
    · exact Int.mul_nonpos_of_nonneg_of_nonpos u v
    · exact Int.mul_nonpos_of_nonpos_of_nonneg u v
  omega
theorem ins_map {α : Type} {f : α → Int × Int} (e : α) (l : List α) : (insB f e l).map f = insB id (f e) (l.map f) := by
  unfold insB
  induction l with
  | nil => rfl
  | cons a l ih =>
    simp only [List.map_cons, id]
    rw [List.takeWhile_cons, List.dropWhile_cons, List.takeWhile_cons, List.dropWhile_cons]
    cases h : bef (f e) (f a) with
    | true => simp
    | false =>
      simp only [Bool.not_false, if_true, List.cons_append, List.map_cons]
      rw [ih]
      rfl
theorem foldl_map' {α : Type} {f : α → Int × Int} : ∀ (l acc : List α), (l.foldl (fun acc e => insB f e acc) acc).map f = (l.map f).foldl (fun acc e => insB id e acc) (acc.map f)
  | [], acc => rfl
  | e :: l, acc => by
    show (l.foldl (fun acc e => insB f e acc) (insB f e acc)).map f = (l.map f).foldl (fun acc e => insB id e acc) (insB id (f e) (acc.map f))
    rw [foldl_map' l, ins_map]
theorem sort_map {α : Type} {f : α → Int × Int} (l : List α) : (sortB f l).map f = sortB id (l.map f) := foldl_map' l []
theorem ints_lay : ∀ ns : List Int, PyData.canLayAll0 (ns.map PyData.int) = true
  | [] => by simp [PyData.canLayAll0]
  | n :: ns => by simp [PyData.canLayAll0, PyData.canLay0, ints_lay ns]
theorem ints_depth : ∀ ns : List Int, PyData.depthAll (ns.map PyData.int) ≤ 1
  | [] => by simp [PyData.depthAll]
  | n :: ns => by
    have h1 := ints_depth ns
    have h2 : (PyData.int n).depth ≤ 1 := by simp [PyData.depth]
    simp only [List.map_cons, PyData.depthAll]
    omega
theorem ints_shaped (ns : List Int) : SeqAt.shaped (.list (ns.map PyData.int)) = true := by
  have h1 := ints_depth ns
  have h2 : PyData.depth (.list (ns.map PyData.int)) ≤ 64 := by
    simp only [PyData.depth]
    omega
  show (PyData.canLay0 (.list (ns.map PyData.int)) && decide (PyData.depth (.list (ns.map PyData.int)) ≤ 64)) = true
  rw [Bool.and_eq_true]
  exact ⟨by simp only [PyData.canLay0]; exact ints_lay ns, decide_eq_true h2⟩
theorem ints_refl (ns : List Int) : PyData.eqv (.list (ns.map PyData.int)) (.list (ns.map PyData.int)) = true := SeqAt.eqv_refl _ (by simp only [PyData.canLay0]; exact ints_lay ns)
theorem ints_dp {K : PySem.W.Frag} {H : Hp} : ∀ ns : List Int, DpAll K H (ns.map V.int) (ns.map PyData.int)
  | [] => .nil
  | n :: ns => .cons (.int n) (ints_dp ns)
theorem TL.of_get {H : Hp} : ∀ {xs : List V} {ps : List (Int × Int)}, xs.length = ps.length → (∀ (i : Nat) x, xs[i]? = some x → ∃ q p, x = V.ref q ∧ ps[i]? = some p ∧ H q = some (.tup [.int p.1, .int p.2])) → TL H xs ps
  | [], [], _, _ => .nil
  | [], p :: ps, h, _ => by simp at h
  | x :: xs, [], h, _ => by simp at h
  | x :: xs, p :: ps, h, hg => by
    obtain ⟨q, p', rfl, hp, hq⟩ := hg 0 x rfl
    cases hp
    exact .cons hq (TL.of_get (by simpa using h) fun i y hy => hg (i + 1) y (by simpa using hy))
/-- the pool and the list of ways -/
structure Ways (H0 : Hp) (pl wl : Addr) (xs : List V) (ps : List (Int × Int)) (H : Hp) : Prop where
  base : Same H0 H
  pool : PoolAt pl H
  w : H wl = some (.lst xs)
  t : TL H xs ps
theorem Ways.ex {H0 : Hp} {pl wl : Addr} {xs : List V} {ps : List (Int × Int)} {H H' : Hp} (e : Same H H') (h : Ways H0 pl wl xs ps H) : Ways H0 pl wl xs ps H' := ⟨h.base.trans e, h.pool.ex e, e _ _ h.w, h.t.ex e⟩
theorem Ways.draw {H0 : Hp} {pl wl : Addr} {xs : List V} {ps : List (Int × Int)} {H H' : Hp} (h0 : H0 pl = none) (ne : wl ≠ pl) (b : But pl H H') (p : PoolAt pl H') (h : Ways H0 pl wl xs ps H) : Ways H0 pl wl xs ps H' := by
  obtain ⟨i, j, hp, _⟩ := h.pool
  exact ⟨b.same h0 h.base, p, b _ _ ne h.w, h.t.but hp b⟩
theorem Ways.more {H0 : Hp} {pl wl q : Addr} {xs : List V} {ps : List (Int × Int)} {p : Int × Int} {H : Hp} (h0 : H0 wl = none) (ne : wl ≠ pl) (hq : H q = some (.tup [.int p.1, .int p.2])) (h : Ways H0 pl wl xs ps H) : Ways H0 pl wl (xs ++ [.ref q]) (ps ++ [p]) (upd H wl (.lst (xs ++ [.ref q]))) := by
  refine ⟨But.upd.same h0 h.base, ?_, upd_same, ?_⟩
  · obtain ⟨i, j, hp, r⟩ := h.pool
    exact ⟨i, j, by rw [upd_ne ne.symm]; exact hp, r⟩
  · exact (h.t.append (.cons hq .nil)).but h.w But.upd
/-- what is known of the directions drawn -/
structure Good (ps : List (Int × Int)) : Prop where
  dirs : Dirs id ps
  apart : Apart id ps
  small : ∀ p ∈ ps, -5 ≤ p.1 ∧ p.1 ≤ 5 ∧ -5 ≤ p.2 ∧ p.2 ≤ 5
  len : ps.length ≤ 8
theorem tup_ne {pl q : Addr} {H : Hp} {xs : List V} (hp : PoolAt pl H) (h : H q = some (.tup xs)) : q ≠ pl := by
  obtain ⟨i, j, hp, _⟩ := hp
  exact ne_of h hp (by intro z; cases z)
theorem sm10 {x : Int} (h1 : -5 ≤ x) (h2 : x ≤ 5) : Sm 10 x := by
  unfold Sm
  omega
theorem pair_no (x y : Int) : (ptF x y).lookup ("pair" : Str) = none := ptF_no _ _ (by decide +kernel) (by decide +kernel)
theorem p30 : (10 : Int) ^ (30 : Int).toNat = 1000000000000000000000000000000 := by decide
theorem menu3 {r : Int} (h0 : 0 ≤ r) (h1 : r < 3) : ∃ m : Int, atI [V.int 2, V.int 7, V.int ((10 : Int) ^ (30 : Int).toNat)] r = some (V.int m) ∧ 0 < m ∧ m.natAbs < 2 ^ 110 := by
  have : r = 0 ∨ r = 1 ∨ r = 2 := by omega
  rcases this with rfl | rfl | rfl
  · exact ⟨2, rfl, by decide, by decide⟩
  · exact ⟨7, rfl, by decide, by decide⟩
  · exact ⟨_, rfl, by decide, by decide⟩
theorem sm_mul {x m : Int} (h1 : -5 ≤ x) (h2 : x ≤ 5) (hm : m.natAbs < 2 ^ 110) : Sm 120 (x * m) := (wide_lt (sm10 h1 h2) hm)
theorem cm_mul {x m : Int} (h1 : -5 ≤ x) (h2 : x ≤ 5) (hm : m.natAbs < 2 ^ 110) : CMulW x m := wide_mul (sm10 h1 h2) hm (by decide) (by decide) (by decide)
theorem srt_kinds {es : List Ent} (h : Srt Prod.snd es) : (es.map fun e => (kd e.2 : Int)).Pairwise (· ≤ ·) := by
  refine List.pairwise_map.mpr (List.Pairwise.imp ?_ h)
  intro a b hab
  unfold bef at hab
  by_cases e : kd b.2 = kd a.2
  · omega
  · rw [if_neg e] at hab
    have := of_decide_eq_false hab
    omega
theorem refs_get {S : List Ent} {i : Nat} {x : V} (h : (refs S)[i]? = some x) : ∃ e, S[i]? = some e ∧ x = V.ref e.1 := by
  unfold refs at h
  rw [List.getElem?_map] at h
  cases q : S[i]? with
  | none =>
    rw [q] at h
    cases h
  | some e =>
    rw [q] at h
    exact ⟨e, rfl, (Option.some.inj h).symm⟩
theorem refs_len (S : List Ent) : (refs S).length = S.length := List.length_map ..
theorem refs_eq (S : List Ent) : refs S = (S.map Prod.fst).map V.ref := by
  unfold refs
  rw [List.map_map]
  rfl
/-- what was converted from instances is these -/
theorem same_ents {C : Addr} {n : Nat} {S es : List Ent} {H : Hp} (hS : Ents C n S H) (hm : es.map Prod.snd = S.map Prod.snd) (hid : ∀ (i : Nat) x e, (refs S)[i]? = some x → es[i]? = some e → IsP C x e.2.1 e.2.2 H → V.ref e.1 = x) : es = S := by
  have hl : es.length = S.length := by
    have := congrArg List.length hm
    rwa [List.length_map, List.length_map] at this
  apply List.ext_getElem hl
  intro i h1 h2
  have e2 : es[i].2 = S[i].2 := by
    have := congrArg (fun l => l[i]?) hm
    simp only [List.getElem?_map, List.getElem?_eq_getElem h1, List.getElem?_eq_getElem h2] at this
    exact Option.some.inj this
  have hg : (refs S)[i]? = some (V.ref S[i].1) := by
    unfold refs
    rw [List.getElem?_map, List.getElem?_eq_getElem h2]
    rfl
  have hp := (hS _ (List.getElem_mem h2)).1
  have e1 := hid i _ _ hg (List.getElem?_eq_getElem h1) (by rw [e2]; exact hp)
  injection e1 with e1
  exact Prod.ext e1 e2
end Fo
set_option Elab.async false
set_option linter.all false
set_option maxRecDepth 100000
set_option maxHeartbeats 0
namespace Fo
open PySem L2
abbrev sLaw : Stmt := top 29
abbrev lawN : List Str := ["script", "k", "pool", "ways", "turn", "d", "kind", "many", "far", "found", "turned", "kinds_here", "at", "way", "point"]
theorem scLaw : FnScope lawN ["script"] (defScope sLaw) := ⟨rfl, rfl, rfl, by decide +kernel, rfl, by decide +kernel, by decide +kernel⟩
def spLaw (K : PySem.W.Frag) : Sp := fun vs H Q _ => ∃ (a : Addr) (ns : List Int), vs = [.ref a] ∧ SqL K H a (ns.map V.int) ∧ ns.length ≤ 63 ∧ ∀ H', Q (.bl true) H'
/-- the law's own helpers and the other defs, as they stand -/
structure LDefs (K : PySem.W.Frag) (mg : Str → Option Value) (C fH fD fPr fDn fT fQ fM fRm fE fPm fSo : Addr) (fdH fdD fdPr fdDn fdT fdQ fdM fdE fdPm fdSo : FuncData) : Prop where
  TL : TxtL mg
  zS : mg "sorted" = none
  zL : mg "list" = none
  FH : Fun K "_law_hand" "_law_hand" sHand fH fdH
  bH : Binds K fdH ["script", "k"] []
  mH : mg "_law_hand" = some (.ref fH)
  FD : Fun K "_law_draw" "_law_draw" sDraw fD fdD
  bD : Binds K fdD ["pool", "many"] []
  mD : mg "_law_draw" = some (.ref fD)
  FPr : Fun K "_law_pair" "_law_pair" sPair fPr fdPr
  bPr : Binds K fdPr ["pool", "size_here"] []
  mPr : mg "_law_pair" = some (.ref fPr)
  FDn : Fun K "_law_direction" "_law_direction" sDirn fDn fdDn
  bDn : Binds K fdDn ["pool"] []
  mDn : mg "_law_direction" = some (.ref fDn)
  FT : Fun K "_law_is_turned" "_law_is_turned" sTurned fT fdT
  bT : Binds K fdT ["one", "other"] []
  mT : mg "_law_is_turned" = some (.ref fT)
  FQ : Fun K "quarter" "quarter" sQuarter fQ fdQ
  bQ : Binds K fdQ ["point"] []
  mQ : mg "quarter" = some (.ref fQ)
  FM : Fun K "__mul__" "Point.__mul__" sMul fM fdM
  bM : Binds K fdM ["self", "other"] []
  oM : OwnMul K C fM fRm
  FE : Fun K "__eq__" "Point.__eq__" sEq fE fdE
  bE : Binds K fdE ["self", "other"] []
  oE : OwnEqC K C fE
  FPm : Fun K "pair" "Point.pair" sPairM fPm fdPm
  bPm : Binds K fdPm ["self"] []
  mPm : Meth K C "pair" fPm
  FSo : Fun K "sorted_around" "sorted_around" sSorted fSo fdSo
  bSo : Binds K fdSo ["directions"] []
  mSo : mg "sorted_around" = some (.ref fSo)
section
variable {P : Program} {w : World} {K : PySem.W.Frag} {mg : Str → Option Value} {base : Heap} {C fW fI fP fA fO fH fD fPr fDn fT fQ fM fRm fE fPm fSo : Addr} {fdW fdI fdP fdA fdO fdH fdD fdPr fdDn fdT fdQ fdM fdE fdPm fdSo : FuncData}
variable {aS fSg fG fDr fK fL fX fB fPl : Addr} {fdSg fdG fdDr fdK fdL fdX fdB fdPl : FuncData}
theorem ok_law {f : Addr} {fd : FuncData} (F : Fun K "law" "law" sLaw f fd) (D : Defs K mg C fW fI fP fA fO fdW fdI fdP fdA fdO) (d : DDefs K mg C aS fSg fG fDr fK fL fX fB fPl fdSg fdG fdDr fdK fdL fdX fdB fdPl) (L : LDefs K mg C fH fD fPr fDn fT fQ fM fRm fE fPm fSo fdH fdD fdPr fdDn fdT fdQ fdM fdE fdPm fdSo) :
    FnOk P w K mg base CX0 10 f fd ["script"] (spLaw K) := by
  have GSo : FnOk P w K mg base CX0 9 fSo fdSo ["directions"] (spSorted C K) := ok_sorted L.FSo d D
  have GK : FnOk P w K mg base CX0 6 fK fdK ["direction"] (spKind C) := d.GK D
  have GL : FnOk P w K mg base CX0 6 fL fdL ["direction"] (spLow C) := d.GL D
  have GX : FnOk P w K mg base CX0 5 fX fdX ["self", "other"] (spCross C) := ok_cross d.FX D
  have GQ : FnOk P w K mg base CX0 5 fQ fdQ ["point"] (spQuarter C) := ok_quarter L.FQ D
  have GM : FnOk P w K mg base CX0 4 fM fdM ["self", "other"] (spMul C) := ok_mul L.FM D
  have GE : FnOk P w K mg base CX0 1 fE fdE ["self", "other"] (spEqP C) := ok_eq L.FE D.T
  have GPm : FnOk P w K mg base CX0 1 fPm fdPm ["self"] (spPairM C) := ok_pairM L.FPm D.T
  have GI : FnOk P w K mg base CX0 2 fI fdI ["self", "x", "y"] (spInit C) := D.GI
  have GH : FnOk P w K mg base CX0 1 fH fdH ["script", "k"] (spHand K) := ok_hand L.FH L.TL
  have GD : FnOk P w K mg base CX0 1 fD fdD ["pool", "many"] spDraw := ok_draw L.FD L.TL
  have GDn : FnOk P w K mg base CX0 3 fDn fdDn ["pool"] spDirn := ok_dirn L.FDn L.TL L.FPr L.bPr L.mPr L.FD L.bD L.mD
  have GT : FnOk P w K mg base CX0 1 fT fdT ["one", "other"] spTurned := ok_turned L.FT L.TL L.zL
  refine F.ok scLaw (fun vs H Q E h => ?_) (fun cdv A outer s H vs Q E hr h => ?_)
  · obtain ⟨a, ns, rfl, _⟩ := h
    rfl
  · obtain ⟨sa, ns, rfl, hS, hlen, k⟩ := h
    have hr9 : Room 9 _ := hr
    have hr6 : Room 6 _ := hr.mono (by decide)
    have hr5 : Room 5 _ := hr.mono (by decide)
    have hr4 : Room 4 _ := hr.mono (by decide)
    have hr3 : Room 3 _ := hr.mono (by decide)
    have hr2 : Room 2 _ := hr.mono (by decide)
    have hr1 : Room 1 _ := hr.mono (by decide)
    refine ⟨_, pss_cons (ps_for PassesOwn.never rfl (pi_range1 rfl L.TL.range (pa_cons (pe_callB (call_max2 rfl) (by rfl) L.TL.max (by decide +kernel) (pa_cons pe_int (pa_cons (pe_callB (call_min2 rfl) (by rfl) L.TL.min (by decide +kernel) (pa_cons (pe_callB call_len_seq (by rfl) L.TL.len PySem.boot_len (pa_cons (pv 0) pa_nil)) (pa_cons pe_int pa_nil))) pa_nil))) pa_nil)) (pg_name (i := 1) scLaw.nd rfl (Or.inl rfl))
        (pss_cons (ps_set (i := 2) scLaw.nd rfl (Or.inl rfl) (pe_call GH hr1 rfl L.mH L.FH.kp L.bH .nil pass0 (pa_cons (pv 0) (pa_cons (pv 1) pa_nil))))
        (pss_cons (ps_set (i := 3) scLaw.nd rfl (Or.inl rfl) (pe_lst pa_nil))
        (pss_cons (ps_for PassesOwn.never rfl (pi_range1 rfl L.TL.range (pa_cons (pe_op op_add pe_int (pe_call GD hr1 rfl L.mD L.FD.kp L.bD .nil pass0 (pa_cons (pv 2) (pa_cons pe_int pa_nil)))) pa_nil)) (pg_name (i := 4) scLaw.nd rfl (Or.inl rfl))
        (pss_cons (ps_set (i := 5) scLaw.nd rfl (Or.inr rfl) (pe_call GDn hr3 rfl L.mDn L.FDn.kp L.bDn .nil pass0 (pa_cons (pv 2) pa_nil)))
        (pss_one (ps_if (pt_cmpR (op_eqD hr.units) (pe_lc (own := [("way", 13)]) (g := gName 13)  rfl scLaw.nd (pi_list (pv 3)) (blkOk_by (own := [("way", 13)]) (N := lawN) (sc := defScope sLaw) (by decide +kernel)) (fun _ _ _ _ _ => pg_name (i := 13) scLaw.nd rfl (Or.inl rfl)) (fun _ _ _ _ _ => (pts_one (PW.pt (pw_and (pt_cmpR op_eq (pe_op op_mul (pe_ix (r := rIxT K) ix_tup (pv 13) pe_int (fun _ _ => rfl)) (pe_ix (r := rIxT K) ix_tup (pv 5) pe_int (fun _ _ => rfl))) (pe_op op_mul (pe_ix (r := rIxT K) ix_tup (pv 13) pe_int (fun _ _ => rfl)) (pe_ix (r := rIxT K) ix_tup (pv 5) pe_int (fun _ _ => rfl))) (nomark _)) (pw_and1 (pt_cmpR op_gt (pe_op op_add (pe_op op_mul (pe_ix (r := rIxT K) ix_tup (pv 13) pe_int (fun _ _ => rfl)) (pe_ix (r := rIxT K) ix_tup (pv 5) pe_int (fun _ _ => rfl))) (pe_op op_mul (pe_ix (r := rIxT K) ix_tup (pv 13) pe_int (fun _ _ => rfl)) (pe_ix (r := rIxT K) ix_tup (pv 5) pe_int (fun _ _ => rfl)))) pe_int (nomark _))))))) (fun _ _ _ _ _ => pe_int)) (pe_lst pa_nil) (nomark _)) (pss_one (ps_expr (pe_bm PySem.F.plainAttrs_list PySem.F.slot_list_append PySem.F.type_list_append mt_append (pv 3) (pa_cons (pv 5) pa_nil)))) pss_nil))))
        (pss_cons (ps_for PassesOwn.never rfl (pi_list (pv 3)) (pg_name (i := 5) scLaw.nd rfl (Or.inr rfl))
        (pss_cons (ps_par (i := 6) (j := 7) (by rfl) scLaw.nd rfl rfl (by decide) rfl rfl (pa_cons (pe_call GK hr6 rfl d.mK d.FK.kp d.bK .nil pass0 (pa_cons (pv 5) pa_nil)) (pa_cons (pe_ix (r := rIxL K) ix_list (pe_lst (pa_cons pe_int (pa_cons pe_int (pa_cons (pe_op op_pow pe_int pe_int) pa_nil)))) (pe_call GD hr1 rfl L.mD L.FD.kp L.bD .nil pass0 (pa_cons (pv 2) (pa_cons pe_int pa_nil))) (fun _ _ => rfl)) pa_nil)) (by rfl))
        (pss_cons (ps_if (PW.pt (pw_or (pt_cmpR op_ne (pe_call GK hr6 rfl d.mK d.FK.kp d.bK .nil pass0 (pa_cons (pe_call GQ hr5 rfl L.mQ L.FQ.kp L.bQ .nil pass0 (pa_cons (pv 5) pa_nil)) pa_nil)) (pe_op op_mod (pe_op op_add (pv 6) pe_int) pe_int) (nomark _)) (pw_or1 (pt_cmpR op_ne (pe_call GK hr6 rfl d.mK d.FK.kp d.bK .nil pass0 (pa_cons (pe_tup (pa_cons (pe_un un_neg (pe_ix (r := rIxT K) ix_tup (pv 5) pe_int (fun _ _ => rfl))) (pa_cons (pe_un un_neg (pe_ix (r := rIxT K) ix_tup (pv 5) pe_int (fun _ _ => rfl))) pa_nil))) pa_nil)) (pe_op op_mod (pe_op op_add (pv 6) pe_int) pe_int) (nomark _))))) (pss_one (ps_ret pe_bl)) pss_nil)
        (pss_cons (ps_set (i := 8) scLaw.nd rfl (Or.inl rfl) (pe_op (op_ownMul L.oM GM hr4 L.bM pass0) (pe_make D.M GI hr3 rfl D.T.mgC D.bI .nil pass0 (pa_cons (pe_ix (r := rIxT K) ix_tup (pv 5) pe_int (fun _ _ => rfl)) (pa_cons (pe_ix (r := rIxT K) ix_tup (pv 5) pe_int (fun _ _ => rfl)) pa_nil))) (pv 7)))
        (pss_cons (ps_if (PW.pt (pw_or (pt_cmpR op_ne (pe_call GK hr6 rfl d.mK d.FK.kp d.bK .nil pass0 (pa_cons (pv 8) pa_nil)) (pv 6) (nomark _)) (pw_or (pt_cmpR (op_ownNe L.oE GE hr2 L.bE pass0) (pe_call GL hr6 rfl d.mL d.FL.kp d.bL .nil pass0 (pa_cons (pv 8) pa_nil)) (pe_call GL hr6 rfl d.mL d.FL.kp d.bL .nil pass0 (pa_cons (pv 5) pa_nil)) (nomark _)) (pw_or1 (pt_cmpR (op_ownNe L.oE GE hr2 L.bE pass0) (pe_call GL hr6 rfl d.mL d.FL.kp d.bL .nil pass0 (pa_cons (pe_call GQ hr5 rfl L.mQ L.FQ.kp L.bQ .nil pass0 (pa_cons (pv 5) pa_nil)) pa_nil)) (pe_call GQ hr5 rfl L.mQ L.FQ.kp L.bQ .nil pass0 (pa_cons (pe_call GL hr6 rfl d.mL d.FL.kp d.bL .nil pass0 (pa_cons (pv 5) pa_nil)) pa_nil)) (nomark _)))))) (pss_one (ps_ret pe_bl)) pss_nil)
        (pss_one (ps_if (PW.pt (pw_or (pt_cmpR op_le (pe_meth (pv 8) D.T.cl d.mX GX hr5 d.bX .nil pass0 (pa_cons (pe_call GQ hr5 rfl L.mQ L.FQ.kp L.bQ .nil pass0 (pa_cons (pv 8) pa_nil)) pa_nil)) pe_int (nomark _)) (pw_or1 (pt_cmpR op_ne (pe_meth (pv 8) D.T.cl d.mX GX hr5 d.bX .nil pass0 (pa_cons (pv 5) pa_nil)) pe_int (nomark _))))) (pss_one (ps_ret pe_bl)) pss_nil)))))))
        (pss_cons (ps_set (i := 9) scLaw.nd rfl (Or.inl rfl) (pe_call GSo hr9 rfl L.mSo L.FSo.kp L.bSo .nil pass0 (pa_cons (pv 3) pa_nil)))
        (pss_cons (ps_set (i := 10) scLaw.nd rfl (Or.inl rfl) (pe_call GSo hr9 rfl L.mSo L.FSo.kp L.bSo .nil pass0 (pa_cons (pe_lc (own := [("d", 5)]) (g := gName 5) (tt := tYes) rfl scLaw.nd (pi_list (pv 3)) (blkOk_by (own := [("d", 5)]) (N := lawN) (sc := defScope sLaw) (by decide +kernel)) (fun _ _ _ _ _ => pg_name (i := 5) scLaw.nd rfl (Or.inl rfl)) (fun _ _ _ _ _ => pts_nil) (fun _ _ _ _ _ => (pe_call GQ hr5 rfl L.mQ L.FQ.kp L.bQ .nil pass0 (pa_cons (pv 5) pa_nil)))) pa_nil)))
        (pss_cons (ps_if (pt_not (pt_val (pe_call GT hr1 rfl L.mT L.FT.kp L.bT .nil pass0 (pa_cons (pe_lc (own := [("point", 14)]) (g := gName 14) (tt := tYes) rfl scLaw.nd (pi_list (pv 10)) (blkOk_by (own := [("point", 14)]) (N := lawN) (sc := defScope sLaw) (by decide +kernel)) (fun _ _ _ _ _ => pg_name (i := 14) scLaw.nd rfl (Or.inl rfl)) (fun _ _ _ _ _ => pts_nil) (fun _ _ _ _ _ => (pe_meth0 (pv 14) D.T.cl L.mPm GPm hr1 L.bPm .nil pass0))) (pa_cons (pe_lc (own := [("d", 5)]) (g := gName 5) (tt := tYes) rfl scLaw.nd (pi_list (pv 9)) (blkOk_by (own := [("d", 5)]) (N := lawN) (sc := defScope sLaw) (by decide +kernel)) (fun _ _ _ _ _ => pg_name (i := 5) scLaw.nd rfl (Or.inl rfl)) (fun _ _ _ _ _ => pts_nil) (fun _ _ _ _ _ => (pe_meth0 (pe_call GQ hr5 rfl L.mQ L.FQ.kp L.bQ .nil pass0 (pa_cons (pv 5) pa_nil)) D.T.cl L.mPm GPm hr1 L.bPm .nil pass0))) pa_nil))))) (pss_one (ps_ret pe_bl)) pss_nil)
        (pss_cons (ps_setLc (i := 11) (own := [("d", 5)]) (g := gName 5) (tt := tYes) rfl scLaw.nd rfl rfl (sw_true rfl rfl rfl (by decide +kernel)) (pi_list (pv 9)) (blkOk_by (own := [("d", 5)]) (N := lawN) (sc := defScope sLaw) (by decide +kernel)) (fun _ _ _ _ _ => pg_name (i := 5) scLaw.nd rfl (Or.inl rfl)) (fun _ _ _ _ _ => pts_nil) (fun _ _ _ _ _ => (pe_call GK hr6 rfl d.mK d.FK.kp d.bK .nil pass0 (pa_cons (pv 5) pa_nil))))
        (pss_cons (ps_if (pt_cmpR (op_neD hr.units) (pv 11) (pe_callB cr_sorted (by rfl) L.zS (by decide +kernel) (pa_cons (pe_lc (own := [("kind", 6)]) (g := gName 6) (tt := tYes) rfl scLaw.nd (pi_list (pv 11)) (blkOk_by (own := [("kind", 6)]) (N := lawN) (sc := defScope sLaw) (by decide +kernel)) (fun _ _ _ _ _ => pg_name (i := 6) scLaw.nd rfl (Or.inl rfl)) (fun _ _ _ _ _ => pts_nil) (fun _ _ _ _ _ => (pe_callTy call_int1 (by rfl) L.TL.int (by decide +kernel) (pa_cons (pv 6) pa_nil)))) pa_nil)) (nomark _)) (pss_one (ps_ret pe_bl)) pss_nil)
        (pss_cons (ps_for PassesOwn.never rfl (pi_range1 rfl L.TL.range (pa_cons (pe_op op_sub (pe_callB call_len_seq (by rfl) L.TL.len PySem.boot_len (pa_cons (pv 9) pa_nil)) pe_int) pa_nil)) (pg_name (i := 12) scLaw.nd rfl (Or.inl rfl))
        (pss_one (ps_if (PW.pt (pw_and (pt_cmpR op_lt (pe_meth (pe_ix (r := rIxL K) ix_list (pv 9) (pv 12) (fun _ _ => rfl)) D.T.cl d.mX GX hr5 d.bX .nil pass0 (pa_cons (pe_ix (r := rIxL K) ix_list (pv 9) (pe_op op_add (pv 12) pe_int) (fun _ _ => rfl)) pa_nil)) pe_int (nomark _)) (pw_and1 (pt_cmpR op_lt (pe_op op_sub (pe_ix (r := rIxL K) ix_list (pv 11) (pe_op op_add (pv 12) pe_int) (fun _ _ => rfl)) (pe_ix (r := rIxL K) ix_list (pv 11) (pv 12) (fun _ _ => rfl))) pe_int (nomark _))))) (pss_one (ps_ret pe_bl)) pss_nil)))
        (pss_one (ps_if (PW.pt (pw_or (pt_cmpR (op_neRefs hr.units0) (pe_call GSo hr9 rfl L.mSo L.FSo.kp L.bSo .nil pass0 (pa_cons (pv 9) pa_nil)) (pv 9) (nomark _)) (pw_or1 (pt_cmpR (op_neRefs hr.units0) (pe_call GSo hr9 rfl L.mSo L.FSo.kp L.bSo .nil pass0 (pa_cons (pe_revL (pv 9)) pa_nil)) (pv 9) (nomark _))))) (pss_one (ps_ret pe_bl)) pss_nil)))))))))))))
      (pss_one (ps_ret pe_bl)), ?_⟩
    -- range(max(1, min(len(script), 8)))
    refine ⟨_, rfl, sa, _, rfl, .inl hS, _, _, rfl, _, _, rfl, ?_⟩
    have hn8 : ∀ z : Int, z = (if (if (8 : Int) < ((ns.map V.int).length : Int) then (8 : Int) else ((ns.map V.int).length : Int)) > 1 then (if (8 : Int) < ((ns.map V.int).length : Int) then (8 : Int) else ((ns.map V.int).length : Int)) else 1) → 0 ≤ z ∧ z ≤ 8 := by
      intro z hz
      split at hz <;> split at hz <;> omega
    obtain ⟨n0, n8⟩ := hn8 _ rfl
    refine ⟨_, rfl, by omega, by omega, ?_⟩
    refine for_range (lo := 0) (fun i σ H' => ∃ v1 v2 v3 v4 v5 v6 v7 v8 v9 v10 v11 v12 v13 v14 : Option V, σ = [some (.ref sa), v1, v2, v3, v4, v5, v6, v7, v8, v9, v10, v11, v12, v13, v14] ∧ Same H H')
      ⟨_, _, _, _, _, _, _, _, _, _, _, _, _, _, rfl, Same.refl _⟩ ?_ ?_
    case refine_2 =>
      rintro σ H' ⟨v1, v2, v3, v4, v5, v6, v7, v8, v9, v10, v11, v12, v13, v14, rfl, eH⟩
      exact k _
    rintro i σ H0 hi ⟨v1, v2, v3, v4, v5, v6, v7, v8, v9, v10, v11, v12, v13, v14, rfl, eH⟩
    have hik : (i : Int) ≤ 100 := by omega
    clear hn8 n0 n8 hi
    -- pool = _law_hand(script, k)
    refine seq_gen (fun σ' H' => ∃ pl, σ' = [some (.ref sa), some (.int (0 + i)), some (.ref pl), v3, v4, v5, v6, v7, v8, v9, v10, v11, v12, v13, v14] ∧ H0 pl = none ∧ Same H0 H' ∧ PoolAt pl H') (fun N hN => ?_) ?_
    · refine ⟨_, rfl, _, rfl, sa, ns, _, rfl, eH.seq hS, hlen, by omega, by omega, fun pl H1 hpl e1 p1 => ?_⟩
      exact hN _ _ ⟨pl, rfl, hpl, e1, p1⟩
    rintro σ H1 ⟨pl, rfl, hpl, e1, p1⟩
    -- ways = []
    refine seq_gen (fun σ' H' => ∃ wl, σ' = [some (.ref sa), some (.int (0 + i)), some (.ref pl), some (.ref wl), v4, v5, v6, v7, v8, v9, v10, v11, v12, v13, v14] ∧ H0 wl = none ∧ wl ≠ pl ∧ Ways H0 pl wl [] [] H') (fun N hN => ?_) ?_
    · refine ⟨Nat.zero_le _, fun wl nwl => ?_⟩
      refine hN _ _ ⟨wl, rfl, Same.free e1 nwl, ?_, (e1.trans (same_new nwl)), p1.ex (same_new nwl), upd_same, .nil⟩
      obtain ⟨i1, j1, h1, _⟩ := p1
      exact (ne_of_none h1 nwl).symm
    rintro σ H2 ⟨wl, rfl, hwl, new, W2⟩
    clear e1 p1
    -- for turn in range(..)
    refine seq_gen (fun σ' H' => ∃ (xs : List V) (ps : List (Int × Int)) (v4 v5 : Option V), σ' = [some (.ref sa), some (.int (0 + i)), some (.ref pl), some (.ref wl), v4, v5, v6, v7, v8, v9, v10, v11, v12, v13, v14] ∧ Ways H0 pl wl xs ps H' ∧ Good ps) (fun N hN => ?_) ?_
    · refine ⟨_, rfl, pl, 8, rfl, W2.pool, by decide, by decide, fun r H3 r0 r1 b3 p3 => ?_⟩
      have W3 := W2.draw hpl new b3 p3
      refine ⟨_, _, rfl, rfl, _, rfl, by omega, by omega, ?_⟩
      refine for_range (lo := 0) (fun t σ' H' => ∃ (xs : List V) (ps : List (Int × Int)) (v4 v5 : Option V), σ' = [some (.ref sa), some (.int (0 + i)), some (.ref pl), some (.ref wl), v4, v5, v6, v7, v8, v9, v10, v11, v12, v13, v14] ∧ Ways H0 pl wl xs ps H' ∧ Dirs id ps ∧ Apart id ps ∧ (∀ p ∈ ps, -5 ≤ p.1 ∧ p.1 ≤ 5 ∧ -5 ≤ p.2 ∧ p.2 ≤ 5) ∧ ps.length ≤ t)
        ⟨[], [], _, _, rfl, W3, fun a ha => by simp at ha, List.Pairwise.nil, fun a ha => by simp at ha, Nat.le_refl _⟩ ?_ ?_
      · rintro t σ H4 ht ⟨xs, ps, v4, v5, rfl, W4, g1, g2, g3, g4⟩
        have ht8 : t < 8 := by omega
        have hxl := W4.t.length
        -- d = _law_direction(pool)
        refine seq_gen (fun σ' H' => ∃ (q : Addr) (x y : Int), σ' = [some (.ref sa), some (.int (0 + i)), some (.ref pl), some (.ref wl), some (.int (0 + t)), some (.ref q), v6, v7, v8, v9, v10, v11, v12, v13, v14] ∧ Ways H0 pl wl xs ps H' ∧ H' q = some (.tup [.int x, .int y]) ∧ Dir (x, y) ∧ -5 ≤ x ∧ x ≤ 5 ∧ -5 ≤ y ∧ y ≤ 5) (fun N2 hN2 => ?_) ?_
        · refine ⟨_, rfl, pl, rfl, W4.pool, fun q x y H5 b5 p5 hq hd x0 x1 y0 y1 => ?_⟩
          exact hN2 _ _ ⟨q, x, y, rfl, W4.draw hpl new b5 p5, hq, hd, x0, x1, y0, y1⟩
        rintro σ H5 ⟨q, x, y, rfl, W5, hq, hd, x0, x1, y0, y1⟩
        -- [1 for way in ways if ..] == []
        refine ⟨_, rfl, wl, rfl, ⟨_, SqL.of W5.w⟩, fun Dl nDl => ?_⟩
        refine lc_list (K := K) (a := wl) (xs := xs) (fun j H' => Same H5 H' ∧ ∃ c : Nat, H' Dl = some (.lst ((List.replicate c (1 : Int)).map V.int)) ∧ c ≤ j ∧ (c = 0 ↔ ∀ m, m < j → ∀ p, ps[m]? = some p → ¬ (crs p (x, y) = 0 ∧ 0 < dot p (x, y))))
          ⟨same_new nDl, 0, upd_same, Nat.le_refl _, fun _ m hm => absurd hm (Nat.not_lt_zero _), fun _ => rfl⟩ (fun j H' _ h => SqL.of (h.1 _ _ W5.w)) ?_ ?_
        · rintro j z H6 hz ⟨e6, c, hc, hcj, hiff⟩
          have hj : j < xs.length := (List.getElem?_eq_some_iff.mp hz).1
          obtain ⟨qz, p, rfl, hp, hqz⟩ := (W5.t.ex e6).get hz
          have hq6 := e6 _ _ hq
          obtain ⟨z0, z1, z2, z3⟩ := g3 p (List.mem_of_getElem? hp)
          refine ⟨rfl, ?_⟩
          refine ⟨_, rfl, qz, _, _, _, rfl, rfl, SqT.of hqz, atI_nat (j := 0) rfl, _, rfl, q, _, _, _, rfl, rfl, SqT.of hq6, atI_nat (j := 1) rfl, _, _, rfl, rfl, .inl ⟨by omega, by omega⟩, ?_⟩
          refine ⟨_, rfl, qz, _, _, _, rfl, rfl, SqT.of hqz, atI_nat (j := 1) rfl, _, rfl, q, _, _, _, rfl, rfl, SqT.of hq6, atI_nat (j := 0) rfl, _, _, rfl, rfl, .inl ⟨by omega, by omega⟩, rfl, _, rfl, ?_⟩
          have step : ∀ m, m < j + 1 → ∀ p', ps[m]? = some p' → (m < j ∨ p' = p) := by
            intro m hm p' hp'
            by_cases hmj : m = j
            · subst hmj
              rw [hp] at hp'
              exact .inr (Option.some.inj hp').symm
            · exact .inl (by omega)
          have keep : ¬ (crs p (x, y) = 0 ∧ 0 < dot p (x, y)) → (c = 0 ↔ ∀ m, m < j + 1 → ∀ p, ps[m]? = some p → ¬ (crs p (x, y) = 0 ∧ 0 < dot p (x, y))) := by
            intro hno
            rw [hiff]
            constructor
            · intro h m hm p' hp'
              rcases step m hm p' hp' with h1 | h1
              · exact h m h1 p' hp'
              · rw [h1]
                exact hno
            · intro h m hm
              exact h m (by omega)
          by_cases hA : p.1 * y = p.2 * x
          · rw [decide_eq_true (congrArg V.int hA)]
            refine iteT ?_
            refine ⟨_, rfl, qz, _, _, _, rfl, rfl, SqT.of hqz, atI_nat (j := 0) rfl, _, rfl, q, _, _, _, rfl, rfl, SqT.of hq6, atI_nat (j := 0) rfl, _, _, rfl, rfl, .inl ⟨by omega, by omega⟩, ?_⟩
            refine ⟨_, rfl, qz, _, _, _, rfl, rfl, SqT.of hqz, atI_nat (j := 1) rfl, _, rfl, q, _, _, _, rfl, rfl, SqT.of hq6, atI_nat (j := 1) rfl, _, _, rfl, rfl, .inl ⟨by omega, by omega⟩, _, _, rfl, rfl, _, _, rfl, rfl, _, rfl, ?_⟩
            by_cases hB : 0 < p.1 * x + p.2 * y
            · rw [decide_eq_true hB]
              refine iteT ?_
              refine ⟨_, hc, ?_, But.upd.same nDl e6, c + 1, ?_, by omega, ?_⟩
              · rw [List.length_map, List.length_replicate]
                exact Nat.lt_of_le_of_lt (by omega : c ≤ 100) (by decide)
              · rw [upd_same, List.replicate_succ']
                simp
              · refine ⟨fun z => absurd z (Nat.succ_ne_zero _), fun h => absurd ⟨?_, hB⟩ (h j (by omega) p hp)⟩
                unfold crs
                simp only
                omega
            · rw [decide_eq_false hB]
              refine iteF ?_
              exact ⟨e6, c, hc, by omega, keep fun z => hB z.2⟩
          · rw [decide_eq_false (fun z => hA (by injection z))]
            refine iteF ?_
            refine iteF ?_
            refine ⟨e6, c, hc, by omega, keep fun z => hA ?_⟩
            have := z.1
            unfold crs at this
            simp only at this
            omega
        · rintro H6 ⟨e6, c, hc, hcj, hiff⟩
          refine ⟨Nat.zero_le _, fun p0 np0 => ?_⟩
          have e7 := same_new (o := HO.lst []) np0
          have W7 := (W5.ex e6).ex e7
          have hq7 := e7 _ _ (e6 _ _ hq)
          refine ⟨.list ((List.replicate c (1 : Int)).map PyData.int), .list (([] : List Int).map PyData.int), .lst (SqL.of (e7 _ _ hc)) (ints_dp _), .lst (SqL.of upd_same) .nil, ints_shaped _, ints_shaped [], _, rfl, ?_⟩
          cases c with
          | zero =>
            rw [show PyData.eqv (.list ((List.replicate 0 (1 : Int)).map PyData.int)) (.list (([] : List Int).map PyData.int)) = true from rfl]
            refine iteT ?_
            have hall := hiff.mp rfl
            refine ⟨_, rfl, .inl ⟨rfl, _, SqL.of W7.w⟩, _, rfl, wl, _, _, rfl, rfl, W7.w, Nat.lt_of_le_of_lt (by omega : xs.length ≤ 100) (by decide), ?_⟩
            refine ⟨_, ps ++ [(x, y)], _, _, rfl, W7.more hwl new hq7, ?_, ?_, ?_, by rw [List.length_append]; simp; omega⟩
            · intro a ha
              rcases List.mem_append.mp ha with ha | ha
              · exact g1 a ha
              · rw [List.mem_singleton] at ha
                rw [ha]
                exact hd
            · refine List.pairwise_append.mpr ⟨g2, List.pairwise_singleton .., fun a ha b hb => ?_⟩
              rw [List.mem_singleton] at hb
              subst hb
              obtain ⟨m, hm, rfl⟩ := List.getElem_of_mem ha
              exact hall m (by omega) _ (List.getElem?_eq_getElem hm)
            · intro a ha
              rcases List.mem_append.mp ha with ha | ha
              · exact g3 a ha
              · rw [List.mem_singleton] at ha
                rw [ha]
                exact ⟨x0, x1, y0, y1⟩
          | succ c =>
            rw [show PyData.eqv (.list ((List.replicate (c + 1) (1 : Int)).map PyData.int)) (.list (([] : List Int).map PyData.int)) = false by simp [List.replicate_succ, PyData.eqv, PyData.eqvAll]]
            refine iteF ?_
            exact ⟨xs, ps, _, _, rfl, W7, g1, g2, g3, by omega⟩
      · rintro σ H4 ⟨xs, ps, v4, v5, rfl, W4, g1, g2, g3, g4⟩
        exact hN _ _ ⟨xs, ps, _, _, rfl, W4, g1, g2, g3, by omega⟩
    rintro σ H3 ⟨xs, ps, u4, u5, rfl, W3, G⟩
    clear W2
    have hxl := W3.t.length
    have hps := G.len
    -- for d in ways
    refine seq_gen (fun σ' H' => ∃ (v5 v6 v7 v8 : Option V), σ' = [some (.ref sa), some (.int (0 + i)), some (.ref pl), some (.ref wl), u4, v5, v6, v7, v8, v9, v10, v11, v12, v13, v14] ∧ Ways H0 pl wl xs ps H') (fun N hN => ?_) ?_
    · refine ⟨_, rfl, wl, rfl, ⟨_, SqL.of W3.w⟩, ?_⟩
      refine for_list (K := K) (a := wl) (xs := xs) (fun j σ' H' => ∃ (v5 v6 v7 v8 : Option V), σ' = [some (.ref sa), some (.int (0 + i)), some (.ref pl), some (.ref wl), u4, v5, v6, v7, v8, v9, v10, v11, v12, v13, v14] ∧ Ways H0 pl wl xs ps H')
        ⟨_, _, _, _, rfl, W3⟩ (fun j σ' H' _ h => by obtain ⟨_, _, _, _, _, W⟩ := h; exact SqL.of W.w) ?_ ?_
      · rintro j z σ H4 hz ⟨v5, v6, v7, v8, rfl, W4⟩
        obtain ⟨q, p, rfl, hp, hq⟩ := W4.t.get hz
        have hpm := List.mem_of_getElem? hp
        obtain ⟨z0, z1, z2, z3⟩ := G.small p hpm
        have hd : Dir p := G.dirs p hpm
        -- kind, many = ..
        refine seq_gen (fun σ' H' => ∃ m : Int, σ' = [some (.ref sa), some (.int (0 + i)), some (.ref pl), some (.ref wl), u4, some (.ref q), some (.int (kd p : Int)), some (.int m), v8, v9, v10, v11, v12, v13, v14] ∧ Ways H0 pl wl xs ps H' ∧ H' q = some (.tup [.int p.1, .int p.2]) ∧ 0 < m ∧ m.natAbs < 2 ^ 110) (fun N2 hN2 => ?_) ?_
        · refine ⟨_, rfl, .ref q, p.1, p.2, rfl, ⟨q, rfl, .inr hq⟩, hd, fun H5 e5 => ?_⟩
          have W5 := W4.ex e5
          refine ⟨_, _, rfl, rfl, ⟨by decide, by decide, by decide⟩, (by show 3 ≤ sizeLine; decide), fun l nl => ?_⟩
          have e6 := same_new (o := HO.lst [V.int 2, V.int 7, V.int ((10 : Int) ^ (30 : Int).toNat)]) nl
          have W6 := W5.ex e6
          have lpl : l ≠ pl := by
            obtain ⟨i1, j1, h1, _⟩ := W5.pool
            exact (ne_of_none h1 nl).symm
          refine ⟨_, rfl, pl, 3, rfl, W6.pool, by decide, by decide, fun r H7 r0 r1 b7 p7 => ?_⟩
          obtain ⟨m, hm, m0, m1⟩ := menu3 r0 r1
          refine ⟨l, _, _, _, rfl, rfl, SqL.of (b7 _ _ lpl upd_same), hm, _, _, rfl, ?_⟩
          have hq6 := e6 _ _ (e5 _ _ hq)
          exact hN2 _ _ ⟨m, rfl, W6.draw hpl new b7 p7, b7 _ _ (tup_ne W6.pool hq6) hq6, m0, m1⟩
        rintro σ H5 ⟨m, rfl, W5, hq5, m0, m1⟩
        have iq : IsPt C (.ref q) p.1 p.2 H5 := ⟨q, rfl, .inr hq5⟩
        -- the kinds of the quarter and of the way back
        refine seq_gen (fun σ' H' => σ' = [some (.ref sa), some (.int (0 + i)), some (.ref pl), some (.ref wl), u4, some (.ref q), some (.int (kd p : Int)), some (.int m), v8, v9, v10, v11, v12, v13, v14] ∧ Same H5 H') (fun N2 hN2 => ?_) ?_
        · refine ⟨_, rfl, .ref q, p.1, p.2, rfl, iq, fun w6 H6 e6 h6 => ?_⟩
          refine ⟨w6, -p.2, p.1, rfl, h6.pt, dir_qtr hd, fun H7 e7 => ?_⟩
          refine ⟨_, rfl, _, _, rfl, rfl, _, _, rfl, rfl, (by show (0 : Int) < 8; decide), rfl, _, rfl, iteNS (congrArg V.int ?_) ?_⟩
          · have h1 := kd_qtr hd
            have h2 : kd (qtr p) = kd (-p.2, p.1) := rfl
            rw [h2] at h1
            omega
          · refine ⟨_, rfl, q, _, _, _, rfl, rfl, SqT.of (e7 _ _ (e6 _ _ hq5)), atI_nat (j := 0) rfl, _, rfl, _, rfl, q, _, _, _, rfl, rfl, SqT.of (e7 _ _ (e6 _ _ hq5)), atI_nat (j := 1) rfl, _, rfl, (by show 2 ≤ sizeLine; decide), fun t nt => ?_⟩
            have e8 := same_new (o := HO.tup [.int (-p.1), .int (-p.2)]) nt
            refine ⟨.ref t, -p.1, -p.2, rfl, ⟨t, rfl, .inr upd_same⟩, ?_, fun H9 e9 => ?_⟩
            · unfold Dir at *
              simp only
              omega
            · refine ⟨_, rfl, _, _, rfl, rfl, _, _, rfl, rfl, (by show (0 : Int) < 8; decide), rfl, _, rfl, iteNS (congrArg V.int ?_) ?_⟩
              · have h1 := kd_neg hd
                omega
              · exact hN2 _ _ ⟨rfl, (e6.trans e7).trans (e8.trans e9)⟩
        rintro σ H6 ⟨rfl, e56⟩
        have W6 := W5.ex e56
        have hq6 := e56 _ _ hq5
        have iq6 : IsPt C (.ref q) p.1 p.2 H6 := ⟨q, rfl, .inr hq6⟩
        -- far
        refine seq_gen (fun σ' H' => ∃ w, σ' = [some (.ref sa), some (.int (0 + i)), some (.ref pl), some (.ref wl), u4, some (.ref q), some (.int (kd p : Int)), some (.int m), some w, v9, v10, v11, v12, v13, v14] ∧ Same H6 H' ∧ IsP C w (p.1 * m) (p.2 * m) H') (fun N2 hN2 => ?_) ?_
        · refine ⟨_, rfl, q, _, _, _, rfl, rfl, SqT.of hq6, atI_nat (j := 0) rfl, _, rfl, q, _, _, _, rfl, rfl, SqT.of hq6, atI_nat (j := 1) rfl, ?_⟩
          intro a2 d2 nx2 nd2 _
          have e2 := made_same (C := C) (X := p.1) (Y := p.2) nx2 nd2
          have h2 : IsP C (.ref a2) p.1 p.2 _ := made_is (H := H6) (dx := d2)
          refine ⟨a2, d2, _, _, rfl, upd_same, rfl, ?_⟩
          refine ⟨_, rfl, a2, d2, _, m, rfl, upd_same, rfl, _, p.1, p.2, m, rfl, h2, cm_mul z0 z1 m1, cm_mul z2 z3 m1, fun w H' e hw => ?_⟩
          exact hN2 _ _ ⟨w, rfl, e2.trans e, hw⟩
        rintro σ H7 ⟨w, rfl, e67, hw⟩
        have W7 := W6.ex e67
        have hq7 := e67 _ _ hq6
        have iq7 : IsPt C (.ref q) p.1 p.2 H7 := ⟨q, rfl, .inr hq7⟩
        have hdm : Dir (p.1 * m, p.2 * m) := dir_mul hd m0
        have sf1 := sm_mul z0 z1 m1
        have sf2 := sm_mul z2 z3 m1
        have eb : ∀ i j u v : Int, i = u → j = v → (!(decide (i = u) && decide (j = v))) = false := by
          intro i j u v h1 h2
          rw [decide_eq_true h1, decide_eq_true h2]
          rfl
        -- the kind and the shortest
        refine seq_gen (fun σ' H' => σ' = [some (.ref sa), some (.int (0 + i)), some (.ref pl), some (.ref wl), u4, some (.ref q), some (.int (kd p : Int)), some (.int m), some w, v9, v10, v11, v12, v13, v14] ∧ Same H7 H') (fun N2 hN2 => ?_) ?_
        · refine ⟨_, rfl, w, _, _, rfl, hw.pt, hdm, fun H8 e8 => ?_⟩
          refine ⟨_, rfl, rfl, _, rfl, iteNS (congrArg V.int ?_) ?_⟩
          · rw [kd_mul p m0]
          -- lowest(far) != lowest(d)
          refine ⟨_, rfl, 120, w, _, _, rfl, (hw.ex e8).pt, hdm, by decide, by decide, sf1, sf2, fun l1 H9 e9 h9 => ?_⟩
          refine ⟨_, rfl, 10, _, _, _, rfl, (iq7.ex e8).ex e9, hd, by decide, by decide, sm10 z0 z1, sm10 z2 z3, fun l2 H10 e10 h10 => ?_⟩
          have h9b := h9.ex e10
          obtain ⟨a1, d1, rfl, z1'⟩ := id h9b
          obtain ⟨a2, d2, rfl, z2'⟩ := id h10
          have hlow := low_mul hd m0
          refine ⟨a1, d1, _, a2, d2, _, rfl, z1', rfl, z2', _, _, _, _, _, _, rfl, h9b, .inl ⟨h10, _, rfl, _, rfl, ?_⟩⟩
          rw [eb _ _ _ _ (congrArg Prod.fst hlow) (congrArg Prod.snd hlow)]
          refine iteF ?_
          have e710 := (e8.trans e9).trans e10
          -- lowest(quarter(d)) != quarter(lowest(d))
          refine ⟨_, rfl, .ref q, p.1, p.2, rfl, iq7.ex e710, fun w11 H11 e11 h11 => ?_⟩
          refine ⟨10, w11, _, _, rfl, h11.pt, dir_qtr hd, by decide, by decide, sm10 (by omega) (by omega), sm10 z0 z1, fun l3 H12 e12 h12 => ?_⟩
          refine ⟨_, rfl, 10, .ref q, p.1, p.2, rfl, ((iq7.ex e710).ex e11).ex e12, hd, by decide, by decide, sm10 z0 z1, sm10 z2 z3, fun l4 H13 e13 h13 => ?_⟩
          refine ⟨l4, _, _, rfl, h13.pt, fun l5 H14 e14 h14 => ?_⟩
          have h12b := (h12.ex e13).ex e14
          obtain ⟨a3, d3, rfl, z3'⟩ := id h12b
          obtain ⟨a5, d5, rfl, z5'⟩ := id h14
          have hlq : low (-p.2, p.1) = (-(low p).2, (low p).1) := low_qtr (a := p)
          refine ⟨a3, d3, _, a5, d5, _, rfl, z3', rfl, z5', _, _, _, _, _, _, rfl, h12b, .inl ⟨h14, _, rfl, _, rfl, ?_⟩⟩
          rw [eb _ _ _ _ (congrArg Prod.fst hlq) (congrArg Prod.snd hlq)]
          refine iteF ?_
          exact hN2 _ _ ⟨rfl, (e710.trans (e11.trans e12)).trans (e13.trans e14)⟩
        rintro σ H8 ⟨rfl, e78⟩
        have W8 := W7.ex e78
        have hw8 := hw.ex e78
        obtain ⟨a8, d8, rfl, z8⟩ := id hw8
        -- the crosses
        refine ⟨_, rfl, a8, d8, _, rfl, z8, cross_no _ _, ?_⟩
        refine ⟨_, rfl, _, _, _, rfl, hw8.pt, fun w9 H9 e9 h9 => ?_⟩
        refine ⟨121, _, w9, _, _, _, _, rfl, hw8.ex e9, h9.pt, by decide, by decide, sf1.up (by decide), sf2.up (by decide), ?_, sf1.up (by decide), fun H10 e10 => ?_⟩
        · have : Sm 120 (-(p.2 * m)) := by
            unfold Sm at *
            omega
          exact this.up (by decide)
        refine ⟨_, _, rfl, rfl, _, rfl, ?_⟩
        have hpos := crs_self_qtr hdm
        have hpos2 : ¬ (p.1 * m * (p.1 * m) - p.2 * m * -(p.2 * m) ≤ 0) := by
          have e : crs (p.1 * m, p.2 * m) (qtr (p.1 * m, p.2 * m)) = p.1 * m * (p.1 * m) - p.2 * m * -(p.2 * m) := rfl
          omega
        rw [decide_eq_false hpos2]
        refine iteF ?_
        have z10 := e10 _ _ (e9 _ _ z8)
        refine ⟨_, rfl, a8, d8, _, rfl, z10, cross_no _ _, _, rfl, 121, _, .ref q, _, _, p.1, p.2, rfl, (hw8.ex e9).ex e10, (((iq7.ex e78).ex e9).ex e10), by decide, by decide, sf1.up (by decide), sf2.up (by decide), (sm10 z0 z1).up (by decide), (sm10 z2 z3).up (by decide), fun H11 e11 => ?_⟩
        refine ⟨rfl, _, rfl, iteNS (congrArg V.int ?_) ?_⟩
        · show p.1 * m * p.2 - p.2 * m * p.1 = 0
          grind
        · exact ⟨_, _, _, _, rfl, W8.ex ((e9.trans e10).trans e11)⟩
      · rintro σ H4 ⟨v5, v6, v7, v8, rfl, W4⟩
        exact hN _ _ ⟨_, _, _, _, rfl, W4⟩
    rintro σ H4 ⟨u5, u6, u7, u8, rfl, W4⟩
    -- found = sorted_around(ways)
    have asked : ∀ H', Same H4 H' → Asked C 10 xs ps H' := fun H' e => ⟨hxl, fun j x p hx hp => by
      obtain ⟨q, p', rfl, hp', hq⟩ := (W4.t.ex e).get hx
      rw [hp] at hp'
      cases hp'
      have hpm := List.mem_of_getElem? hp
      obtain ⟨z0, z1, z2, z3⟩ := G.small p hpm
      exact ⟨⟨q, rfl, .inr hq⟩, G.dirs p hpm, sm10 z0 z1, sm10 z2 z3⟩⟩
    refine seq_gen (fun σ' H' => ∃ (F9 : Addr) (es : List Ent), σ' = [some (.ref sa), some (.int (0 + i)), some (.ref pl), some (.ref wl), u4, u5, u6, u7, u8, some (.ref F9), v10, v11, v12, v13, v14] ∧ Same H4 H' ∧ H' F9 = some (.lst (refs (sortB Prod.snd es))) ∧ Ents C 10 es H' ∧ es.map Prod.snd = ps) (fun N hN => ?_) ?_
    · refine ⟨_, rfl, 10, wl, xs, ps, rfl, SqL.of W4.w, by omega, by decide, by decide, asked _ (Same.refl _), fun F9 H5 es nF e5 hF hE hm _ => ?_⟩
      exact hN _ _ ⟨F9, es, rfl, e5, hF, hE, hm⟩
    rintro σ H5 ⟨F9, es, rfl, e45, hF5, hE5, hm1⟩
    have W5 := W4.ex e45
    have hel : es.length = ps.length := by rw [← hm1, List.length_map]
    -- turned = sorted_around([quarter(d) for d in ways])
    refine seq_gen (fun σ' H' => ∃ (G9 : Addr) (es2 : List Ent), σ' = [some (.ref sa), some (.int (0 + i)), some (.ref pl), some (.ref wl), u4, u5, u6, u7, u8, some (.ref F9), some (.ref G9), v11, v12, v13, v14] ∧ Same H5 H' ∧ H' G9 = some (.lst (refs (sortB Prod.snd es2))) ∧ Ents C 10 es2 H' ∧ es2.map Prod.snd = ps.map qtr) (fun N hN => ?_) ?_
    · refine ⟨_, rfl, wl, rfl, ⟨_, SqL.of W5.w⟩, fun D1 nD1 => ?_⟩
      refine lc_gen (K := K) (xs := xs) (sl := 5) (fun j v H' => ∃ p, ps[j]? = some p ∧ IsPt C v (-p.2) p.1 H') (fun j v H H' e h => by obtain ⟨p, h1, h2⟩ := h; exact ⟨p, h1, h2.ex e⟩) (fun j v H H' D ys hD b h => by obtain ⟨p, h1, h2⟩ := h; exact ⟨p, h1, h2.but hD b⟩) (SqL.of W5.w) (by omega) ?_ ?_ nD1
      · intro j x H' hx e Q' q'
        obtain ⟨q, p, rfl, hp, hq⟩ := (W5.t.ex e).get hx
        exact ⟨_, rfl, .ref q, p.1, p.2, rfl, ⟨q, rfl, .inr hq⟩, fun w6 H6 e6 h6 => q' w6 H6 e6 ⟨p, hp, h6.pt⟩⟩
      · intro H6 vs e6 hD1 hvl hR
        refine ⟨10, D1, vs, ps.map qtr, rfl, SqL.of hD1, by omega, by decide, by decide, ⟨by rw [List.length_map]; omega, fun j x p' hx hp' => ?_⟩, fun G9 H7 es2 nG e7 hG hE hm _ => ?_⟩
        · obtain ⟨p, hp, h2⟩ := hR j x hx
          rw [List.getElem?_map, hp] at hp'
          cases hp'
          have hpm := List.mem_of_getElem? hp
          obtain ⟨z0, z1, z2, z3⟩ := G.small p hpm
          exact ⟨h2, dir_qtr (G.dirs p hpm), sm10 (by show -5 ≤ -p.2; omega) (by show -p.2 ≤ 5; omega), sm10 z0 z1⟩
        · exact hN _ _ ⟨G9, es2, rfl, e6.trans e7, hG, hE, hm⟩
    rintro σ H6 ⟨G9, es2, rfl, e56, hG6, hE6, hm2⟩
    have hF6 := e56 _ _ hF5
    have hE56 := hE5.ex e56
    generalize hS1 : sortB Prod.snd es = S1 at hF6
    generalize hS2 : sortB Prod.snd es2 = S2 at hG6
    have sl1 : S1.length = ps.length := by rw [← hS1, sortB_length, hel]
    have sl2 : S2.length = ps.length := by
      rw [← hS2, sortB_length, ← List.length_map (f := Prod.snd), hm2, List.length_map]
    have EN1 : Ents C 10 S1 H6 := by
      rw [← hS1]
      exact hE56.sort
    have EN2 : Ents C 10 S2 H6 := by
      rw [← hS2]
      exact hE6.sort
    have srt1 : Srt Prod.snd S1 := by
      rw [← hS1]
      exact sortB_srt hE56.dirs
    have map1 : S1.map Prod.snd = sortB id ps := by rw [← hS1, sort_map, hm1]
    have map2 : S2.map Prod.snd = sortB id (ps.map qtr) := by rw [← hS2, sort_map, hm2]
    have str1 : Str' Prod.snd S1 := by
      refine str_of srt1 EN1.dirs ?_
      have h1 : Apart id (S1.map Prod.snd) := by
        rw [map1]
        exact apart_perm G.apart (sortB_perm ps).symm
      exact List.pairwise_map.mp h1
    obtain ⟨rot, hrot, hround⟩ := turned_round G.dirs G.apart
    have W6 := W5.ex e56
    have base6 := W6.base
    clear W4 W5 W6 asked hE5 hE6 hF5 hE56
    -- is turned
    refine seq_gen (fun σ' H' => σ' = [some (.ref sa), some (.int (0 + i)), some (.ref pl), some (.ref wl), u4, u5, u6, u7, u8, some (.ref F9), some (.ref G9), v11, v12, v13, v14] ∧ Same H6 H') (fun N hN => ?_) ?_
    · refine ⟨_, rfl, G9, rfl, ⟨_, SqL.of hG6⟩, fun D1 nD1 => ?_⟩
      refine lc_gen (K := K) (xs := refs S2) (sl := 14) (fun j v H' => ∃ q e, v = V.ref q ∧ S2[j]? = some e ∧ H' q = some (.tup [.int e.2.1, .int e.2.2])) (fun j v H H' e h => by obtain ⟨q, z, h1, h2, h3⟩ := h; exact ⟨q, z, h1, h2, e _ _ h3⟩)
        (fun j v H H' D ys hD b h => by obtain ⟨q, z, h1, h2, h3⟩ := h; exact ⟨q, z, h1, h2, b _ _ (ne_of h3 hD (by intro z; cases z)) h3⟩) (SqL.of hG6) (by rw [refs_len]; omega) ?_ ?_ nD1
      · intro j x H' hx e Q' q'
        obtain ⟨z, hz, rfl⟩ := refs_get hx
        have hp := ((EN2 z (List.mem_of_getElem? hz)).1.ex e)
        obtain ⟨a, dx, qa, ha⟩ := id hp
        exact ⟨_, rfl, a, dx, _, qa, ha, pair_no _ _, _, _, _, rfl, hp, fun q H7 nq e7 hq => q' _ H7 e7 ⟨q, z, rfl, hz, hq⟩⟩
      · intro H7 vs1 e7 hD1 hvl1 hR1
        have hF7 := e7 _ _ hF6
        refine ⟨_, rfl, F9, rfl, ⟨_, SqL.of hF7⟩, fun D2 nD2 => ?_⟩
        refine lc_gen (K := K) (xs := refs S1) (sl := 5) (fun j v H' => ∃ q e, v = V.ref q ∧ S1[j]? = some e ∧ H' q = some (.tup [.int (-e.2.2), .int e.2.1])) (fun j v H H' e h => by obtain ⟨q, z, h1, h2, h3⟩ := h; exact ⟨q, z, h1, h2, e _ _ h3⟩)
          (fun j v H H' D ys hD b h => by obtain ⟨q, z, h1, h2, h3⟩ := h; exact ⟨q, z, h1, h2, b _ _ (ne_of h3 hD (by intro z; cases z)) h3⟩) (SqL.of hF7) (by rw [refs_len]; omega) ?_ ?_ nD2
        · intro j x H' hx e Q' q'
          obtain ⟨z, hz, rfl⟩ := refs_get hx
          have hp := ((EN1 z (List.mem_of_getElem? hz)).1.ex (e7.trans e))
          refine ⟨_, rfl, _, _, _, rfl, hp.pt, fun w8 H8 e8 h8 => ?_⟩
          obtain ⟨a, dx, qa, ha⟩ := id h8
          exact ⟨a, dx, _, qa, ha, pair_no _ _, _, _, _, rfl, h8, fun q H9 nq e9 hq => q' _ H9 (e8.trans e9) ⟨q, z, rfl, hz, hq⟩⟩
        · intro H8 vs2 e8 hD2 hvl2 hR2
          rw [refs_len] at hvl1 hvl2
          have T1 : TL H8 vs1 (S2.map Prod.snd) := by
            refine TL.ex e8 (TL.of_get (by rw [List.length_map]; exact hvl1) fun j x hx => ?_)
            obtain ⟨q, z, rfl, hz, hq⟩ := hR1 j x hx
            exact ⟨q, z.2, rfl, by rw [List.getElem?_map, hz]; rfl, hq⟩
          have T2 : TL H8 vs2 ((S1.map Prod.snd).map qtr) := by
            refine TL.of_get (by rw [List.length_map, List.length_map]; exact hvl2) fun j x hx => ?_
            obtain ⟨q, z, rfl, hz, hq⟩ := hR2 j x hx
            exact ⟨q, qtr z.2, rfl, by rw [List.getElem?_map, List.getElem?_map, hz]; rfl, hq⟩
          refine ⟨D1, D2, vs1, vs2, _, _, rot, rfl, e8 _ _ hD1, hD2, T1, T2, by omega, by rw [List.length_map, List.length_map, sl1]; exact hrot, ?_, fun H9 e9 => ?_⟩
          · rw [map2, map1]
            exact hround
          · refine ⟨true, rfl, ?_⟩
            refine iteF ?_
            exact hN _ _ ⟨rfl, e7.trans (e8.trans e9)⟩
    rintro σ H7 ⟨rfl, e67⟩
    have hF7 := e67 _ _ hF6
    have EN7 := EN1.ex e67
    have base7 := base6.trans e67
    clear EN1 EN2 hG6 hF6 hm2 map2 hS2 hround hrot
    -- kinds_here
    refine seq_gen (fun σ' H' => ∃ kl, σ' = [some (.ref sa), some (.int (0 + i)), some (.ref pl), some (.ref wl), u4, u5, u6, u7, u8, some (.ref F9), some (.ref G9), some (.ref kl), v12, v13, v14] ∧ Same H7 H' ∧ H' kl = some (.lst ((S1.map fun e => (kd e.2 : Int)).map V.int))) (fun N hN => ?_) ?_
    · refine ⟨_, rfl, F9, rfl, ⟨_, SqL.of hF7⟩, fun D1 nD1 => ?_⟩
      refine lc_gen (K := K) (xs := refs S1) (sl := 5) (fun j v H' => ∃ e, S1[j]? = some e ∧ v = V.int (kd e.2 : Int)) (fun j v H H' e h => h) (fun j v H H' D ys hD b h => h) (SqL.of hF7) (by rw [refs_len]; omega) ?_ ?_ nD1
      · intro j x H' hx e Q' q'
        obtain ⟨z, hz, rfl⟩ := refs_get hx
        have hz2 := EN7 z (List.mem_of_getElem? hz)
        exact ⟨_, rfl, _, _, _, rfl, (hz2.1.ex e).pt, hz2.2.1, fun H8 e8 => q' _ H8 e8 ⟨z, hz, rfl⟩⟩
      · intro H8 vs e8 hD1 hvl hR
        refine hN _ _ ⟨D1, rfl, e8, ?_⟩
        rw [hD1]
        congr 2
        rw [refs_len] at hvl
        apply List.ext_getElem (by rw [List.length_map, List.length_map]; exact hvl)
        intro j h1 h2
        obtain ⟨z, hz, hv⟩ := hR j _ (List.getElem?_eq_getElem h1)
        rw [hv]
        obtain ⟨hj, hz⟩ := List.getElem?_eq_some_iff.mp hz
        simp [hz]
    rintro σ H8 ⟨kl, rfl, e78, hk8⟩
    have hF8 := e78 _ _ hF7
    have EN8 := EN7.ex e78
    have base8 := base7.trans e78
    -- kinds_here != sorted(..)
    refine seq_gen (fun σ' H' => σ' = [some (.ref sa), some (.int (0 + i)), some (.ref pl), some (.ref wl), u4, u5, u6, u7, u8, some (.ref F9), some (.ref G9), some (.ref kl), v12, v13, v14] ∧ Same H8 H') (fun N hN => ?_) ?_
    · refine ⟨_, rfl, ?_⟩
      refine ⟨_, rfl, kl, rfl, ⟨_, SqL.of hk8⟩, fun D1 nD1 => ?_⟩
      refine lc_gen (K := K) (xs := (S1.map fun e => (kd e.2 : Int)).map V.int) (sl := 6) (fun j v H' => ((S1.map fun e => (kd e.2 : Int)).map V.int)[j]? = some v) (fun j v H H' e h => h) (fun j v H H' D ys hD b h => h) (SqL.of hk8) (by rw [List.length_map, List.length_map]; omega) ?_ ?_ nD1
      · intro j x H' hx e Q' q'
        have hx2 := hx
        rw [List.getElem?_map] at hx2
        cases hy : (S1.map fun e => (kd e.2 : Int))[j]? with
        | none =>
          rw [hy] at hx2
          cases hx2
        | some n =>
          rw [hy] at hx2
          have hx3 := Option.some.inj hx2
          subst hx3
          exact ⟨_, rfl, .inl ⟨n, rfl, q' _ H' (Same.refl _) hx⟩⟩
      · intro H9 vs e9 hD1 hvl hR
        have hvs : vs = (S1.map fun e => (kd e.2 : Int)).map V.int := by
          apply List.ext_getElem hvl
          intro j h1 h2
          have := hR j _ (List.getElem?_eq_getElem h1)
          rw [List.getElem?_eq_getElem h2] at this
          exact (Option.some.inj this).symm
        subst hvs
        refine ⟨D1, S1.map fun e => (kd e.2 : Int), rfl, SqL.of hD1, by rw [List.length_map]; omega, fun ns' p9 hperm hsrt np => ?_⟩
        have hns : ns' = S1.map fun e => (kd e.2 : Int) := PySem.W.ksm_same hperm hsrt (srt_kinds srt1)
        subst hns
        have e10 := same_new (o := HO.lst ((S1.map fun e => (kd e.2 : Int)).map V.int)) np
        refine ⟨.list ((S1.map fun e => (kd e.2 : Int)).map PyData.int), .list ((S1.map fun e => (kd e.2 : Int)).map PyData.int), .lst (SqL.of (e10 _ _ (e9 _ _ hk8))) (ints_dp _), .lst (SqL.of upd_same) (ints_dp _), ints_shaped _, ints_shaped _, _, rfl, ?_⟩
        rw [ints_refl]
        refine iteF ?_
        exact hN _ _ ⟨rfl, e9.trans e10⟩
    rintro σ H9 ⟨rfl, e89⟩
    have hF9 := e89 _ _ hF8
    have hk9 := e89 _ _ hk8
    have EN9 := EN8.ex e89
    have base9 := base8.trans e89
    -- beside one another
    refine seq_gen (fun σ' H' => ∃ u12, σ' = [some (.ref sa), some (.int (0 + i)), some (.ref pl), some (.ref wl), u4, u5, u6, u7, u8, some (.ref F9), some (.ref G9), some (.ref kl), u12, v13, v14] ∧ Same H9 H') (fun N hN => ?_) ?_
    · refine ⟨_, rfl, F9, _, rfl, .inl (SqL.of hF9), _, _, rfl, rfl, ?_⟩
      refine ⟨_, rfl, by omega, by rw [refs_len]; omega, ?_⟩
      rw [refs_len]
      refine for_range (lo := 0) (fun j σ' H' => ∃ u12, σ' = [some (.ref sa), some (.int (0 + i)), some (.ref pl), some (.ref wl), u4, u5, u6, u7, u8, some (.ref F9), some (.ref G9), some (.ref kl), u12, v13, v14] ∧ Same H9 H') ⟨_, rfl, Same.refl _⟩ ?_ ?_
      · rintro j σ H10 hj ⟨u12, rfl, e10⟩
        have hj1 : j + 1 < S1.length := by omega
        have hj0 : j < S1.length := by omega
        have zj : (0 : Int) + (j : Int) = (j : Int) := by omega
        rw [zj]
        have g0 : (refs S1)[j]? = some (V.ref S1[j].1) := by
          unfold refs
          rw [List.getElem?_map, List.getElem?_eq_getElem hj0]
          rfl
        have g1 : (refs S1)[j + 1]? = some (V.ref S1[j + 1].1) := by
          unfold refs
          rw [List.getElem?_map, List.getElem?_eq_getElem hj1]
          rfl
        have c0 : ((S1.map fun e => (kd e.2 : Int)).map V.int)[j]? = some (V.int (kd S1[j].2 : Int)) := by
          rw [List.getElem?_map, List.getElem?_map, List.getElem?_eq_getElem hj0]
          rfl
        have c1 : ((S1.map fun e => (kd e.2 : Int)).map V.int)[j + 1]? = some (V.int (kd S1[j + 1].2 : Int)) := by
          rw [List.getElem?_map, List.getElem?_map, List.getElem?_eq_getElem hj1]
          rfl
        have q1 : ((j : Int) + 1) = ((j + 1 : Nat) : Int) := by omega
        obtain ⟨a0, a1, a2, a3⟩ := EN9 _ (List.getElem_mem hj0)
        obtain ⟨b0, b1, b2, b3⟩ := EN9 _ (List.getElem_mem hj1)
        have hbef : bef S1[j].2 S1[j + 1].2 = true := List.pairwise_iff_getElem.mp str1 j (j + 1) hj0 hj1 (by omega)
        have a010 := a0.ex e10
        obtain ⟨aa, ad, qa, za⟩ := id a010
        refine ⟨_, rfl, _, rfl, F9, _, _, _, rfl, rfl, SqL.of (e10 _ _ hF9), atI_nat g0, aa, ad, _, qa, za, cross_no _ _, ?_⟩
        refine ⟨_, rfl, _, rfl, _, _, rfl, rfl, F9, _, _, _, rfl, rfl, SqL.of (e10 _ _ hF9), (by rw [q1]; exact atI_nat g1), ?_⟩
        refine ⟨10, _, _, _, _, _, _, rfl, a010, (b0.ex e10).pt, by decide, by decide, a2, a3, b2, b3, fun H11 e11 => ?_⟩
        refine ⟨_, _, rfl, rfl, _, rfl, ?_⟩
        by_cases hc : S1[j].2.1 * S1[j + 1].2.2 - S1[j].2.2 * S1[j + 1].2.1 < 0
        · rw [decide_eq_true hc]
          refine iteT ?_
          refine ⟨_, rfl, _, rfl, _, _, rfl, rfl, kl, _, _, _, rfl, rfl, SqL.of (e11 _ _ (e10 _ _ hk9)), (by rw [q1]; exact atI_nat c1), _, rfl, _, rfl, kl, _, _, _, rfl, rfl, SqL.of (e11 _ _ (e10 _ _ hk9)), atI_nat c0, _, _, rfl, rfl, _, _, rfl, rfl, _, rfl, ?_⟩
          have hnot : ¬ ((kd S1[j + 1].2 : Int) - (kd S1[j].2 : Int) < 4) := by
            intro h4
            have hcc : crs S1[j].2 S1[j + 1].2 < 0 := hc
            unfold bef at hbef
            by_cases ek : kd S1[j].2 = kd S1[j + 1].2
            · rw [if_pos ek] at hbef
              have := of_decide_eq_true hbef
              omega
            · rw [if_neg ek] at hbef
              have := gap4 a1 b1 (of_decide_eq_true hbef) h4
              omega
          rw [decide_eq_false hnot]
          refine iteF ?_
          exact ⟨_, rfl, e10.trans e11⟩
        · rw [decide_eq_false hc]
          refine iteF ?_
          refine iteF ?_
          exact ⟨_, rfl, e10.trans e11⟩
      · rintro σ H10 ⟨u12, rfl, e10⟩
        exact hN _ _ ⟨_, rfl, e10⟩
    rintro σ H10 ⟨u12, rfl, e910⟩
    have hF10 := e910 _ _ hF9
    have EN10 := EN9.ex e910
    -- sorted again
    have askR : ∀ (S : List Ent) H', Ents C 10 S H' → Asked C 10 (refs S) (S.map Prod.snd) H' := fun S H' h => ⟨by rw [refs_len, List.length_map], fun j x p hx hp => by
      obtain ⟨z, hz, rfl⟩ := refs_get hx
      rw [List.getElem?_map, hz] at hp
      cases hp
      have hh := h z (List.mem_of_getElem? hz)
      exact ⟨hh.1.pt, hh.2⟩⟩
    refine ⟨_, rfl, 10, F9, refs S1, S1.map Prod.snd, rfl, SqL.of hF10, by rw [refs_len]; omega, by decide, by decide, askR _ _ EN10, fun R1 H11 es3 nR1 e11 hR1 hE3 hm3 hid3 => ?_⟩
    have e3S : es3 = S1 := same_ents EN10 hm3 hid3
    subst e3S
    rw [sortB_fix srt1] at hR1
    have hF11 := e11 _ _ hF10
    rw [refs_eq] at hR1
    have hF11b := hF11
    rw [refs_eq] at hF11b
    refine ⟨_, rfl, R1, F9, _, rfl, rfl, hR1, hF11b, _, rfl, ?_⟩
    refine iteF ?_
    have EN11 := EN10.ex e11
    refine ⟨_, rfl, F9, _, rfl, SqL.of hF11, fun V1 nV1 => ?_⟩
    have e12 := same_new (o := HO.lst (refs es3).reverse) nV1
    have hrev : (refs es3).reverse = refs es3.reverse := by
      unfold refs
      rw [List.map_reverse]
    have EN12 : Ents C 10 es3.reverse (upd H11 V1 (HO.lst (refs es3).reverse)) := fun z hz => (EN11.ex e12) z (List.mem_reverse.mp hz)
    refine ⟨10, V1, refs es3.reverse, es3.reverse.map Prod.snd, rfl, SqL.of (by rw [← hrev]; exact upd_same), by rw [refs_len, List.length_reverse]; omega, by decide, by decide, askR _ _ EN12, fun R2 H13 es4 nR2 e13 hR2 hE4 hm4 hid4 => ?_⟩
    have e4S : es4 = es3.reverse := same_ents EN12 hm4 hid4
    subst e4S
    rw [sortB_rev str1, refs_eq] at hR2
    have hF13 := e13 _ _ (e12 _ _ hF11b)
    refine ⟨_, rfl, R2, F9, _, rfl, rfl, hR2, hF13, _, rfl, ?_⟩
    refine iteF ?_
    exact ⟨_, _, _, _, _, _, _, _, _, _, _, _, _, _, rfl, eH.trans ((base9.trans e910).trans (e11.trans (e12.trans e13)))⟩

end
end Fo
set_option Elab.async false
set_option linter.all false
set_option maxRecDepth 100000
set_option maxHeartbeats 0
namespace Fo
open PySem L2
theorem all_mk {l : PySem.W.OpenLaw} {w : World} {K : PySem.W.Frag} {h : Heap} {mg : Str → Option Value} {fa C fRm aS t0 t1 t2 t3 t4 t5 t6 t7 fW fI fP fA fO fSg fG fDr fK fL fX fB fPl fH fD fPr fDn fT fQ fM fE fPm fSo fZ : Addr} (X : K.In h) (G : h.Ns mainGlobals mg) (hfa : mg "law" = some (.ref fa))
    {nSi nt0 nt1 nt2 nt3 nt4 nt5 nt6 nt7 : Nat} {slSi st0 st1 st2 st3 st4 st5 st6 st7 : Array (Option Value)} {dt0 dt1 dt2 dt3 dt4 dt5 dt6 dt7 : Option Addr} {x0 y0 x1 y1 x2 y2 x3 y3 x4 y4 x5 y5 x6 y6 x7 y7 : Tok}
    {odW anW odI anI odP anP odA anA odO anO odSg anSg odG anG odDr anDr odK anK odL anL odX anX odB anB odPl anPl odH anH odD anD odPr anPr odDn anDn odT anT odQ anQ odM anM odE anE odPm anPm odSo anSo odZ anZ : Option Addr} {slW slI slP slA slO slSg slG slDr slK slL slX slB slPl slH slD slPr slDn slT slQ slM slE slPm slSo slZ : Array (Option Value)} {ocW kVW dcW pmW cdW ctW ocI kVI dcI pmI cdI ctI ocP kVP dcP pmP cdP ctP ocA kVA dcA pmA cdA ctA ocO kVO dcO pmO cdO ctO ocSg kVSg dcSg pmSg cdSg ctSg ocG kVG dcG pmG cdG ctG ocDr kVDr dcDr pmDr cdDr ctDr ocK kVK dcK pmK cdK ctK ocL kVL dcL pmL cdL ctL ocX kVX dcX pmX cdX ctX ocB kVB dcB pmB cdB ctB ocPl kVPl dcPl pmPl cdPl ctPl ocH kVH dcH pmH cdH ctH ocD kVD dcD pmD cdD ctD ocPr kVPr dcPr pmPr cdPr ctPr ocDn kVDn dcDn pmDn cdDn ctDn ocT kVT dcT pmT cdT ctT ocQ kVQ dcQ pmQ cdQ ctQ ocM kVM dcM pmM cdM ctM ocE kVE dcE pmE cdE ctE ocPm kVPm dcPm pmPm cdPm ctPm ocSo kVSo dcSo pmSo cdSo ctSo ocZ kVZ dcZ pmZ cdZ ctZ : Value}
    (aC : PySem.W.nsIn K mainGlobals "Point" = some (some (.ref C)))
    (aW : PySem.W.nsIn K mainGlobals "is_whole" = some (some (.ref fW)))
    (lW : K.lookup fW = some ⟨ocW, odW, .func (PySem.W.fnOf "is_whole" "is_whole" (defArgs sWhole) (defBody sWhole) (defScope sWhole) .none kVW dcW pmW anW cdW ctW), slW⟩) (cW : PySem.W.codeIn K cdW "is_whole" = true) (kW : PySem.W.keepIn K (.ref fW) = true)
    (aI : PySem.W.findIn K (.ref C) "__init__" = some (some (.ref fI))) (iI : PySem.W.isFn K (.ref fI) = true)
    (lI : K.lookup fI = some ⟨ocI, odI, .func (PySem.W.fnOf "__init__" "Point.__init__" (defArgs sInit) (defBody sInit) (defScope sInit) .none kVI dcI pmI anI cdI ctI), slI⟩) (cI : PySem.W.codeIn K cdI "Point.__init__" = true) (kI : PySem.W.keepIn K (.ref fI) = true)
    (aP : PySem.W.nsIn K mainGlobals "is_point" = some (some (.ref fP)))
    (lP : K.lookup fP = some ⟨ocP, odP, .func (PySem.W.fnOf "is_point" "is_point" (defArgs sIsPoint) (defBody sIsPoint) (defScope sIsPoint) .none kVP dcP pmP anP cdP ctP), slP⟩) (cP : PySem.W.codeIn K cdP "is_point" = true) (kP : PySem.W.keepIn K (.ref fP) = true)
    (aA : PySem.W.nsIn K mainGlobals "as_point" = some (some (.ref fA)))
    (lA : K.lookup fA = some ⟨ocA, odA, .func (PySem.W.fnOf "as_point" "as_point" (defArgs sAsPoint) (defBody sAsPoint) (defScope sAsPoint) .none kVA dcA pmA anA cdA ctA), slA⟩) (cA : PySem.W.codeIn K cdA "as_point" = true) (kA : PySem.W.keepIn K (.ref fA) = true)
    (aO : PySem.W.nsIn K mainGlobals "operand" = some (some (.ref fO)))
    (lO : K.lookup fO = some ⟨ocO, odO, .func (PySem.W.fnOf "operand" "operand" (defArgs sOperand) (defBody sOperand) (defScope sOperand) .none kVO dcO pmO anO cdO ctO), slO⟩) (cO : PySem.W.codeIn K cdO "operand" = true) (kO : PySem.W.keepIn K (.ref fO) = true)
    (aSg : PySem.W.nsIn K mainGlobals "sign" = some (some (.ref fSg)))
    (lSg : K.lookup fSg = some ⟨ocSg, odSg, .func (PySem.W.fnOf "sign" "sign" (defArgs sSign) (defBody sSign) (defScope sSign) .none kVSg dcSg pmSg anSg cdSg ctSg), slSg⟩) (cSg : PySem.W.codeIn K cdSg "sign" = true) (kSg : PySem.W.keepIn K (.ref fSg) = true)
    (aG : PySem.W.nsIn K mainGlobals "common_divisor" = some (some (.ref fG)))
    (lG : K.lookup fG = some ⟨ocG, odG, .func (PySem.W.fnOf "common_divisor" "common_divisor" (defArgs sGcd) (defBody sGcd) (defScope sGcd) .none kVG dcG pmG anG cdG ctG), slG⟩) (cG : PySem.W.codeIn K cdG "common_divisor" = true) (kG : PySem.W.keepIn K (.ref fG) = true)
    (aDr : PySem.W.nsIn K mainGlobals "as_direction" = some (some (.ref fDr)))
    (lDr : K.lookup fDr = some ⟨ocDr, odDr, .func (PySem.W.fnOf "as_direction" "as_direction" (defArgs sAsDir) (defBody sAsDir) (defScope sAsDir) .none kVDr dcDr pmDr anDr cdDr ctDr), slDr⟩) (cDr : PySem.W.codeIn K cdDr "as_direction" = true) (kDr : PySem.W.keepIn K (.ref fDr) = true)
    (aK : PySem.W.nsIn K mainGlobals "kind_of" = some (some (.ref fK)))
    (lK : K.lookup fK = some ⟨ocK, odK, .func (PySem.W.fnOf "kind_of" "kind_of" (defArgs sKind) (defBody sKind) (defScope sKind) .none kVK dcK pmK anK cdK ctK), slK⟩) (cK : PySem.W.codeIn K cdK "kind_of" = true) (kK : PySem.W.keepIn K (.ref fK) = true)
    (aL : PySem.W.nsIn K mainGlobals "lowest" = some (some (.ref fL)))
    (lL : K.lookup fL = some ⟨ocL, odL, .func (PySem.W.fnOf "lowest" "lowest" (defArgs sLow) (defBody sLow) (defScope sLow) .none kVL dcL pmL anL cdL ctL), slL⟩) (cL : PySem.W.codeIn K cdL "lowest" = true) (kL : PySem.W.keepIn K (.ref fL) = true)
    (aX : PySem.W.findIn K (.ref C) "cross" = some (some (.ref fX))) (iX : PySem.W.isFn K (.ref fX) = true)
    (lX : K.lookup fX = some ⟨ocX, odX, .func (PySem.W.fnOf "cross" "Point.cross" (defArgs sCross) (defBody sCross) (defScope sCross) .none kVX dcX pmX anX cdX ctX), slX⟩) (cX : PySem.W.codeIn K cdX "Point.cross" = true) (kX : PySem.W.keepIn K (.ref fX) = true)
    (aB : PySem.W.nsIn K mainGlobals "comes_before" = some (some (.ref fB)))
    (lB : K.lookup fB = some ⟨ocB, odB, .func (PySem.W.fnOf "comes_before" "comes_before" (defArgs sBefore) (defBody sBefore) (defScope sBefore) .none kVB dcB pmB anB cdB ctB), slB⟩) (cB : PySem.W.codeIn K cdB "comes_before" = true) (kB : PySem.W.keepIn K (.ref fB) = true)
    (aPl : PySem.W.nsIn K mainGlobals "place_for" = some (some (.ref fPl)))
    (lPl : K.lookup fPl = some ⟨ocPl, odPl, .func (PySem.W.fnOf "place_for" "place_for" (defArgs sPlace) (defBody sPlace) (defScope sPlace) .none kVPl dcPl pmPl anPl cdPl ctPl), slPl⟩) (cPl : PySem.W.codeIn K cdPl "place_for" = true) (kPl : PySem.W.keepIn K (.ref fPl) = true)
    (aH : PySem.W.nsIn K mainGlobals "_law_hand" = some (some (.ref fH)))
    (lH : K.lookup fH = some ⟨ocH, odH, .func (PySem.W.fnOf "_law_hand" "_law_hand" (defArgs sHand) (defBody sHand) (defScope sHand) .none kVH dcH pmH anH cdH ctH), slH⟩) (cH : PySem.W.codeIn K cdH "_law_hand" = true) (kH : PySem.W.keepIn K (.ref fH) = true)
    (aD : PySem.W.nsIn K mainGlobals "_law_draw" = some (some (.ref fD)))
    (lD : K.lookup fD = some ⟨ocD, odD, .func (PySem.W.fnOf "_law_draw" "_law_draw" (defArgs sDraw) (defBody sDraw) (defScope sDraw) .none kVD dcD pmD anD cdD ctD), slD⟩) (cD : PySem.W.codeIn K cdD "_law_draw" = true) (kD : PySem.W.keepIn K (.ref fD) = true)
    (aPr : PySem.W.nsIn K mainGlobals "_law_pair" = some (some (.ref fPr)))
    (lPr : K.lookup fPr = some ⟨ocPr, odPr, .func (PySem.W.fnOf "_law_pair" "_law_pair" (defArgs sPair) (defBody sPair) (defScope sPair) .none kVPr dcPr pmPr anPr cdPr ctPr), slPr⟩) (cPr : PySem.W.codeIn K cdPr "_law_pair" = true) (kPr : PySem.W.keepIn K (.ref fPr) = true)
    (aDn : PySem.W.nsIn K mainGlobals "_law_direction" = some (some (.ref fDn)))
    (lDn : K.lookup fDn = some ⟨ocDn, odDn, .func (PySem.W.fnOf "_law_direction" "_law_direction" (defArgs sDirn) (defBody sDirn) (defScope sDirn) .none kVDn dcDn pmDn anDn cdDn ctDn), slDn⟩) (cDn : PySem.W.codeIn K cdDn "_law_direction" = true) (kDn : PySem.W.keepIn K (.ref fDn) = true)
    (aT : PySem.W.nsIn K mainGlobals "_law_is_turned" = some (some (.ref fT)))
    (lT : K.lookup fT = some ⟨ocT, odT, .func (PySem.W.fnOf "_law_is_turned" "_law_is_turned" (defArgs sTurned) (defBody sTurned) (defScope sTurned) .none kVT dcT pmT anT cdT ctT), slT⟩) (cT : PySem.W.codeIn K cdT "_law_is_turned" = true) (kT : PySem.W.keepIn K (.ref fT) = true)
    (aQ : PySem.W.nsIn K mainGlobals "quarter" = some (some (.ref fQ)))
    (lQ : K.lookup fQ = some ⟨ocQ, odQ, .func (PySem.W.fnOf "quarter" "quarter" (defArgs sQuarter) (defBody sQuarter) (defScope sQuarter) .none kVQ dcQ pmQ anQ cdQ ctQ), slQ⟩) (cQ : PySem.W.codeIn K cdQ "quarter" = true) (kQ : PySem.W.keepIn K (.ref fQ) = true)
    (aM : PySem.W.findIn K (.ref C) "__mul__" = some (some (.ref fM))) (iM : PySem.W.isFn K (.ref fM) = true)
    (lM : K.lookup fM = some ⟨ocM, odM, .func (PySem.W.fnOf "__mul__" "Point.__mul__" (defArgs sMul) (defBody sMul) (defScope sMul) .none kVM dcM pmM anM cdM ctM), slM⟩) (cM : PySem.W.codeIn K cdM "Point.__mul__" = true) (kM : PySem.W.keepIn K (.ref fM) = true)
    (aE : PySem.W.findIn K (.ref C) "__eq__" = some (some (.ref fE))) (iE : PySem.W.isFn K (.ref fE) = true)
    (lE : K.lookup fE = some ⟨ocE, odE, .func (PySem.W.fnOf "__eq__" "Point.__eq__" (defArgs sEq) (defBody sEq) (defScope sEq) .none kVE dcE pmE anE cdE ctE), slE⟩) (cE : PySem.W.codeIn K cdE "Point.__eq__" = true) (kE : PySem.W.keepIn K (.ref fE) = true)
    (aPm : PySem.W.findIn K (.ref C) "pair" = some (some (.ref fPm))) (iPm : PySem.W.isFn K (.ref fPm) = true)
    (lPm : K.lookup fPm = some ⟨ocPm, odPm, .func (PySem.W.fnOf "pair" "Point.pair" (defArgs sPairM) (defBody sPairM) (defScope sPairM) .none kVPm dcPm pmPm anPm cdPm ctPm), slPm⟩) (cPm : PySem.W.codeIn K cdPm "Point.pair" = true) (kPm : PySem.W.keepIn K (.ref fPm) = true)
    (aSo : PySem.W.nsIn K mainGlobals "sorted_around" = some (some (.ref fSo)))
    (lSo : K.lookup fSo = some ⟨ocSo, odSo, .func (PySem.W.fnOf "sorted_around" "sorted_around" (defArgs sSorted) (defBody sSorted) (defScope sSorted) .none kVSo dcSo pmSo anSo cdSo ctSo), slSo⟩) (cSo : PySem.W.codeIn K cdSo "sorted_around" = true) (kSo : PySem.W.keepIn K (.ref fSo) = true)
    (aZ : PySem.W.nsIn K mainGlobals "law" = some (some (.ref fZ)))
    (lZ : K.lookup fZ = some ⟨ocZ, odZ, .func (PySem.W.fnOf "law" "law" (defArgs sLaw) (defBody sLaw) (defScope sLaw) .none kVZ dcZ pmZ anZ cdZ ctZ), slZ⟩) (cZ : PySem.W.codeIn K cdZ "law" = true) (kZ : PySem.W.keepIn K (.ref fZ) = true)
    (pg : PySem.W.plainGet K C Str.empty = true) (hd : PySem.W.hasDictIn K C = true) (po : PySem.W.plainOver K C = true) (sa : PySem.W.findIn K (.ref C) "__setattr__" = some (some (.builtin "object.__setattr__"))) (mk : PySem.W.makesIn K C = true) (kc : PySem.W.keepIn K (.ref C) = true)
    (nX : PySem.W.findIn K (.ref C) "x" = some none) (nY : PySem.W.findIn K (.ref C) "y" = some none)
    (ha : PySem.W.findIn K (.ref C) "__class__" = some (some (.builtin "object.__class__"))) (hn : PySem.W.specialIn K (.builtin "object.__class__") "__get__" = some (some (.builtin "getset_descriptor.__get__"))) (htk : PySem.W.takesIn K (.builtin "object.__class__") = some true) (hm : PySem.W.mroIn K C (.type "object") = some true)
    (kTC : PySem.W.kitOne K (.type "tuple") (.ref C) = some false) (kCC : PySem.W.kitOne K (.ref C) (.ref C) = some true) (sf : PySem.W.selfFirst K C = true)
    (rM : PySem.W.findIn K (.ref C) "__rmul__" = some (some (.ref fRm))) (sbI : PySem.W.subIn K (.type "int") (.ref C) = some false) (neE : PySem.W.findIn K (.ref C) "__ne__" = some (some (.builtin "object.__ne__"))) (ntE : PySem.W.notFirst K C (.type "tuple") = true)
    (z_isinstance : PySem.W.nsIn K mainGlobals "isinstance" = some none)
    (z_len : PySem.W.nsIn K mainGlobals "len" = some none)
    (z_int : PySem.W.nsIn K mainGlobals "int" = some none)
    (z_bool : PySem.W.nsIn K mainGlobals "bool" = some none)
    (z_tuple : PySem.W.nsIn K mainGlobals "tuple" = some none)
    (z_range : PySem.W.nsIn K mainGlobals "range" = some none)
    (z_max : PySem.W.nsIn K mainGlobals "max" = some none)
    (z_min : PySem.W.nsIn K mainGlobals "min" = some none)
    (z_abs : PySem.W.nsIn K mainGlobals "abs" = some none)
    (z_sorted : PySem.W.nsIn K mainGlobals "sorted" = some none)
    (z_list : PySem.W.nsIn K mainGlobals "list" = some none)
    (aSi : PySem.W.nsIn K mainGlobals "SIGNS" = some (some (.ref aS))) (lSi : K.lookup aS = some ⟨.type "tuple", none, .seq #[.ref t0, .ref t1, .ref t2, .ref t3, .ref t4, .ref t5, .ref t6, .ref t7] nSi, slSi⟩)
    (lt0 : K.lookup t0 = some ⟨.type "tuple", dt0, .seq #[.int (1) x0, .int (0) y0] nt0, st0⟩)
    (lt1 : K.lookup t1 = some ⟨.type "tuple", dt1, .seq #[.int (1) x1, .int (1) y1] nt1, st1⟩)
    (lt2 : K.lookup t2 = some ⟨.type "tuple", dt2, .seq #[.int (0) x2, .int (1) y2] nt2, st2⟩)
    (lt3 : K.lookup t3 = some ⟨.type "tuple", dt3, .seq #[.int (-1) x3, .int (1) y3] nt3, st3⟩)
    (lt4 : K.lookup t4 = some ⟨.type "tuple", dt4, .seq #[.int (-1) x4, .int (0) y4] nt4, st4⟩)
    (lt5 : K.lookup t5 = some ⟨.type "tuple", dt5, .seq #[.int (-1) x5, .int (-1) y5] nt5, st5⟩)
    (lt6 : K.lookup t6 = some ⟨.type "tuple", dt6, .seq #[.int (0) x6, .int (-1) y6] nt6, st6⟩)
    (lt7 : K.lookup t7 = some ⟨.type "tuple", dt7, .seq #[.int (1) x7, .int (-1) y7] nt7, st7⟩) :
    ∃ fd : FuncData, (∀ (s : Shared) (v : Value), BindsTo s fd ⟨[v], []⟩ [("script", v)]) ∧ ∀ base : Heap, K.In base → base.Ns mainGlobals mg → FnOk l.prog w K mg base CX0 10 fa fd ["script"] (spLaw K) := by
  have e := hfa.symm.trans (PySem.W.mg_of X G aZ)
  cases e
  have FW := fun_mk (st := sWhole) lW cW kW
  have bW := FW.binds (ps := ["value"]) fun _ _ _ _ _ _ us hl => match us, hl with | [_], _ => rfl
  have FI := fun_mk (st := sInit) lI cI kI
  have bI := FI.binds (ps := ["self", "x", "y"]) fun _ _ _ _ _ _ us hl => match us, hl with | [_, _, _], _ => rfl
  have FP := fun_mk (st := sIsPoint) lP cP kP
  have bP := FP.binds (ps := ["thing"]) fun _ _ _ _ _ _ us hl => match us, hl with | [_], _ => rfl
  have FA := fun_mk (st := sAsPoint) lA cA kA
  have bA := FA.binds (ps := ["thing"]) fun _ _ _ _ _ _ us hl => match us, hl with | [_], _ => rfl
  have FO := fun_mk (st := sOperand) lO cO kO
  have bO := FO.binds (ps := ["thing"]) fun _ _ _ _ _ _ us hl => match us, hl with | [_], _ => rfl
  have FSg := fun_mk (st := sSign) lSg cSg kSg
  have bSg := FSg.binds (ps := ["number"]) fun _ _ _ _ _ _ us hl => match us, hl with | [_], _ => rfl
  have FG := fun_mk (st := sGcd) lG cG kG
  have bG := FG.binds (ps := ["one", "other"]) fun _ _ _ _ _ _ us hl => match us, hl with | [_, _], _ => rfl
  have FDr := fun_mk (st := sAsDir) lDr cDr kDr
  have bDr := FDr.binds (ps := ["thing"]) fun _ _ _ _ _ _ us hl => match us, hl with | [_], _ => rfl
  have FK := fun_mk (st := sKind) lK cK kK
  have bK := FK.binds (ps := ["direction"]) fun _ _ _ _ _ _ us hl => match us, hl with | [_], _ => rfl
  have FL := fun_mk (st := sLow) lL cL kL
  have bL := FL.binds (ps := ["direction"]) fun _ _ _ _ _ _ us hl => match us, hl with | [_], _ => rfl
  have FX := fun_mk (st := sCross) lX cX kX
  have bX := FX.binds (ps := ["self", "other"]) fun _ _ _ _ _ _ us hl => match us, hl with | [_, _], _ => rfl
  have FB := fun_mk (st := sBefore) lB cB kB
  have bB := FB.binds (ps := ["way", "other"]) fun _ _ _ _ _ _ us hl => match us, hl with | [_, _], _ => rfl
  have FPl := fun_mk (st := sPlace) lPl cPl kPl
  have bPl := FPl.binds (ps := ["way", "placed"]) fun _ _ _ _ _ _ us hl => match us, hl with | [_, _], _ => rfl
  have FH := fun_mk (st := sHand) lH cH kH
  have bH := FH.binds (ps := ["script", "k"]) fun _ _ _ _ _ _ us hl => match us, hl with | [_, _], _ => rfl
  have FD := fun_mk (st := sDraw) lD cD kD
  have bD := FD.binds (ps := ["pool", "many"]) fun _ _ _ _ _ _ us hl => match us, hl with | [_, _], _ => rfl
  have FPr := fun_mk (st := sPair) lPr cPr kPr
  have bPr := FPr.binds (ps := ["pool", "size_here"]) fun _ _ _ _ _ _ us hl => match us, hl with | [_, _], _ => rfl
  have FDn := fun_mk (st := sDirn) lDn cDn kDn
  have bDn := FDn.binds (ps := ["pool"]) fun _ _ _ _ _ _ us hl => match us, hl with | [_], _ => rfl
  have FT := fun_mk (st := sTurned) lT cT kT
  have bT := FT.binds (ps := ["one", "other"]) fun _ _ _ _ _ _ us hl => match us, hl with | [_, _], _ => rfl
  have FQ := fun_mk (st := sQuarter) lQ cQ kQ
  have bQ := FQ.binds (ps := ["point"]) fun _ _ _ _ _ _ us hl => match us, hl with | [_], _ => rfl
  have FM := fun_mk (st := sMul) lM cM kM
  have bM := FM.binds (ps := ["self", "other"]) fun _ _ _ _ _ _ us hl => match us, hl with | [_, _], _ => rfl
  have FE := fun_mk (st := sEq) lE cE kE
  have bE := FE.binds (ps := ["self", "other"]) fun _ _ _ _ _ _ us hl => match us, hl with | [_, _], _ => rfl
  have FPm := fun_mk (st := sPairM) lPm cPm kPm
  have bPm := FPm.binds (ps := ["self"]) fun _ _ _ _ _ _ us hl => match us, hl with | [_], _ => rfl
  have FSo := fun_mk (st := sSorted) lSo cSo kSo
  have bSo := FSo.binds (ps := ["directions"]) fun _ _ _ _ _ _ us hl => match us, hl with | [_], _ => rfl
  have FZ := fun_mk (st := sLaw) lZ cZ kZ
  have T : Txt K mg C := ⟨⟨pg, hd, po, sa⟩, nX, nY, PySem.W.mg_of X G aC, PySem.W.mg_none_of X G z_isinstance, PySem.W.mg_none_of X G z_len, PySem.W.mg_none_of X G z_int, PySem.W.mg_none_of X G z_bool, PySem.W.mg_none_of X G z_tuple, ha, hn, htk, hm, kTC, kCC⟩
  have TLm : TxtL mg := ⟨PySem.W.mg_none_of X G z_int, PySem.W.mg_none_of X G z_range, PySem.W.mg_none_of X G z_max, PySem.W.mg_none_of X G z_min, PySem.W.mg_none_of X G z_len⟩
  have Df : Defs K mg C fW fI fP fA fO _ _ _ _ _ := ⟨T, FW, bW, PySem.W.mg_of X G aW, ⟨mk, aI, iI, kc⟩, FI, bI, FP, bP, PySem.W.mg_of X G aP, FA, bA, PySem.W.mg_of X G aA, FO, bO, PySem.W.mg_of X G aO⟩
  have pr : ∀ {t : Addr} {i j : Int} {od : Option Addr} {ti tj : Tok} {n : Nat} {sl : Array (Option Value)}, K.lookup t = some ⟨.type "tuple", od, .seq #[.int i ti, .int j tj] n, sl⟩ → ∀ H : Hp, Dp K H (.ref t) (.tuple [.int i, .int j]) := fun {t i j od ti tj n sl} lt H => .tup (xs := [V.int i, V.int j]) (.inr ⟨_, _, _, lt, rfl, rfl, by show 2 ≤ sizeLine; decide, .cons ⟨_, rfl⟩ (.cons ⟨_, rfl⟩ .nil)⟩) (.cons (.int _) (.cons (.int _) .nil))
  have S : SignsAt K mg aS := ⟨PySem.W.mg_of X G aSi, ⟨_, lSi, rfl, rfl⟩, fun H => .tup (xs := [V.ref t0, V.ref t1, V.ref t2, V.ref t3, V.ref t4, V.ref t5, V.ref t6, V.ref t7]) (.inr ⟨_, _, _, lSi, rfl, rfl, by show 8 ≤ sizeLine; decide, .cons rfl (.cons rfl (.cons rfl (.cons rfl (.cons rfl (.cons rfl (.cons rfl (.cons rfl (.nil))))))))⟩) (.cons (pr lt0 H) (.cons (pr lt1 H) (.cons (pr lt2 H) (.cons (pr lt3 H) (.cons (pr lt4 H) (.cons (pr lt5 H) (.cons (pr lt6 H) (.cons (pr lt7 H) .nil))))))))⟩
  have dd : DDefs K mg C aS fSg fG fDr fK fL fX fB fPl _ _ _ _ _ _ _ _ := ⟨S, PySem.W.mg_none_of X G z_abs, FSg, bSg, PySem.W.mg_of X G aSg, FG, bG, PySem.W.mg_of X G aG, FDr, bDr, PySem.W.mg_of X G aDr, FK, bK, PySem.W.mg_of X G aK, FL, bL, PySem.W.mg_of X G aL, FX, bX, ⟨aX, iX, kX⟩, FB, bB, PySem.W.mg_of X G aB, FPl, bPl, PySem.W.mg_of X G aPl⟩
  have Lf : LDefs K mg C fH fD fPr fDn fT fQ fM fRm fE fPm fSo _ _ _ _ _ _ _ _ _ _ := ⟨TLm, PySem.W.mg_none_of X G z_sorted, PySem.W.mg_none_of X G z_list, FH, bH, PySem.W.mg_of X G aH, FD, bD, PySem.W.mg_of X G aD, FPr, bPr, PySem.W.mg_of X G aPr, FDn, bDn, PySem.W.mg_of X G aDn, FT, bT, PySem.W.mg_of X G aT, FQ, bQ, PySem.W.mg_of X G aQ, FM, bM, ⟨sf, aM, iM, rM, sbI⟩, FE, bE, ⟨aE, iE, neE, hm, ntE⟩, FPm, bPm, ⟨aPm, iPm, kPm⟩, FSo, bSo, PySem.W.mg_of X G aSo⟩
  exact ⟨PySem.W.fnOf "law" "law" (defArgs sLaw) (defBody sLaw) (defScope sLaw) .none kVZ dcZ pmZ anZ cdZ ctZ, fun s v => .of_eq rfl, fun base _ _ => ok_law FZ Df dd Lf⟩
theorem walk {l : PySem.W.OpenLaw} {q : Program} {loose : List Str} {XP : (Str → Option Value) → Heap → Prop} {YP : World → Heap → Prop} {d : DefRec} {K : Params → PySem.W.Frag} (hn : l.most = some 63) (hdf : d.params.defaults = [])
    (hY : ∀ (w : World) (h : Heap), YP w h → (K w.params).In h)
    (F : ∀ (w : World) (mg : Str → Option Value) (fa : Addr) (h : Heap), (K w.params).In h → h.Ns mainGlobals mg → mg d.name = some (.ref fa) →
      ∃ fd : FuncData, (∀ (s : Shared) (u : Value), BindsTo s fd ⟨[u], []⟩ [("script", u)]) ∧ ∀ base : Heap, (K w.params).In base → base.Ns mainGlobals mg → FnOk l.prog w (K w.params) mg base CX0 10 fa fd ["script"] (spLaw (K w.params))) :
    PySem.W.WalkO q loose XP YP l.row.toRowW d [] (fun f vs => PySem.call f vs) :=
  L2.walk_of (n := 63) (k := 10) (x := "script") (CX := fun _ => CX0) (sp := fun w => spLaw (K w.params)) hn (by decide) hdf ⟨rfl, by decide, by decide⟩ hY F (fun _ _ a ns hl _ hS => ⟨a, ns, rfl, hS, hl, fun _ => rfl⟩) fun _ _ _ _ _ z => z
end Fo

open PySem PySem.W PyProof.Rows in
set_option maxRecDepth 100000 in
set_option maxHeartbeats 0 in
theorem PySem.Challenge.cw_filledonce_k04_whole_directions_holds : PySem.Challenge.rw_filledonce_k04_whole_directions.Holds := by
  w_on; o_law; k_head; (case hw => w_witness2)
  k_fill
  refine Fo.walk (l := PySem.Challenge.rw_filledonce_k04_whole_directions) rfl rfl (fun w h Y => PySem.W.kIn_of Y) ?F
  case F =>
    intro w mg fa h KX G hmg
    refine' Fo.all_mk KX G hmg ?aC ?aW ?lW ?cW ?kW ?aI ?iI ?lI ?cI ?kI ?aP ?lP ?cP ?kP ?aA ?lA ?cA ?kA ?aO ?lO ?cO ?kO ?aSg ?lSg ?cSg ?kSg ?aG ?lG ?cG ?kG ?aDr ?lDr ?cDr ?kDr ?aK ?lK ?cK ?kK ?aL ?lL ?cL ?kL ?aX ?iX ?lX ?cX ?kX ?aB ?lB ?cB ?kB ?aPl ?lPl ?cPl ?kPl ?aH ?lH ?cH ?kH ?aD ?lD ?cD ?kD ?aPr ?lPr ?cPr ?kPr ?aDn ?lDn ?cDn ?kDn ?aT ?lT ?cT ?kT ?aQ ?lQ ?cQ ?kQ ?aM ?iM ?lM ?cM ?kM ?aE ?iE ?lE ?cE ?kE ?aPm ?iPm ?lPm ?cPm ?kPm ?aSo ?lSo ?cSo ?kSo ?aZ ?lZ ?cZ ?kZ ?pg ?hd ?po ?sa ?mk ?kc ?nX ?nY ?ha ?hn ?htk ?hm ?kTC ?kCC ?sf ?rM ?sbI ?neE ?ntE ?z_isinstance ?z_len ?z_int ?z_bool ?z_tuple ?z_range ?z_max ?z_min ?z_abs ?z_sorted ?z_list ?aSi ?lSi ?lt0 ?lt1 ?lt2 ?lt3 ?lt4 ?lt5 ?lt6 ?lt7
    (case aC => first | k_is | rfl)
    (case aW => first | k_is | rfl)
    (case lW => first | k_is | rfl)
    (case cW => first | k_is | rfl)
    (case kW => first | k_is | rfl)
    (case aI => first | k_is | rfl)
    (case iI => first | k_is | rfl)
    (case lI => first | k_is | rfl)
    (case cI => first | k_is | rfl)
    (case kI => first | k_is | rfl)
    (case aP => first | k_is | rfl)
    (case lP => first | k_is | rfl)
    (case cP => first | k_is | rfl)
    (case kP => first | k_is | rfl)
    (case aA => first | k_is | rfl)
    (case lA => first | k_is | rfl)
    (case cA => first | k_is | rfl)
    (case kA => first | k_is | rfl)
    (case aO => first | k_is | rfl)
    (case lO => first | k_is | rfl)
    (case cO => first | k_is | rfl)
    (case kO => first | k_is | rfl)
    (case aSg => first | k_is | rfl)
    (case lSg => first | k_is | rfl)
    (case cSg => first | k_is | rfl)
    (case kSg => first | k_is | rfl)
    (case aG => first | k_is | rfl)
    (case lG => first | k_is | rfl)
    (case cG => first | k_is | rfl)
    (case kG => first | k_is | rfl)
    (case aDr => first | k_is | rfl)
    (case lDr => first | k_is | rfl)
    (case cDr => first | k_is | rfl)
    (case kDr => first | k_is | rfl)
    (case aK => first | k_is | rfl)
    (case lK => first | k_is | rfl)
    (case cK => first | k_is | rfl)
    (case kK => first | k_is | rfl)
    (case aL => first | k_is | rfl)
    (case lL => first | k_is | rfl)
    (case cL => first | k_is | rfl)
    (case kL => first | k_is | rfl)
    (case aX => first | k_is | rfl)
    (case iX => first | k_is | rfl)
    (case lX => first | k_is | rfl)
    (case cX => first | k_is | rfl)
    (case kX => first | k_is | rfl)
    (case aB => first | k_is | rfl)
    (case lB => first | k_is | rfl)
    (case cB => first | k_is | rfl)
    (case kB => first | k_is | rfl)
    (case aPl => first | k_is | rfl)
    (case lPl => first | k_is | rfl)
    (case cPl => first | k_is | rfl)
    (case kPl => first | k_is | rfl)
    (case aH => first | k_is | rfl)
    (case lH => first | k_is | rfl)
    (case cH => first | k_is | rfl)
    (case kH => first | k_is | rfl)
    (case aD => first | k_is | rfl)
    (case lD => first | k_is | rfl)
    (case cD => first | k_is | rfl)
    (case kD => first | k_is | rfl)
    (case aPr => first | k_is | rfl)
    (case lPr => first | k_is | rfl)
    (case cPr => first | k_is | rfl)
    (case kPr => first | k_is | rfl)
    (case aDn => first | k_is | rfl)
    (case lDn => first | k_is | rfl)
    (case cDn => first | k_is | rfl)
    (case kDn => first | k_is | rfl)
    (case aT => first | k_is | rfl)
    (case lT => first | k_is | rfl)
    (case cT => first | k_is | rfl)
    (case kT => first | k_is | rfl)
    (case aQ => first | k_is | rfl)
    (case lQ => first | k_is | rfl)
    (case cQ => first | k_is | rfl)
    (case kQ => first | k_is | rfl)
    (case aM => first | k_is | rfl)
    (case iM => first | k_is | rfl)
    (case lM => first | k_is | rfl)
    (case cM => first | k_is | rfl)
    (case kM => first | k_is | rfl)
    (case aE => first | k_is | rfl)
    (case iE => first | k_is | rfl)
    (case lE => first | k_is | rfl)
    (case cE => first | k_is | rfl)
    (case kE => first | k_is | rfl)
    (case aPm => first | k_is | rfl)
    (case iPm => first | k_is | rfl)
    (case lPm => first | k_is | rfl)
    (case cPm => first | k_is | rfl)
    (case kPm => first | k_is | rfl)
    (case aSo => first | k_is | rfl)
    (case lSo => first | k_is | rfl)
    (case cSo => first | k_is | rfl)
    (case kSo => first | k_is | rfl)
    (case aZ => first | k_is | rfl)
    (case lZ => first | k_is | rfl)
    (case cZ => first | k_is | rfl)
    (case kZ => first | k_is | rfl)
    (case pg => first | k_is | rfl)
    (case hd => first | k_is | rfl)
    (case po => first | k_is | rfl)
    (case sa => first | k_is | rfl)
    (case mk => first | k_is | rfl)
    (case kc => first | k_is | rfl)
    (case nX => first | k_is | rfl)
    (case nY => first | k_is | rfl)
    (case ha => first | k_is | rfl)
    (case hn => first | k_is | rfl)
    (case htk => first | k_is | rfl)
    (case hm => first | k_is | rfl)
    (case kTC => first | k_is | rfl)
    (case kCC => first | k_is | rfl)
    (case sf => first | k_is | rfl)
    (case rM => first | k_is | rfl)
    (case sbI => first | k_is | rfl)
    (case neE => first | k_is | rfl)
    (case ntE => first | k_is | rfl)
    (case z_isinstance => first | k_is | rfl)
    (case z_len => first | k_is | rfl)
    (case z_int => first | k_is | rfl)
    (case z_bool => first | k_is | rfl)
    (case z_tuple => first | k_is | rfl)
    (case z_range => first | k_is | rfl)
    (case z_max => first | k_is | rfl)
    (case z_min => first | k_is | rfl)
    (case z_abs => first | k_is | rfl)
    (case z_sorted => first | k_is | rfl)
    (case z_list => first | k_is | rfl)
    (case aSi => first | k_is | rfl)
    (case lSi => first | k_is | rfl)
    (case lt0 => first | k_is | rfl)
    (case lt1 => first | k_is | rfl)
    (case lt2 => first | k_is | rfl)
    (case lt3 => first | k_is | rfl)
    (case lt4 => first | k_is | rfl)
    (case lt5 => first | k_is | rfl)
    (case lt6 => first | k_is | rfl)
    (case lt7 => first | k_is | rfl)
#print axioms PySem.Challenge.cw_filledonce_k04_whole_directions_holds
