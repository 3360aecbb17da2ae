import PyProof.Rows.All
import Wide.All
import OpenK.AllK
import Wide.FinOn
import HandS.ForMost
import HandS.Wide
import HandS.IsInst
import HandS.ForExc
import PyProof.ReprRoads
import PyProof.CallFns
import KE.KExcIs
import HandS.Exc
import KE.KExcSuper
import HandS.ExcCtx
import HandS.NoneIn
import HandS.Evl
import HandS.More
import HandS.Style
import HandS.Property
import HandS.OwnEq
import HandS.WideBits
import PySem.Challenge.RW_filledonce_k71_whole_bits
set_option Elab.async false
set_option linter.all false
set_option maxRecDepth 100000
set_option maxHeartbeats 2000000
/-! own binary operators over the hand layer -/
namespace FoOps
open PySem PySem.W PyProof.Rows
section
variable {prog : Program} {w : World} {A : Around} {E : Value → Shared → Prop} {s : Shared} {K : Frag} {x C L f : Addr} {h₀ : Heap} {m : Str → Option Value} {ox : Obj} {od : Option Obj}
theorem tup_add : fillsNumberSlot (.type "tuple") "add" = pure false := by
  unfold fillsNumberSlot
  simp only [typeLookup_type, builtinLookup_eq_fast]
  kernel_rfl
theorem tup_sub : fillsNumberSlot (.type "tuple") "sub" = pure false := by
  unfold fillsNumberSlot
  simp only [typeLookup_type, builtinLookup_eq_fast]
  kernel_rfl
theorem binop_KT {op : Operator} {b : Value} {T : String} {Q : Value → Shared → Prop} (X : K.In s.heap) (I : InstAt s.heap x ox C od) (hT : s.TypeIs b T)
    (hfl : fillsNumberSlot (.type T) op.info.2 = pure false) (hc : selfFirst K C = true)
    (hs : findIn K (.ref C) (PySem.dunder op.info.2) = some (some (.ref f))) (hf : isFn K (.ref f) = true)
    (h : wpAny (model prog w) A (call (.ref f) [.ref x, b]) (PySem.W.CmpBack Q) E s) : wpAny (model prog w) A (binaryOp op (.ref x) b) Q E s := by
  obtain ⟨cd, hcd, hm⟩ := any_some hc
  obtain ⟨rest, hm⟩ : ∃ rest, cd.mro = .ref C :: rest := by
    cases q : cd.mro with
    | nil => rw [q] at hm; cases hm
    | cons a r => rw [q] at hm; exact ⟨r, by rw [List.head?_cons] at hm; cases (beq_iff_eq.mp hm); rfl⟩
  unfold binaryOp
  refine wpAny_holding (wpAny_bind ?_)
  unfold binaryOp1
  refine wpAny_bind (I.type.here (wpAny_bind (wpAny_typeOf hT (wpAny_bind ((fills_K X hcd hm hs).here ?_)))))
  have e : (Value.ref C == Value.type T) = false := by simp
  simp only [e, Bool.false_eq_true, if_false]
  refine wpAny_bind (wpAny_of_eq hfl ?_)
  simp only [Bool.and_false, Bool.false_eq_true, if_false, Bool.false_and, if_true]
  refine wpAny_bind (wpAny_pure ?_)
  simp only [Bool.false_eq_true, if_false]
  refine wpAny_bind (m := tryMethod (.ref x) _ b) ?_
  unfold tryMethod
  refine wpAny_bind (special_fn X I hs (beq_iff_eq.mp hf) (wpAny_mono h (fun v s' hv => ?_) fun _ _ e => e))
  cases v <;> first | exact hv.elim | exact wpAny_pure (wpAny_pure (wpAny_pure hv))
end
end FoOps

namespace L2
open PySem PySem.Spec PyProof.Rows
/-- an own class whose operator nm is the def at f -/
structure OwnOp (K : PySem.W.Frag) (C : Addr) (op : Operator) (f : Addr) : Prop where
  sf : PySem.W.selfFirst K C = true
  at_ : PySem.W.findIn K (.ref C) (PySem.dunder op.info.2) = some (some (.ref f))
  fn : PySem.W.isFn K (.ref f) = true
/-- a op b, a an instance of the class at C, b one too or a tracked tuple -/
def rOwnOp (C : Addr) (sp : Sp) (E : XK) : R2 := fun x y H Q => ∃ a dx fs, x = .ref a ∧ H a = some (.ins C dx fs) ∧
  ((∃ b dy gs, y = .ref b ∧ H b = some (.ins C dy gs)) ∨ ∃ b xs, y = .ref b ∧ H b = some (.tup xs)) ∧ sp [x, y] H Q E
section
variable {X : Cx} {CX : CXT} {k : Nat} {f C : Addr} {fd : FuncData} {ps : List Str} {sp : Sp} {E : XK}
theorem not_ni {z : V} {v : Value} (r : RelV z v) : v ≠ .notImplemented := by
  intro e
  subst e
  cases z <;> first | (cases r; done) | (obtain ⟨_, r⟩ := r; cases r)
theorem cmpBack_of {Q : Value → Shared → Prop} {v : Value} {s : Shared} (hn : v ≠ .notImplemented) (h : Q v s) : PySem.W.CmpBack Q v s := by
  cases v <;> first | exact h | exact absurd rfl hn
theorem op_own {op : Operator} (O : OwnOp X.K C op f) (hfl : fillsNumberSlot (.type "tuple") op.info.2 = pure false) (F : FnOk X.prog X.w X.K X.mg X.base CX k f fd ps sp) (hr : Room k X.A) (hb : Binds X.K fd ps []) (hx : Passes CX X E) :
    OpR X (binaryOp op) (rOwnOp C sp E) := by
  intro pins s σ H x y v u Q I rx ry h
  obtain ⟨a, dx, fs, rfl, ha, hy, q⟩ := h
  obtain rfl : v = Value.ref a := rx
  obtain ⟨mA, J, _⟩ := ins_get I.hok ha
  obtain ⟨od, J, _⟩ := J.look
  obtain ⟨m, hF⟩ := I.fr
  have run : wpAny (model X.prog X.w) X.A (call (.ref f) [.ref a, u]) (PySem.W.CmpBack (EP X pins σ Q)) X.xe s := by
    refine wpAny_mono (run_fn (us := [.ref a, u]) (vs := [.ref a, y]) F hr hb .nil hx I (.cons rfl (.cons ry .nil)) q) (fun r s' z => ?_) fun _ _ z => z
    obtain ⟨z1, H1, I1, rz, qz⟩ := z
    exact cmpBack_of (not_ni rz) ⟨z1, H1, I1, rz, qz⟩
  rcases hy with ⟨b, dy, gs, rfl, hb'⟩ | ⟨b, xs, rfl, hb'⟩
  · obtain rfl : u = Value.ref b := ry
    obtain ⟨mB, J', _⟩ := ins_get I.hok hb'
    obtain ⟨od', J', _⟩ := J'.look
    exact PySem.W.binop_K hF I.ok.mod.kin J J'.type O.sf O.at_ O.fn run
  · obtain rfl : u = Value.ref b := ry
    obtain ⟨_, _, _, o, h1, h2, _⟩ := (show ObjOk X.prog X.w H s.heap b (.tup xs) from I.hok b _ hb')
    exact FoOps.binop_KT I.kIn J ⟨o, h1, h2⟩ hfl O.sf O.at_ O.fn run
end
end L2
set_option Elab.async false
set_option linter.all false
set_option maxRecDepth 100000
set_option maxHeartbeats 2000000
/-! defs that are called where no guard stands (so that repr of lists and tuples can be told) -/
namespace L2
open PySem PySem.Spec PyProof.Rows
/-- the promise of a def, where nothing is being shown around it -/
structure FnG (P : Program) (w : World) (K : PySem.W.Frag) (mg : Str → Option Value) (base : Heap) (CX : CXT) (k : Nat) (f : Addr) (fd : FuncData) (ps : List Str) (sp : Sp) : Prop where
  len : ∀ vs H Q E, sp vs H Q E → vs.length = ps.length
  run : ∀ (A : Around), A.guards = some [] → ∀ (outer : List Env) (s : Shared) (H : Hp) (args : Args) (us : List Value) (vs : List V) (Q : VK) (E : XK), Room k A → Env0 P w K mg base A outer s H → BindsTo s fd args (ps.zip us) → Vals vs us → sp vs H Q E →
    codeAny (model P w) A (.call (.ref f) args) (CR CX outer P w H s Q E) s
section
variable {P : Program} {w : World} {K : PySem.W.Frag} {mg : Str → Option Value} {base : Heap}
/-- by its body -/
theorem Fun.okG {x qual : Str} {st : Stmt} {f : Addr} {fd : FuncData} {N ps : List Str} {k : Nat} {sp : Sp} (F : Fun K x qual st f fd) (S : FnScope N ps (defScope st)) (len : ∀ vs H Q E, sp vs H Q E → vs.length = ps.length)
    (walk : ∀ (cdv : Value) (A : Around) (outer : List Env) (s : Shared) (H : Hp) (vs : List V) (Q : VK) (E : XK), A.guards = some [] → Room k (A.deeper (envOfC qual (defScope st) s.heap.objs.size f cdv)) → sp vs H Q E →
      ∃ t, PSs (cxOf CX0 P w K mg base N qual (defScope st) f cdv A outer s H E).nox (defBody st) t ∧ t { nx := fun _ H' => Q .non H', rt := Q } (start N vs) H) : FnG P w K mg base CX0 (k + 1) f fd ps sp := by
  obtain ⟨oc, od, kV, doc, pm, an, cdv, ct, osl, rfl, lk, hcd⟩ := F.ex
  constructor
  · exact len
  intro A hgd outer s H args us vs Q E room env bind rel want
  have inB : ∀ b o, base.get? b = some o → s.heap.get? b = some o := fun b o z => (env.bs b o z).1
  have inK := env.mod.kin.keeps inB
  have kinds : ∀ y ∈ ps.zip us, (defScope st).names.lookup y.1 = some .local ∨ ((defScope st).names.lookup y.1 = some .cell ∧ ((cellsFrom (s.heap.objs.size + 1) (defScope st).names []).lookup y.1).isSome = true) := by
    rintro ⟨n, v⟩ hy
    exact (S.par n (List.of_mem_zip hy).1).imp id fun q => ⟨q, PySem.W.cellsFrom_some _ _ _ (.inl q)⟩
  refine codeAny_call_function room.depth (inK _ _ lk) rfl S.co S.gen rfl (PySem.W.codeRec_of inK hcd) (bind _ _ _ _ (wpAny_newFunctionEnv_cells S.kind kinds ?_))
  rintro _ rfl s1 entry
  refine ⟨(env.mod.nolimit.keeps inB).keeps entry.toInCall.keep, codeAny_func ?_⟩
  obtain ⟨t, body, told⟩ := walk cdv A outer s H vs Q E hgd (room.deeper _) want
  have start0 := inv_start (CX := CX0) (E := E) S room.hd env (len _ _ _ _ want) rel entry
  refine wpAny_mono (body.nox.run [] s1 (start N vs) H _ start0 told) ?_ fun _ _ z => z
  intro fl s' z
  cases fl with
  | ret u =>
    obtain ⟨v, σ', H', J, rv, q⟩ := z
    exact ⟨v, H', J.os, J.bare, J.base, J.hok, rv, q⟩
  | next =>
    obtain ⟨σ', H', J, q⟩ := z
    exact ⟨.non, H', J.os, J.bare, J.base, J.hok, rfl, q⟩
  | brk => exact z.elim fun _ z => z.elim fun _ z => z.2.elim
  | cont => exact z.elim fun _ z => z.elim fun _ z => z.2.elim
end
section
variable {X : Cx} {CX : CXT} {k : Nat} {f : Addr} {fd : FuncData} {ps : List Str} {sp : Sp} {E : XK} {x : Str} {p pos : Pos} {e : Expr} {es : List Expr} {t : TA}
/-- f(e, ..) of such a def -/
theorem pe_callG (F : FnG X.prog X.w X.K X.mg X.base CX k f fd ps sp) (hgd : X.A.guards = some []) (hr : Room k X.A) (hg : Gl X x) (hm : X.mg x = some (.ref f)) (hk : PySem.W.keepIn X.K (.ref f) = true) (hb : Binds X.K fd ps []) (hx : Passes CX X E)
    (ha : PA X (e :: es) t) (hdb : (x == ("__debug__" : Str)) = false := by decide) (he : starEach (e :: es) X.env = (false, eval e X.env) :: starEach es X.env := by rfl) (hpl : (backTo pos (starEach es X.env)).any (·.1) = false := by rfl) :
    PE X (.Call (.Name x p) (e :: es) [] pos) (tCall sp [] E t) := by
  constructor
  intro pins s σ H Q I h
  refine wpAny_Call_Name_kw (ld_glob I hg hm (PySem.W.callWith_K (h₀ := X.base) I.ok.mod.kin hk (thn (ha.run pos pins s σ H _ I h) ?_) he hpl) hdb)
  rintro us s1 ⟨vs, H1, I1, rel, want⟩
  refine ⟨I1.kIn, ?_⟩
  rw [List.append_nil] at want
  have ln : us.length = ps.length := rel.length.symm.trans (F.len _ _ _ _ want)
  have bnd := hb s1 us I1.kIn (by rw [List.append_nil]; exact ln)
  rw [List.append_nil] at bnd
  refine wpAny_call (codeAny_mono (F.run X.A hgd X.stack s1 H1 ⟨us, []⟩ us vs Q E hr I1.env0 bnd rel want) ?_)
  intro r s' z
  rcases r with e | (u | _ | _ | _)
  · exact hx pins σ H1 s1 e s' I1 z
  all_goals first | exact I1.after z | exact False.elim z
end
end L2
namespace L2
open PySem PySem.Spec PyProof.Rows
/-- the end of a law whose def is such a one -/
theorem walk_ofG {l : PySem.W.OpenLaw} {n k : Nat} {q : Program} {loose : List Str} {XP : (Str → Option Value) → Heap → Prop} {YP : World → Heap → Prop} {d : DefRec} {K : Params → PySem.W.Frag} {sp : World → Sp} {x : Str}
    (hn : l.most = some n) (hn2 : n ≤ sizeLine) (hdf : d.params.defaults = []) (hr : Room k callerA) (hY : ∀ (w : World) (h : Heap), YP w h → (K w.params).In h)
    (F : ∀ (w : World) (mg : Str → Option Value) (fa : Addr) (h : Heap), (K w.params).In h → h.Ns mainGlobals mg → mg d.name = some (.ref fa) →
      ∃ fd : FuncData, (∀ (s : Shared) (u : Value), BindsTo s fd ⟨[u], []⟩ [(x, u)]) ∧ ∀ base : Heap, (K w.params).In base → base.Ns mainGlobals mg → FnG l.prog w (K w.params) mg base CX0 k fa fd [x] (sp w))
    (hsp : ∀ (w : World) (H : Hp) (a : Addr) (ns : List Int), ns.length ≤ n → SqL (K w.params) H a (ns.map V.int) → sp w [.ref a] H (fun v _ => v = .bl true) E0) :
    PySem.W.WalkO q loose XP YP l.row.toRowW d [] (fun f vs => PySem.call f vs) := by
  refine Att.attach_call hn hdf fun w s₀ s₁ mg mb fa o pm cd doc a vs ns G Y _ _ _ hmg hobj hints hlen hg => ?_
  have inK := hY w _ Y
  obtain ⟨fd, bind, told⟩ := F w mg fa _ inK G.T.g hmg
  have rel := vals_ints hints
  have long : ns.length ≤ sizeLine := Nat.le_trans hlen hn2
  -- any abstract heap that knows at most the script, as it lies
  have key : ∀ H : Hp, (∀ b u, H b = some u → b = a ∧ (K w.params).lookup a = none ∧ u = .frz { cls := .type "list", data := .seq vs.toArray } (.lst (ns.map V.int))) → SqL (K w.params) H a (ns.map V.int) → HOk l.prog w H s₁.heap →
      codeAny (model l.prog w) callerA (.call (.ref fa) ⟨[.ref a], []⟩) (fun r s' => r = .ok (.ret (.bool true)) ∧ OldK s₁.heap s'.heap ∧ s'.os = s₁.os ∧ AllBare s'.gens) s₁ := by
    intro H only sq ok
    have keepN : ∀ {b : Addr} {m : Str → Option Value}, s₁.heap.Ns b m → (hidT s₁.heap H).Ns b m := by
      rintro b m ⟨ob, es, ep, h1, h2, r⟩
      refine ⟨ob, es, ep, hidT_get h1 ?_, h2, r⟩
      cases hH : H b with
      | none => rfl
      | some u =>
        obtain ⟨rfl, _, _⟩ := only b u hH
        rw [hobj] at h1
        cases h1
        cases h2
    have kIn' : (K w.params).In (hidT s₁.heap H) := fun b ob z => hidT_get (inK b ob z) (by
      cases hH : H b with
      | none => rfl
      | some u =>
        obtain ⟨rfl, hno, _⟩ := only b u hH
        rw [hno] at z
        cases z)
    obtain ⟨mc, c1, c2⟩ := G.T.nolimit
    have env : Env0 l.prog w (K w.params) mg (hidT s₁.heap H) callerA [] s₁ H := by
      refine ⟨rfl, ⟨kIn', keepN G.T.g, ⟨mb, keepN G.T.b, G.T.builtins⟩, ⟨mc, keepN c1, c2⟩⟩, fun b ob z => of_hidT z, Nat.le_of_eq (hidT_size _ _), trivial, fun b hb => ?_, ok, .of_eq hg⟩
      have hb' : b ∈ ([] : List Addr) := hb
      cases hb'
    refine codeAny_mono ((told _ kIn' (keepN G.T.g)).run callerA rfl [] s₁ H ⟨[.ref a], []⟩ [.ref a] [.ref a] _ _ hr env (bind s₁ (.ref a)) (.cons rfl .nil) (hsp w H a ns hlen sq)) ?_
    intro r s' z
    cases r with
    | error e => exact False.elim z
    | ok fl =>
      cases fl with
      | next => exact False.elim z
      | brk => exact False.elim z
      | cont => exact False.elim z
      | ret u =>
        obtain ⟨v, H', os, bare, un, ok', rv, ev⟩ := z
        have ev' : v = .bl true := ev
        subst ev'
        obtain rfl : u = Value.bool true := rv
        refine ⟨rfl, OldK.of_keep fun b ob hb => ?_, os, bare⟩
        cases hH : H b with
        | none =>
          refine un.keep b ob hb hH (fun hm => ?_) (by simp)
          have hm' : b ∈ ([] : List Addr) := hm
          cases hm'
        | some u =>
          obtain ⟨rfl, _, rfl⟩ := only b u hH
          obtain ⟨e1, _⟩ := ok b _ hH
          obtain ⟨e2, _⟩ := ok' b _ (un.frzs b _ _ hH)
          rw [hb] at e1
          cases e1
          exact e2
  by_cases hk : (K w.params).lookup a = none
  · refine key (fun b => if b = a then some (.frz { cls := .type "list", data := .seq vs.toArray } (.lst (ns.map V.int))) else none) (fun b u z => ?_) (.inl (.inr ⟨_, if_pos rfl⟩)) (fun b u z => ?_)
    · try dsimp only at z
      by_cases hb : b = a
      · rw [if_pos hb] at z
        exact ⟨hb, hk, (Option.some.inj z).symm⟩
      · rw [if_neg hb] at z
        cases z
    · try dsimp only at z
      by_cases hb : b = a
      · rw [if_pos hb] at z
        cases z
        subst hb
        exact ⟨hobj, by rw [List.length_map]; exact long, vs, _, rel, hobj⟩
      · rw [if_neg hb] at z
        cases z
  · obtain ⟨ob, hob⟩ := Option.ne_none_iff_exists'.mp hk
    have same := inK a ob hob
    rw [hobj] at same
    cases same
    refine key (fun _ => none) (fun b u z => by cases z) (.inr ⟨_, vs.toArray, _, hob, rfl, rfl, rfl, ?_, by simpa using rel⟩) (fun b u z => by cases z)
    rw [List.size_toArray, hints.length]
    exact long
end L2
set_option Elab.async false
set_option linter.all false
set_option maxRecDepth 100000
set_option maxHeartbeats 2000000
/-! repr of data, where no guard stands -/
namespace L2
open PySem PySem.Spec PyProof.Rows
def rReprD (K : PySem.W.Frag) : List V → Hp → VK → Prop := fun xs H Q => ∃ x d, xs = [x] ∧ Dp K H x d ∧ d.showable = true ∧ d.hasDict = false ∧ d.depth ≤ 60 ∧ d.shown.length ≤ sizeLine ∧ Q (.str d.shown) H
theorem call_reprD {X : Cx} (hgd : X.A.guards = some []) (hu : X.A.units + 64 < cLine) : CallR X (.builtin "repr") (rReprD X.K) := by
  intro pins s σ H xs us Q I r h
  obtain ⟨x, d, rfl, hd, hs, hnd, hdp, hz, q⟩ := h
  obtain ⟨u, rfl, rx⟩ := vals1 r
  obtain ⟨as, rd⟩ := Dp.reads I d x u hd rx
  cases hd with
  | non =>
    obtain rfl : u = Value.none := rx
    exact PySem.P.repr_of_none ⟨.str "None", H, I.tok _, ⟨_, rfl⟩, q⟩
  | bl b =>
    obtain rfl : u = Value.bool b := rx
    exact PySem.P.repr_of_bool ⟨.str _, H, I.tok _, ⟨_, rfl⟩, q⟩
  | int i =>
    obtain ⟨t, rfl⟩ := rx
    exact PySem.P.repr_of_int (by simpa [PyData.showable] using hs) ⟨.str (toString i), H, I.tok _, ⟨_, rfl⟩, q⟩
  | str y =>
    obtain ⟨t, rfl⟩ := rx
    exact PySem.P.repr_of_str ⟨.str (reprText y), H, I.tok _, ⟨_, rfl⟩, q⟩ hz
  | @lst a ys ds h1 h2 =>
    obtain rfl : u = Value.ref a := rx
    exact repr_of_reads' rd hs (fun z => by rw [hnd] at z; cases z) hgd (by omega) (fun _ _ z => z) (fun h' v tk k => ⟨.str _, H, I.kept k, ⟨_, rfl⟩, q⟩) hz
  | @tup a ys ds h1 h2 =>
    obtain rfl : u = Value.ref a := rx
    exact repr_of_reads' rd hs (fun z => by rw [hnd] at z; cases z) hgd (by omega) (fun _ _ z => z) (fun h' v tk k => ⟨.str _, H, I.kept k, ⟨_, rfl⟩, q⟩) hz
end L2
namespace L2
open PySem PySem.Spec PyProof.Rows
/-- what an own error class says, so that isinstance asks its instances rightly -/
structure XIsC (K : PySem.W.Frag) (D : Addr) : Prop where
  hg : PySem.W.findIn K (.ref D) "__getattribute__" = some (some (.builtin "BaseException.__getattribute__"))
  hk : PySem.W.findIn K (.ref D) "__getattr__" = some none
  hs : PySem.W.subIn K (.ref D) (.type "BaseException") = some true
  hd : PySem.W.hasDictIn K D = true
  ha : PySem.W.findIn K (.ref D) "__class__" = some (some (.builtin "object.__class__"))
  hn : PySem.W.specialIn K (.builtin "object.__class__") "__get__" = some (some (.builtin "getset_descriptor.__get__"))
  ht : PySem.W.takesIn K (.builtin "object.__class__") = some true
  hm : PySem.W.mroIn K D (.type "object") = some true
end L2
namespace L2
open PySem PySem.Spec PyProof.Rows
/-- isinstance(e, c), e the error that the suite holds (at a; its class cls, its dict d) -/
def rIsX (K : PySem.W.Frag) (a : Addr) (cls : Value) (d : Option Addr) : List V → Hp → VK → Prop := fun xs H Q => ∃ (D dd : Addr) (fs : List (Str × V)) (c : V) (cv : Value) (b : Bool), xs = [.ref a, c] ∧ cls = .ref D ∧ d = some dd ∧ H dd = some (.xd fs) ∧ ClsV c cv ∧ XIsC K D ∧
  PySem.W.kitOne K (.ref D) cv = some b ∧ Q (.bl b) H
theorem call_isX {X : Cx} {a : Addr} {oe : Obj} {cls : Value} {d : Option Addr} {pn : List (Addr × Obj)} (hz : Zc cls d oe) (hf : ∃ vs, oe.data = .fields vs) : CallR (X.suite a ((a, oe) :: pn)) (.builtin "isinstance") (rIsX X.K a cls d) := by
  intro pins s σ H xs us Q I r h
  obtain ⟨D, dd, fs, c, cv, b, rfl, rfl, rfl, hdd, hcv, T, e, q⟩ := h
  obtain ⟨u1, u2, rfl, r1, r2⟩ := vals2 r
  obtain rfl : u1 = Value.ref a := r1
  obtain rfl := hcv.eq r2
  obtain ⟨ha, _⟩ := I.pin (a, oe) (List.mem_append_left _ List.mem_cons_self)
  obtain ⟨vs, hd⟩ := hf
  obtain ⟨mA, hns, _⟩ := (show ObjOk X.prog X.w H s.heap dd (.xd fs) from I.hok dd _ hdd)
  obtain ⟨od, ho, _⟩ := lookIn_ns hns
  have J : PySem.W.InstAt s.heap a oe D (some od) := ⟨ha, hz.1, by unfold PySem.W.notCls; rw [hd] <;> rfl, by rw [hz.2]; exact ho⟩
  have hcl : (PySem.W.clsIn X.K D).isSome = true := by
    obtain ⟨cd, hc, _⟩ := PySem.W.any_some T.hd
    rw [hc]
    rfl
  exact PySem.W.kia_one (PySem.W.kitx_exc hcl T.hg T.hk T.hs T.ha T.hn T.ht T.hm) I.kIn J e (fun z => nomatch z) fun tk => ⟨.bl b, H, I.kept (t' := tk) fun _ _ z => z, rfl, q⟩
end L2
set_option Elab.async false
set_option linter.all false
set_option maxRecDepth 100000
set_option maxHeartbeats 2000000
/-! an own error over ValueError (perhaps over others between), whose __init__ says super().__init__(text) and keeps one field -/
namespace FoX
open PySem PySem.W PySem.Calls PyProof.Rows PySem.HandSPX
theorem one_sz (v : Value) : [v].length ≤ sizeLine := by
  rw [sizeLine_eq]
  exact (by decide : 1 ≤ 16777216)
section
variable {prog : Program} {w : World} {A : Around} {E : Value → Shared → Prop} {h : Heap} {g : Array GenState} {d : Drawn} {t : Nat} {os : OsState}
/-- the bound built-in __init__ called -/
theorem mw_call {nm q : Str} {C N u e t0 : Addr} {bs bm : List Value} {hdct : Bool} {sn : List Str} {sub : List Value} {ab : Bool} {col : Option Bool} {dd : Option Addr} {k0 k1 k2 k3 k5 : Option Value} {rest : List Value} {Q : Value → Shared → Prop}
    (hC : h.get? C = some (excClassObj nm q C N bs bm hdct sn sub ab col dd k0 k1 k2 k3 k5 "ValueError.__new__")) (he : h.get? e = some (HandSPX.excO C t0)) (hu : h.get? u = some (kxs_mw "ValueError.__init__" e)) (hz : rest.length ≤ sizeLine)
    (hq : ∀ h' t1, (∀ b o, b ≠ e → h.get? b = some o → h'.get? b = some o) → h'.get? e = some (HandSPX.excO C t1) → Q .none ⟨h', g, d, t, os⟩) :
    wpAny (model prog w) A (call (.ref u) rest) Q E ⟨h, g, d, t, os⟩ := by
  refine wpAny_call (codeAny_of_tree ?_)
  show wpAny (model prog w) A.in1 (callAny (.ref u) ⟨rest, []⟩) _ _ _
  simp only [callAny]
  refine wpAny_bind (wpAny_load hu ?_)
  have tb : (Value.type "method-wrapper" == Value.type "method" || Value.type "method-wrapper" == Value.type "builtin_function_or_method" || Value.type "method-wrapper" == Value.type "method-wrapper") = true := by decide
  simp only [kxs_mw, tb, if_true]
  refine KFB.if_so (by decide) (wpAny_bind (check_bound_init F.excBase_ValueError.toExcCallFacts hC he rfl ?_))
  refine wpAny_bind (wpAny_pure (wpAny_pure ⟨plainId_quiet F.excBase_ValueError.init.plain _, codeAny_builtin F.excBase_ValueError.initEntry ?_⟩))
  exact exc_init_tree (cls := .ref C) (t0 := t0) (dv := none) (c2 := .none) (c3 := .none) (b4 := .bool false) he hz fun h' k e' _ => hq h' _ k e'
end
end FoX
set_option Elab.async false
set_option linter.all false
set_option maxRecDepth 100000
set_option maxHeartbeats 2000000
namespace FoX_number
open PySem PySem.W PySem.Calls PyProof.Rows PySem.HandSPX FoX
/-- the text of such an __init__ -/
def xB (msg : Str) (a1 a2 a3 a4 a5 a6 q1 q2 q3 q4 : Pos) (j : Nat) : List Stmt :=
  [.Expr (.Call (.Attribute (.Call (.Name "super" a1) [] [] a2) "__init__" a3) [.Constant (.str msg) j a4] [] a5) a6, .Assign [.Attribute (.Name "self" q1) (Str.ofString "number") q2] (.Name (Str.ofString "number") q3) q4]
def xS : Scope := { kind := .function, names := [(Str.ofString "self", .local), ((Str.ofString "number"), .local), (Str.ofString "__class__", .free), (Str.ofString "super", .globalImplicit)], isGenerator := false, isCoroutine := false, more := [] }
def xA (p1 p2 : Pos) : Arguments := { posonlyargs := [], args := [{ arg := "self", annotation := none, pos := p1 }, { arg := (Str.ofString "number"), annotation := none, pos := p2 }], vararg := none, kwonlyargs := [], kw_defaults := [], kwarg := none, defaults := [] }
/-- what the written part says of the class at C and its __init__ at fI -/
structure XTxt (P : Program) (K : Frag) (mg : Str → Option Value) (C fI : Addr) : Prop where
  cls : ∃ nm q N bs bm sn sub ab col dd k0 k1 k2 k3 k5, K.lookup C = some (excClassObj nm q C N bs bm true sn sub ab col dd k0 k1 k2 k3 k5 "ValueError.__new__") ∧ refsVE bm = true
  sa : findIn K (.ref C) "__setattr__" = some (some (.builtin "object.__setattr__"))
  ga : findIn K (.ref C) "__getattribute__" = some (some (.builtin "BaseException.__getattribute__"))
  gg : findIn K (.ref C) "__getattr__" = some none
  noN : findIn K (.ref C) (Str.ofString "number") = some none
  iC : findIn K (.ref C) "__init__" = some (some (.ref fI))
  tC : typeIn K (.ref fI) = some (.type "function")
  kC : keepIn K (.ref C) = true
  exC : subIn K (.ref C) (.type "BaseException") = some true
  tyC : typeIn K (.ref C) = some (.type "type")
  hdC : hasDictIn K C = true
  sup : ks_superIn K C C "__init__" = some (some (.builtin "ValueError.__init__"))
  tp : nsIn K cStatics "thirdparty.any" = some none
  zs : mg "super" = none
  ve : subIn K (.ref C) (.type "ValueError") = some true
  mr : mroIn K C (.ref C) = some true
  top : (P.main.scope.names.lookup ("super" : Str)).isSome = false
  fn : ∃ (qual msg : Str) (oc : Value) (od : Option Addr) (doc pm kV : Value) (an : Option Addr) (cc cda : Addr) (ct : Value) (osl : Array (Option Value)) (p1 p2 a1 a2 a3 a4 a5 a6 q1 q2 q3 q4 : Pos) (j : Nat) (ccl cl : Value) (cdd cld : Option Addr) (vs : Array Value) (ccs csl : Array (Option Value)) (file : Str) (tf : Tok),
    K.lookup fI = some ⟨oc, od, .func (ksFn "__init__" qual (xA p1 p2) (xB msg a1 a2 a3 a4 a5 a6 q1 q2 q3 q4 j) xS .none kV doc pm an (.ref cda) ct cc), osl⟩ ∧ codeIn K (.ref cda) qual = true ∧
    K.lookup cda = some ⟨ccl, cdd, .fields vs, ccs⟩ ∧ vs[2]? = some (.str file tf) ∧ ((P.main.file : Str) == file) = true ∧ (a3.endLine == a5.line) = true ∧ K.lookup cc = some ⟨cl, cld, .cell (some (.ref C)), csl⟩
theorem xcel : ∀ y ∈ xS.names, y.2 ≠ .cell := by decide
/-- the call of super's method, its tree -/
theorem x_tree (msg : Str) (a1 a2 a3 a4 a5 : Pos) (j : Nat) (env : Env) (hl : (a3.endLine == a5.line) = true) : eval (.Call (.Attribute (.Call (.Name "super" a1) [] [] a2) "__init__" a3) [.Constant (.str msg) j a4] [] a5) env = (do
      let ov ← attributeBase (.Call (.Name "super" a1) [] [] a2) "__init__" env (eval (.Call (.Name "super" a1) [] [] a2) env)
      standAt a3.atName
      let (f, first) ← holding [ov] (getMethod ov "__init__" (do return (← importBound (.Call (.Name "super" a1) [] [] a2) env).getD true))
      callWith a5 f first (backTo a5 (starEach [.Constant (.str msg) j a4] env)) []) := by
  rw [arm_eval_Call]
  unfold methodCall methodCallPos
  simp only [hl, Bool.or_true, if_true]
  rfl
/-- what __init__ leaves of a fresh error at x -/
structure XEnd (h h' : Heap) (x C dx : Addr) (v : Value) : Prop where
  keep : ∀ b o, b ≠ x → h.get? b = some o → h'.get? b = some o
  obj : ∃ t1 : Addr, h'.get? x = some { cls := .ref C, dict := some dx, data := .fields #[.ref t1, .none, .none, .none, .bool false, .none] }
  dbig : h.objs.size ≤ dx
  dne : dx ≠ x
  ns : h'.Ns1 dx (fun y => if y = (Str.ofString "number") then some v else none)
section
variable {prog : Program} {w : World} {A : Around} {E : Value → Shared → Prop} {R : Result → Shared → Prop} {s : Shared} {K : Frag} {mg : Str → Option Value} {C fI : Addr}
theorem x_init (T : XTxt prog K mg C fI) {x t0 : Addr} {v : Value} (X : K.In s.heap) (hg : s.heap.Ns mainGlobals mg) (hbl : ∃ mb, s.heap.Ns builtinsNs mb ∧ ∀ y : Str, y ≠ "__name__" → mb y = bootBuiltins y) (hlim : s.heap.NoLimit)
    (hx : s.heap.get? x = some (HandSPX.excO C t0)) (hnx : K.lookup x = none) (hroom : A.depth < recursionLimit) (hq : ∀ h' tk dx, XEnd s.heap h' x C dx v → R (.ok (.ret .none)) { s with heap := h', toks := tk }) :
    codeAny (model prog w) A (.call (.ref fI) ⟨[.ref x, v], []⟩) R s := by
  obtain ⟨qual, msg, oc, od, doc, pm, kV, an, cc, cda, ct, osl, p1, p2, a1, a2, a3, a4, a5, a6, q1, q2, q3, q4, j, ccl, cl, cdd, cld, vs, ccs, csl, file, tf, ho, hcd, hcode, hvs, hfile, hline, hcell⟩ := T.fn
  obtain ⟨nm, q, N, bs, bm, sn, sub, ab, col, dd, k0, k1, k2, k3, k5, hC, hbm⟩ := T.cls
  have hcl : clsIn K C = some { name := nm, bases := bs, mro := .ref C :: bm, ns := N, qualname := q, hasDict := true, slotNames := sn, subclasses := sub, abstract := ab, collection := col, hasDel := false } := by unfold clsIn; rw [hC] <;> rfl
  obtain ⟨hp, g, d, tk, os⟩ := s
  refine ks_codeAny_call_defAt (fd := ksFn "__init__" qual (xA p1 p2) (xB msg a1 a2 a3 a4 a5 a6 q1 q2 q3 q4 j) xS .none kV doc pm an (.ref cda) ct cc) (body := xB msg a1 a2 a3 a4 a5 a6 q1 q2 q3 q4 j) (binds := [(Str.ofString "self", .ref x), ((Str.ofString "number"), v)]) hroom (X _ _ ho) rfl hlim (codeRec_of X hcd) rfl (BindsTo.of_eq rfl) xcel ?_ (fun h₁ hns k => ?_) rfl rfl rfl
  · intro y hy
    rcases List.mem_cons.mp hy with rfl | hy
    · exact rfl
    · rcases List.mem_cons.mp hy with rfl | hy
      · exact rfl
      · cases hy
  have X₁ : K.In h₁ := X.keeps k
  have hx₁ : h₁.get? x = some (HandSPX.excO C t0) := k _ _ hx
  have I₁ : InstAt h₁ x (HandSPX.excO C t0) C none := ⟨hx₁, rfl, rfl, trivial⟩
  have vself : (fun y : Str => List.lookup y (List.reverse [((Str.ofString "self"), Value.ref x), ((Str.ofString "number"), v)])) (Str.ofString "self") = some (.ref x) := by
    have e : ((Str.ofString "self") == (Str.ofString "number")) = false := by decide +kernel
    simp [List.lookup, e]
  have vfld : (fun y : Str => List.lookup y (List.reverse [((Str.ofString "self"), Value.ref x), ((Str.ofString "number"), v)])) (Str.ofString "number") = some v := by
    simp [List.lookup]
  obtain ⟨mb, hb1, hb2⟩ := hbl
  -- super().__init__(text)
  refine ks_wpAt_execs_cons (ks_wpAt_Expr_any (ks_wpAt_MethodCall ?_ (x_tree msg a1 a2 a3 a4 a5 j _ hline)) rfl rfl)
  refine ks_wpAt_super_base (f := fI) (fd := ksFn "__init__" qual (xA p1 p2) (xB msg a1 a2 a3 a4 a5 a6 q1 q2 q3 q4 j) xS .none kV doc pm an (.ref cda) ct cc) (ar := { arg := "self", annotation := none, pos := p1 }) rfl rfl rfl rfl (X₁ _ _ ho) rfl rfl rfl (X₁ _ _ hcode) rfl hvs hfile T.top ?_
  refine ks_loadName_global rfl rfl (loadGlobal_builtin (hg.keeps k) T.zs (hb1.keeps k) ((hb2 _ (by decide +kernel)).trans (by decide +kernel)) ⟨rfl, ?_⟩)
  refine wpAny_loadName_free rfl rfl rfl ⟨_, X₁ _ _ hcell, rfl⟩ ?_
  refine wpAny_loadName_local rfl rfl hns vself ?_
  obtain ⟨oD, hD1, hD2⟩ : ∃ oD, h₁.get? C = some oD ∧ oD.data = .cls { name := nm, bases := bs, mro := .ref C :: bm, ns := N, qualname := q, hasDict := true, slotNames := sn, subclasses := sub, abstract := ab, collection := col, hasDel := false } := ⟨_, X₁ _ _ hC, rfl⟩
  refine ks_wpAny_isType_cls hD1 hD2 ⟨rfl, ?_⟩
  refine ks_wpAny_call_super hD1 hD2 hx₁ rfl (fun c e => by cases e) (looks_mroIn X₁ T.mr) (fun h₂ e₂ k₂ => ?_)
  have X₂ : K.In h₂ := X₁.keeps k₂
  have hx₂ : h₂.get? x = some (HandSPX.excO C t0) := k₂ _ _ hx₁
  have I₂ : InstAt h₂ x (HandSPX.excO C t0) C none := ⟨hx₂, rfl, rfl, trivial⟩
  have hsup := T.sup
  unfold ks_superIn at hsup
  rw [hcl] at hsup
  have hmro : Looks (model prog w) h₂ (mroOf (.ref C)) (.ref C :: bm) := (looks_clsIn X₂ hcl).andThen .now
  refine kxs_getMethod kxs_ValueError e₂ (looks_opaque X₂ T.tp) hmro rfl X₂ hsup (I₂.type.andThen (looks_subIn X₂ T.ve)) (ks_ne X₂ I₂ hcl) rfl ?_
  -- the wrapper called
  have hk₃ : ∀ b o, h₂.get? b = some o → (h₂.push (kxs_mw "ValueError.__init__" x)).get? b = some o := fun b o e => Heap.get?_push_of_some _ e
  have hu₃ : (h₂.push (kxs_mw "ValueError.__init__" x)).get? h₂.objs.size = some (kxs_mw "ValueError.__init__" x) := Heap.get?_push_at rfl rfl
  refine kxs_callWith (i := "ValueError.__init__") (x := x) rfl (evalArgs_plain (Calls.spliced_cons (Calls.Constant_str (pos := a4) (k := j) (Calls.spliced_nil ⟨hu₃, ?_⟩))))
  refine mw_call (X₂.keeps hk₃ _ _ hC) (hk₃ _ _ hx₂) hu₃ (one_sz _) (fun h₄ t1 k₄ hx₄ => ?_)
  have kall : ∀ b o, b ≠ x → hp.get? b = some o → h₄.get? b = some o := fun b o hb e => k₄ b o hb (hk₃ b o (k₂ b o (k b o e)))
  have xC : x ≠ C := ks_ne X₂ I₂ hcl
  have X₄ : K.In h₄ := fun b o e => kall b o (fun z => by rw [z, hnx] at e; cases e) (X b o e)
  have hL : hp.objs.size ≠ x := Nat.ne_of_gt (Heap.lt_size hx)
  have hns₄ : h₄.Ns hp.objs.size (fun y => List.lookup y (List.reverse [((Str.ofString "self"), Value.ref x), ((Str.ofString "number"), v)])) := by
    obtain ⟨oL, es, ep, hoL, r⟩ := hns
    exact ⟨oL, es, ep, k₄ _ _ hL (hk₃ _ _ (k₂ _ _ hoL)), r⟩
  -- self.field = field
  refine wpAt_of_wpAny ?_
  refine wpAny_execs_cons (plainObj_wpAny_Assign_Attribute ?_)
  refine wpAny_Name (wpAny_loadName_local rfl rfl hns₄ vfld (wpAny_Name (wpAny_loadName_local rfl rfl hns₄ vself ?_) (by decide))) (by decide)
  refine set_plain X₄ (ox := HandSPX.excO C t1) (od := none) ⟨hx₄, rfl, rfl, trivial⟩ T.sa ?_
  refine exc_osa X₄ hx₄ hcl (show refsVE (.ref C :: bm) = true from hbm) rfl T.noN (fun h₅ tk₅ dx k₅ dn dne hx₅ hn₅ => ?_)
  refine wpAny_execs_nil (hq h₅ tk₅ dx ⟨fun b o hb e => k₅ b o hb (kall b o hb e), ⟨t1, hx₅⟩, ?_, dne, hn₅⟩)
  have z1 : hp.objs.size < h₄.objs.size := hns₄.lt
  exact Nat.le_of_lt (Nat.lt_of_lt_of_le z1 dn)
/-- a made error -/
structure XMade (h h' : Heap) (e C d : Addr) (v : Value) : Prop where
  keep : ∀ b o, h.get? b = some o → h'.get? b = some o
  new : h.objs.size ≤ e
  obj : ∃ oe vs, h'.get? e = some oe ∧ oe.cls = .ref C ∧ oe.dict = some d ∧ oe.data = .fields vs ∧ vs[1]? = some .none ∧ vs[2]? = some .none
  dbig : h.objs.size ≤ d
  dne : d ≠ e
  ns : h'.Ns1 d (fun y => if y = (Str.ofString "number") then some v else none)
theorem x_made (T : XTxt prog K mg C fI) {v : Value} (X : K.In s.heap) (hg : s.heap.Ns mainGlobals mg) (hbl : ∃ mb, s.heap.Ns builtinsNs mb ∧ ∀ y : Str, y ≠ "__name__" → mb y = bootBuiltins y) (hlim : s.heap.NoLimit) (hroom : A.depth + 1 < recursionLimit)
    (hq : ∀ h' tk e d, XMade s.heap h' e C d v → R (.ok (.ret (.ref e))) { s with heap := h', toks := tk }) : codeAny (model prog w) A (.call (.ref C) ⟨[v], []⟩) R s := by
  obtain ⟨nm, q, N, bs, bm, sn, sub, ab, col, dd, k0, k1, k2, k3, k5, hC, hbm⟩ := T.cls
  obtain ⟨hp, g, dr, tk, os⟩ := s
  have k : ∀ b o, hp.get? b = some o → ((hp.push (kdv_tup [v])).push (HandSPX.excO C hp.objs.size)).get? b = some o := fun b o e => Heap.get?_push_of_some _ (Heap.get?_push_of_some _ e)
  have hget : ((hp.push (kdv_tup [v])).push (HandSPX.excO C hp.objs.size)).get? (hp.objs.size + 1) = some (HandSPX.excO C hp.objs.size) := by heap_get
  have hnx : K.lookup (hp.objs.size + 1) = none := by
    cases e : K.lookup (hp.objs.size + 1) with
    | none => rfl
    | some o => exact absurd (Nat.lt_of_succ_lt (Heap.lt_size (X _ _ e))) (Nat.lt_irrefl _)
  refine call_own F.excBase_ValueError (fun Y => refsVE_contains Y bm hbm) (X _ _ hC) (looks_findIn X T.iC) (fun self => bind_fn X self T.tC) (one_sz v) ?_
  obtain ⟨mb, hb1, hb2⟩ := hbl
  refine x_init (s := ⟨(hp.push (kdv_tup [v])).push (HandSPX.excO C hp.objs.size), g, dr, tk, os⟩) T (X.keeps k) (hg.keeps k) ⟨mb, hb1.keeps k, hb2⟩ (hlim.keeps k) hget hnx ?_ fun h' tk' dx ⟨k', ⟨t1, hx⟩, dn, dne, hns⟩ => ?_
  · show A.depth + 1 < recursionLimit
    exact hroom
  · have old : ∀ b o, hp.get? b = some o → h'.get? b = some o := fun b o e => k' b o (Nat.ne_of_lt (Nat.lt_succ_of_lt (Heap.lt_size e))) (k b o e)
    have z : hp.objs.size + 1 + 1 ≤ dx := by
      first
        | (simpa only [Heap.size_push] using dn)
        | exact dn
        | (have q := dn; rw [Heap.size_push, Heap.size_push] at q; exact q)
    exact ⟨rfl, hq h' tk' (hp.objs.size + 1) dx ⟨old, Nat.le_succ _, ⟨_, _, hx, rfl, rfl, rfl, rfl, rfl⟩, Nat.le_trans (Nat.le_trans (Nat.le_succ _) (Nat.le_succ _)) z, dne, hns⟩⟩
end
end FoX_number
namespace L2
open PySem PySem.Spec PyProof.Rows
theorem relO_number {v : V} {v' : Value} (r : RelV v v') (f : Str) : RelO (List.lookup f [((Str.ofString "number"), v)]) (if f = (Str.ofString "number") then some v' else none) := by
  by_cases hw : f = (Str.ofString "number")
  · subst hw
    rw [if_pos rfl]
    have q : List.lookup (Str.ofString "number") [((Str.ofString "number"), v)] = some v := by simp [List.lookup]
    rw [q]
    exact r
  · rw [if_neg hw]
    have qw : (f == (Str.ofString "number")) = false := by simpa using hw
    have q2 : List.lookup f [((Str.ofString "number"), v)] = none := by simp [List.lookup, qw]
    rw [q2]
    trivial
section
variable {X : Cx} {C fI : Addr} {nm : Str}
/-- Name(e) -/
def tMkX_number (C : Addr) (ta : TA) : St → Hp → XK → Prop := fun σ H Q => ta σ H fun vs H1 => ∃ v, vs = [v] ∧ ∀ d, H1 d = none → Q (.ref C) (some d) (upd H1 d (.xd [((Str.ofString "number"), v)]))
theorem pmkN_number {a : Expr} {ta : TA} {p pos : Pos} {k : Nat} (T : FoX_number.XTxt X.prog X.K X.mg C fI) (gC : X.mg nm = some (.ref C)) (hr : Room k X.A) (ha : PA X [a] ta) (hg : Gl X nm) (hdb : (nm == ("__debug__" : Str)) = false)
    (he : starEach (a :: []) X.env = (false, eval a X.env) :: starEach [] X.env := by rfl) (hpl : (backTo pos (starEach [] X.env)).any (·.1) = false := by rfl) :
    L2N.PMk X (.Call (.Name nm p) [a] [] pos) (tMkX_number C ta) := by
  intro pins s σ H Q I h
  refine wpAny_Call_Name_kw (ld_glob I hg gC ?_ hdb)
  refine PySem.W.callWith_K (h₀ := X.base) I.ok.mod.kin T.kC (thn (ha.run pos pins s σ H _ I h) fun us s1 hh => ?_) he hpl
  obtain ⟨vs, H1, I1, r1, v, ev, q1⟩ := hh
  subst ev
  refine ⟨I1.kIn, ?_⟩
  cases r1 with
  | cons rv rn =>
    rename_i v' us'
    cases rn
    show wpAny _ _ (call (.ref C) [v']) _ _ _
    have hlim := I1.nolimit
    have hgl : s1.heap.Ns mainGlobals X.mg := I1.mod.glob.keeps I1.bk
    obtain ⟨mb, hb1, hb2⟩ := I1.mod.blt
    have hbl : ∃ mb, s1.heap.Ns builtinsNs mb ∧ ∀ y : Str, y ≠ "__name__" → mb y = bootBuiltins y := ⟨mb, hb1.keeps I1.bk, hb2⟩
    obtain ⟨hp, g, dr, tk, os⟩ := s1
    refine wpAny_call (FoX_number.x_made T I1.kIn hgl hbl hlim (by have := hr.dp; omega) fun h' tk' e d M => ?_)
    show L2N.MkP X pins σ Q (.ref e) ⟨h', g, dr, tk', os⟩
    obtain ⟨oe, fv, hoe, hc, hd, hdat, h1, h2⟩ := M.obj
    have hns := M.ns
    obtain ⟨G', g1, g2⟩ := restrict h' fun b => decide (b ≠ e)
    have gk : ∀ b, b ≠ e → G'.get? b = h'.get? b := fun b hb => g1 b (decide_eq_true hb)
    have ge : G'.get? e = none := g2 e (by simp)
    have old : ∀ b o, hp.get? b = some o → G'.get? b = some o := fun b o q => (gk b (Nat.ne_of_lt (Nat.lt_of_lt_of_le (Heap.lt_size q) M.new))).trans (M.keep b o q)
    have ob : ObjOk X.prog X.w (upd H1 d (.xd [((Str.ofString "number"), v)])) G' d (.xd [((Str.ofString "number"), v)]) :=
      ⟨_, hns.at (fun o q => (gk d M.dne).trans q), fun f => relO_number rv f⟩
    have J : Inv X pins σ (upd H1 d (.xd [((Str.ofString "number"), v)])) ⟨G', g, dr, tk', os⟩ := I1.laid (t' := tk') old M.dbig ob
    refine ⟨e, oe, fv, ⟨G', g, dr, tk', os⟩, _, .ref C, some d, rfl, J, fun b o q => ?_, ge, hoe, ⟨hc, hd, fun vs e => by rw [hdat] at e; cases e; exact h2⟩, hdat, h1, ?_, rfl, I1.bare, raises_own T.exC T.tyC, q1 d (I1.hok.fresh M.dbig)⟩
    · by_cases hb : b = e
      · have q' : G'.get? b = some o := q
        rw [hb, ge] at q'; cases q'
      · exact (gk b hb).symm.trans q
    · rw [upd_ne (Ne.symm M.dne)]
      exact I1.hok.fresh M.new
theorem pmk_number {a : Expr} {ta : TA} {p pos : Pos} {k : Nat} (T : FoX_number.XTxt X.prog X.K X.mg C fI) (gC : X.mg nm = some (.ref C)) (hr : Room k X.A) (ha : PA X [a] ta) (hg : Gl X nm) (hdb : (nm == ("__debug__" : Str)) = false)
    (he : starEach (a :: []) X.env = (false, eval a X.env) :: starEach [] X.env := by rfl) (hpl : (backTo pos (starEach [] X.env)).any (·.1) = false := by rfl) :
    PMk X (.Call (.Name nm p) [a] [] pos) (tMkX_number C ta) := by
  intro pins s σ H Q I h
  refine wpAny_mono (pmkN_number T gC hr ha hg hdb he hpl pins s σ H Q I h) (fun u s' z => ?_) fun _ _ x => x
  obtain ⟨e, oe, vs, sI, H', cls, d, r1, r2, r3, r4, r5, r6, r7⟩ := z
  exact ⟨e, oe, vs, sI, H', cls, d, r1, r2, r3, r4, r5, r6.zc, r7⟩
/-- raise Name(e) -/
def tRaiseX_number (C : Addr) (W : WX) (ta : TA) : TS := fun _ σ H => tMkX_number C ta σ H fun cls d H' => W cls d σ H'
theorem ps_raise_number {a : Expr} {ta : TA} {W : WX} {p pos pos2 : Pos} {k : Nat} (hc : X.calm = true) (T : FoX_number.XTxt X.prog X.K X.mg C fI) (gC : X.mg nm = some (.ref C)) (hr : Room k X.A) (tk : Takes X W) (ha : PA X [a] ta) (hg : Gl X nm := by rfl) (hdb : (nm == ("__debug__" : Str)) = false := by decide)
    (he : starEach (a :: []) X.env = (false, eval a X.env) :: starEach [] X.env := by rfl) (hpl : (backTo pos (starEach [] X.env)).any (·.1) = false := by rfl) :
    PS X (.Raise (some (.Call (.Name nm p) [a] [] pos)) none pos2) (tRaiseX_number C W ta) := ps_raise hc tk (pmk_number T gC hr ha hg hdb he hpl)
theorem ps_raiseN_number {a : Expr} {ta : TA} {W : WX} {p pos pos2 : Pos} {k : Nat} (hc : X.calm = true) (T : FoX_number.XTxt X.prog X.K X.mg C fI) (gC : X.mg nm = some (.ref C)) (hr : Room k X.A) (tk : L2N.Takes X W) (ha : PA X [a] ta) (hg : Gl X nm := by rfl) (hdb : (nm == ("__debug__" : Str)) = false := by decide)
    (he : starEach (a :: []) X.env = (false, eval a X.env) :: starEach [] X.env := by rfl) (hpl : (backTo pos (starEach [] X.env)).any (·.1) = false := by rfl) :
    PS X (.Raise (some (.Call (.Name nm p) [a] [] pos)) none pos2) (tRaiseX_number C W ta) := L2N.ps_raise hc tk (pmkN_number T gC hr ha hg hdb he hpl)
/-- e.field, e the error that the suite holds (at a; its class cls, its dict d) -/
def tByX_number (C : Addr) (a : Addr) (cls : Value) (d : Option Addr) (te : TE) : TE := fun σ H Q => te σ H fun x H1 => x = .ref a ∧ cls = .ref C ∧ ∃ (dd : Addr) (v : V), d = some dd ∧ H1 dd = some (.xd [((Str.ofString "number"), v)]) ∧ Q v H1
theorem pe_by_number {a : Addr} {oe : Obj} {cls : Value} {d : Option Addr} {pn : List (Addr × Obj)} {e : Expr} {te : TE} {pos : Pos} (T : FoX_number.XTxt X.prog X.K X.mg C fI) (hz : Zc cls d oe) (hf : ∃ vs, oe.data = .fields vs) (he : PE (X.suite a ((a, oe) :: pn)) e te)
    (hb : attributeBase e (Str.ofString "number") X.env (eval e X.env) = eval e X.env := by rfl) :
    PE (X.suite a ((a, oe) :: pn)) (.Attribute e (Str.ofString "number") pos) (tByX_number C a cls d te) := by
  refine ⟨fun pins s σ H Q I h => ?_⟩
  refine attr_of hb (thn (he.run pins s σ H _ I h) fun u s1 hh => ?_)
  obtain ⟨x, H1, I1, rx, ex, ec, dd, v, ed, ea, q⟩ := hh
  subst ex
  obtain rfl : u = Value.ref a := rx
  subst ec
  subst ed
  obtain ⟨ha, _⟩ := I1.pin (a, oe) (List.mem_append_left _ List.mem_cons_self)
  obtain ⟨vs, hd⟩ := hf
  have hx : ObjOk X.prog X.w H1 s1.heap dd (.xd [((Str.ofString "number"), v)]) := I1.hok dd _ ea
  obtain ⟨mA, hns, hr⟩ := hx
  obtain ⟨od, ho, hl⟩ := lookIn_ns hns
  have l : List.lookup (Str.ofString "number") [((Str.ofString "number"), v)] = some v := by simp [List.lookup]
  obtain ⟨u, hu, ru⟩ := RelO.some_of (v := v) (o := mA (Str.ofString "number")) (by rw [← l]; exact hr (Str.ofString "number"))
  have J : PySem.W.InstAt s1.heap a oe C (some od) := ⟨ha, hz.1, by unfold PySem.W.notCls; rw [hd] <;> rfl, by rw [hz.2]; exact ho⟩
  exact HandSPX.exc_get I1.kIn J T.ga T.gg T.exC (PySem.W.findObj_own T.hdC T.noN rfl (by rw [hl, hu])) (handed_of ru) ⟨v, H1, I1.tok _, ru, q⟩
end
end L2
set_option linter.all false
namespace Fo
/-- the word of n + 1 bits that differs by whole rounds -/
def wrapN (z : Int) (n : Nat) : Int := (z + 2 ^ n) % (2 * 2 ^ n) - 2 ^ n
theorem p2pos (n : Nat) : (0 : Int) < 2 ^ n := Int.pow_pos (by decide)
theorem p2succ (n : Nat) : (2 : Int) ^ (n + 1) = 2 * 2 ^ n := by
  rw [Int.pow_succ]
  omega
theorem wrap_lo (z : Int) (n : Nat) : -(2 ^ n) ≤ wrapN z n := by
  have h := p2pos n
  have := Int.emod_nonneg (z + 2 ^ n) (show (2 * 2 ^ n : Int) ≠ 0 by omega)
  unfold wrapN
  omega
theorem wrap_hi (z : Int) (n : Nat) : wrapN z n < 2 ^ n := by
  have h := p2pos n
  have := Int.emod_lt_of_pos (z + 2 ^ n) (show (0 : Int) < 2 * 2 ^ n by omega)
  unfold wrapN
  omega
theorem wrap_mod (z : Int) (n : Nat) : (wrapN z n - z) % 2 ^ (n + 1) = 0 := by
  rw [p2succ]
  have h := Int.mul_ediv_add_emod (z + 2 ^ n) (2 * 2 ^ n)
  unfold wrapN
  have : (z + 2 ^ n) % (2 * 2 ^ n) - 2 ^ n - z = (2 * 2 ^ n) * (-((z + 2 ^ n) / (2 * 2 ^ n))) := by
    rw [Int.mul_neg]
    omega
  rw [this]
  exact Int.mul_emod_right _ _
/-- in the word it stays -/
theorem wrap_in (z : Int) (n : Nat) (h1 : -(2 ^ n) ≤ z) (h2 : z < 2 ^ n) : wrapN z n = z := by
  unfold wrapN
  rw [Int.emod_eq_of_lt (by omega) (by omega)]
  omega
/-- just above it, it falls below 0 -/
theorem wrap_out (z : Int) (n : Nat) (h1 : 2 ^ n ≤ z) (h2 : z < 2 * 2 ^ n) : wrapN z n < 0 := by
  have h := p2pos n
  unfold wrapN
  have e : z + 2 ^ n = (z - 2 ^ n) + (2 * 2 ^ n) * 1 := by omega
  rw [e, Int.add_mul_emod_self_left, Int.emod_eq_of_lt (by omega) (by omega)]
  omega
def sgI (z : Int) : Int := (if decide (0 < z) = true then 1 else 0) - (if decide (z < 0) = true then 1 else 0)
theorem sg_neg {z : Int} (h : z < 0) : sgI z ≠ 1 := by
  unfold sgI
  rw [if_neg (by simp; omega), if_pos (by simp; omega)]
  decide
/-- twice an area within a square -/
theorem side_le (M ax ay bx by' px py : Int) (a0 : 0 ≤ ax) (a1 : ax ≤ M) (a2 : 0 ≤ ay) (a3 : ay ≤ M) (b0 : 0 ≤ bx) (b1 : bx ≤ M) (b2 : 0 ≤ by') (b3 : by' ≤ M) (c0 : 0 ≤ px) (c1 : px ≤ M) (c2 : 0 ≤ py) (c3 : py ≤ M) :
    (bx - ax) * (py - ay) - (by' - ay) * (px - ax) ≤ M * M := by
  have key : ∀ u x : Int, 0 ≤ x → x ≤ M → (0 ≤ u ∧ u * x ≤ u * M) ∨ (u ≤ 0 ∧ u * x ≤ 0) := fun u x x0 x1 => by
    rcases Int.le_total 0 u with h | h
    · exact .inl ⟨h, Int.mul_le_mul_of_nonneg_left x1 h⟩
    · exact .inr ⟨h, Int.mul_nonpos_of_nonpos_of_nonneg h x0⟩
  have e : (bx - ax) * (py - ay) - (by' - ay) * (px - ax) = (by' - py) * ax + (py - ay) * bx + (ay - by') * px := by grind
  rw [e]
  have up : ∀ u : Int, u ≤ M → u * M ≤ M * M := fun u hu => Int.mul_le_mul_of_nonneg_right hu (by omega)
  have M0 : 0 ≤ M * M := Int.mul_nonneg (by omega) (by omega)
  have u1 := up (by' - py) (by omega)
  have u2 := up (py - ay) (by omega)
  have u3 := up (ay - by') (by omega)
  have u4 := up (py - by') (by omega)
  have u5 := up (ay - py) (by omega)
  have u6 := up (by' - ay) (by omega)
  have s1 : (by' - py) * M = by' * M - py * M := Int.sub_mul _ _ _
  have s2 : (py - ay) * M = py * M - ay * M := Int.sub_mul _ _ _
  have s3 : (ay - by') * M = ay * M - by' * M := Int.sub_mul _ _ _
  have s4 : (py - by') * M = py * M - by' * M := Int.sub_mul _ _ _
  have s5 : (ay - py) * M = ay * M - py * M := Int.sub_mul _ _ _
  have s6 : (by' - ay) * M = by' * M - ay * M := Int.sub_mul _ _ _
  rcases key (by' - py) ax a0 a1 with ⟨h1, k1⟩ | ⟨h1, k1⟩ <;> rcases key (py - ay) bx b0 b1 with ⟨h2, k2⟩ | ⟨h2, k2⟩ <;> rcases key (ay - by') px c0 c1 with ⟨h3, k3⟩ | ⟨h3, k3⟩ <;> omega
theorem side_ge (M ax ay bx by' px py : Int) (a0 : 0 ≤ ax) (a1 : ax ≤ M) (a2 : 0 ≤ ay) (a3 : ay ≤ M) (b0 : 0 ≤ bx) (b1 : bx ≤ M) (b2 : 0 ≤ by') (b3 : by' ≤ M) (c0 : 0 ≤ px) (c1 : px ≤ M) (c2 : 0 ≤ py) (c3 : py ≤ M) :
    -(M * M) ≤ (bx - ax) * (py - ay) - (by' - ay) * (px - ax) := by
  have := side_le M ax ay px py bx by' a0 a1 a2 a3 c0 c1 c2 c3 b0 b1 b2 b3
  have e : (px - ax) * (by' - ay) - (py - ay) * (bx - ax) = -((bx - ax) * (py - ay) - (by' - ay) * (px - ax)) := by grind
  rw [e] at this
  omega
/-- how long a number is -/
theorem log_lo {x : Int} (h : 1 ≤ x) : (2 : Int) ^ x.natAbs.log2 ≤ x := by
  have := Nat.log2_self_le (n := x.natAbs) (by omega)
  have e : ((2 ^ x.natAbs.log2 : Nat) : Int) = (2 : Int) ^ x.natAbs.log2 := by simp
  omega
theorem log_hi {x : Int} (h : 1 ≤ x) : x < (2 : Int) ^ (x.natAbs.log2 + 1) := by
  have := Nat.lt_log2_self (n := x.natAbs)
  have e : ((2 ^ (x.natAbs.log2 + 1) : Nat) : Int) = (2 : Int) ^ (x.natAbs.log2 + 1) := by simp
  omega
theorem log_mono {x y : Int} (h : 1 ≤ x) (hy : x ≤ y) : x.natAbs.log2 ≤ y.natAbs.log2 := by
  rw [Nat.le_log2 (by omega)]
  exact Nat.le_trans (Nat.log2_self_le (by omega)) (by omega)
end Fo

set_option Elab.async false
set_option linter.all false
set_option maxRecDepth 100000
set_option maxHeartbeats 2000000
namespace Fo
open PySem L2
/-! ### the text by places -/
def top (i : Nat) : Stmt := PySem.Challenge.pw_filledonce_k71_whole_bits.main.body.getD i (.Pass ⟨0, 0, 0, 0⟩)
abbrev sWhole : Stmt := top 7
abbrev sInit : Stmt := inClass (top 9) 0
abbrev sAdd : Stmt := inClass (top 9) 3
abbrev sSub : Stmt := inClass (top 9) 5
abbrev sCross : Stmt := inClass (top 9) 9
abbrev sMul : Stmt := inClass (top 9) 7
abbrev sEq : Stmt := inClass (top 9) 2
abbrev sPairM : Stmt := inClass (top 9) 10
abbrev sIsPoint : Stmt := top 10
abbrev sAsPoint : Stmt := top 11
abbrev sOperand : Stmt := top 12
abbrev sSide : Stmt := top 13
/-! ### data -/
theorem xy_ : ¬ (("x" : Str) = "y") := by decide +kernel
theorem yx_ : ¬ (("y" : Str) = "x") := by decide +kernel
def ptF (x y : Int) : List (Str × V) := putF "y" (.int y) (putF "x" (.int x) [])
theorem ptF_x (x y : Int) : (ptF x y).lookup ("x" : Str) = some (.int x) := by
  unfold ptF
  rw [lookup_putF, if_neg xy_, lookup_putF, if_pos rfl]
theorem ptF_y (x y : Int) : (ptF x y).lookup ("y" : Str) = some (.int y) := by
  unfold ptF
  rw [lookup_putF, if_pos rfl]
theorem ptF_no (x y : Int) {m : Str} (h1 : ¬ m = "y") (h2 : ¬ m = "x") : (ptF x y).lookup m = none := by
  unfold ptF
  rw [lookup_putF, if_neg h1, lookup_putF, if_neg h2]
  all_goals rfl
/-- an instance of Point with these numbers -/
def IsP (C : Addr) (v : V) (x y : Int) (H : Hp) : Prop := ∃ a dx, v = .ref a ∧ H a = some (.ins C dx (ptF x y))
/-- it, or a pair that stands for it -/
def IsPt (C : Addr) (v : V) (x y : Int) (H : Hp) : Prop := ∃ a, v = .ref a ∧ ((∃ dx, H a = some (.ins C dx (ptF x y))) ∨ H a = some (.tup [.int x, .int y]))
theorem IsP.ex {C : Addr} {v : V} {x y : Int} {H H' : Hp} (e : Same H H') (h : IsP C v x y H) : IsP C v x y H' := by
  obtain ⟨a, dx, rfl, h⟩ := h
  exact ⟨a, dx, rfl, e _ _ h⟩
theorem IsPt.ex {C : Addr} {v : V} {x y : Int} {H H' : Hp} (e : Same H H') (h : IsPt C v x y H) : IsPt C v x y H' := by
  obtain ⟨a, rfl, h⟩ := h
  rcases h with ⟨dx, h⟩ | h
  · exact ⟨a, rfl, .inl ⟨dx, e _ _ h⟩⟩
  · exact ⟨a, rfl, .inr (e _ _ h)⟩
theorem IsP.pt {C : Addr} {v : V} {x y : Int} {H : Hp} (h : IsP C v x y H) : IsPt C v x y H := by
  obtain ⟨a, dx, rfl, h⟩ := h
  exact ⟨a, rfl, .inl ⟨dx, h⟩⟩
theorem same_new {H : Hp} {p : Addr} {o : HO} (h : H p = none) : Same H (upd H p o) := fun a u e => by
  rw [upd_ne (ne_of_none e h)]
  exact e
def Sm (n : Nat) (x : Int) : Prop := x.natAbs < 2 ^ n
theorem Sm.mul {n : Nat} {x y : Int} (hx : Sm n x) (hy : Sm n y) (h0 : 0 < n) (h1 : n ≤ 1000) : CMulW x y := wide_mul hx hy h0 h0 (by omega)
theorem Sm.sub {n : Nat} {x y : Int} (hx : Sm n x) (hy : Sm n y) : Sm (n + 1) (x - y) := by
  unfold Sm at *
  rw [Nat.pow_succ]
  omega
theorem Sm.up {n m : Nat} {x : Int} (hx : Sm n x) (h : n ≤ m) : Sm m x := Nat.lt_of_lt_of_le hx (Nat.pow_le_pow_right (by decide) h)
/-! ### promises -/
def spWhole : Sp := fun vs H Q _ => ∃ i : Int, vs = [.int i] ∧ Q (.bl true) H
def spInit (C : Addr) : Sp := fun vs H Q _ => ∃ (p dx : Addr) (x y : Int), vs = [.ref p, .int x, .int y] ∧ H p = some (.ins C dx []) ∧ Q .non (upd (upd H p (.ins C dx (putF "x" (.int x) []))) p (.ins C dx (ptF x y)))
def spIsPoint (C : Addr) : Sp := fun vs H Q _ => ∃ (v : V) (x y : Int), vs = [v] ∧ IsPt C v x y H ∧ Q (.bl true) H
def spAsPoint (C : Addr) : Sp := fun vs H Q _ => ∃ (v : V) (x y : Int), vs = [v] ∧ IsPt C v x y H ∧ ∀ w H', Same H H' → IsP C w x y H' → (IsP C v x y H → w = v) → Q w H'
def spBin (C : Addr) (g : Int → Int → Int) : Sp := fun vs H Q _ => ∃ (v u : V) (x y z t : Int), vs = [v, u] ∧ IsP C v x y H ∧ IsPt C u z t H ∧ ∀ w H', Same H H' → IsP C w (g x z) (g y t) H' → Q w H'
def spCross (C : Addr) : Sp := fun vs H Q _ => ∃ (n : Nat) (v u : V) (x y z t : Int), vs = [v, u] ∧ IsP C v x y H ∧ IsPt C u z t H ∧ 0 < n ∧ n ≤ 1000 ∧ Sm n x ∧ Sm n y ∧ Sm n z ∧ Sm n t ∧ ∀ H', Same H H' → Q (.int (x * t - y * z)) H'
def sideI (ax ay bx by' px py : Int) : Int := (bx - ax) * (py - ay) - (by' - ay) * (px - ax)
def spSide (C : Addr) : Sp := fun vs H Q _ => ∃ (n : Nat) (a b p : V) (ax ay bx by' px py : Int), vs = [a, b, p] ∧ IsPt C a ax ay H ∧ IsPt C b bx by' H ∧ IsPt C p px py H ∧ n < 1000 ∧
  Sm n ax ∧ Sm n ay ∧ Sm n bx ∧ Sm n by' ∧ Sm n px ∧ Sm n py ∧ ∀ H', Same H H' → Q (.int (sideI ax ay bx by' px py)) H'
def spQuarter (C : Addr) : Sp := fun vs H Q _ => ∃ (v : V) (x y : Int), vs = [v] ∧ IsPt C v x y H ∧ ∀ w H', Same H H' → IsP C w (-y) x H' → Q w H'
/-- what the top has written of Point -/
structure Txt (K : PySem.W.Frag) (mg : Str → Option Value) (C : Addr) : Prop where
  cl : Cls K C
  nX : NoAttr K C "x"
  nY : NoAttr K C "y"
  mgC : mg "Point" = some (.ref C)
  isi : mg "isinstance" = none
  len : mg "len" = none
  int : mg "int" = none
  bool : mg "bool" = none
  tuple : mg "tuple" = none
  ha : PySem.W.findIn K (.ref C) "__class__" = some (some (.builtin "object.__class__"))
  hn : PySem.W.specialIn K (.builtin "object.__class__") "__get__" = some (some (.builtin "getset_descriptor.__get__"))
  htk : PySem.W.takesIn K (.builtin "object.__class__") = some true
  hm : PySem.W.mroIn K C (.type "object") = some true
  kTC : PySem.W.kitOne K (.type "tuple") (.ref C) = some false
  kCC : PySem.W.kitOne K (.ref C) (.ref C) = some true
section
variable {P : Program} {w : World} {K : PySem.W.Frag} {mg : Str → Option Value} {base : Heap}
theorem scWhole : FnScope ["value"] ["value"] (defScope sWhole) := ⟨rfl, rfl, rfl, by decide +kernel, rfl, by decide +kernel, by decide +kernel⟩
theorem ok_whole {f C : Addr} {fd : FuncData} (F : Fun K "is_whole" "is_whole" sWhole f fd) (T : Txt K mg C) : FnOk P w K mg base CX0 1 f fd ["value"] spWhole := by
  refine F.ok scWhole (fun vs H Q E h => ?_) (fun cdv A outer s H vs Q E hr h => ?_)
  · obtain ⟨i, rfl, _⟩ := h
    rfl
  · obtain ⟨i, rfl, k⟩ := h
    refine ⟨_, pss_one (ps_ret (pe_and (pe_callB call_isi (by rfl) T.isi (by decide +kernel) (pa_cons (pv 0) (pa_cons (pe_bltn (v := .ty "int") (by rfl) T.int (by decide +kernel) rfl) pa_nil)))
      (pe_one (pe_not (pe_callB call_isi (by rfl) T.isi (by decide +kernel) (pa_cons (pv 0) (pa_cons (pe_bltn (v := .ty "bool") (by rfl) T.bool (by decide +kernel) rfl) pa_nil))))))), ?_⟩
    refine ⟨_, rfl, _, _, _, _, true, rfl, .ty _, .base (.int i), kit_ty (by decide +kernel), true, rfl, ?_⟩
    refine iteT ?_
    exact ⟨_, rfl, _, _, _, _, false, rfl, .ty _, .base (.int i), kit_ty (by decide +kernel), false, rfl, k⟩

theorem scInit : FnScope ["self", "x", "y"] ["self", "x", "y"] (defScope sInit) := ⟨rfl, rfl, rfl, by decide +kernel, rfl, by decide +kernel, by decide +kernel⟩
theorem ok_init {f C fW : Addr} {fd fdW : FuncData} (F : Fun K "__init__" "Point.__init__" sInit f fd) (T : Txt K mg C) (FW : Fun K "is_whole" "is_whole" sWhole fW fdW) (bW : Binds K fdW ["value"] []) (mW : mg "is_whole" = some (.ref fW)) :
    FnOk P w K mg base CX0 2 f fd ["self", "x", "y"] (spInit C) := by
  have GW : FnOk P w K mg base CX0 1 fW fdW ["value"] spWhole := ok_whole FW T
  refine F.ok scInit (fun vs H Q E h => ?_) (fun cdv A outer s H vs Q E hr h => ?_)
  · obtain ⟨p, dx, x, y, rfl, _⟩ := h
    rfl
  · obtain ⟨p, dx, x, y, rfl, hp, k⟩ := h
    refine ⟨_, pss_cons (ps_if (PW.pt (pw_or (pt_not (pt_val (pe_call GW hr rfl mW FW.kp bW .nil pass0 (pa_cons (pv 1) pa_nil)))) (pw_or1 (pt_not (pt_val (pe_call GW hr rfl mW FW.kp bW .nil pass0 (pa_cons (pv 2) pa_nil))))))) (pss_one ps_never) pss_nil)
      (pss_cons (ps_fld (pv 0) (pv 1) rfl) (pss_one (ps_fld (pv 0) (pv 2) rfl))), ?_⟩
    refine ⟨_, rfl, x, rfl, true, rfl, ?_⟩
    refine iteF ?_
    refine ⟨_, rfl, y, rfl, true, rfl, ?_⟩
    refine iteF ?_
    refine ⟨_, rfl, _, rfl, p, C, dx, [], rfl, hp, T.cl, T.nX, (by show 0 < 1000; decide), ?_⟩
    refine ⟨_, rfl, _, rfl, p, C, dx, _, rfl, upd_same, T.cl, T.nY, (by show 1 < 1000; decide), ?_⟩
    exact k
theorem ty_ins {C a dx : Addr} {fs : List (Str × V)} {H : Hp} (T : Txt K mg C) (h : H a = some (.ins C dx fs)) : TyX K H (.ref a) (.ref C) := .base (.ins h T.cl T.ha T.hn T.htk T.hm)
theorem scIsPoint : FnScope ["thing"] ["thing"] (defScope sIsPoint) := ⟨rfl, rfl, rfl, by decide +kernel, rfl, by decide +kernel, by decide +kernel⟩
theorem ok_is_point {f C fW : Addr} {fd fdW : FuncData} (F : Fun K "is_point" "is_point" sIsPoint f fd) (T : Txt K mg C) (FW : Fun K "is_whole" "is_whole" sWhole fW fdW) (bW : Binds K fdW ["value"] []) (mW : mg "is_whole" = some (.ref fW)) :
    FnOk P w K mg base CX0 2 f fd ["thing"] (spIsPoint C) := by
  have GW : FnOk P w K mg base CX0 1 fW fdW ["value"] spWhole := ok_whole FW T
  refine F.ok scIsPoint (fun vs H Q E h => ?_) (fun cdv A outer s H vs Q E hr h => ?_)
  · obtain ⟨v, x, y, rfl, _⟩ := h
    rfl
  · obtain ⟨v, x, y, rfl, ⟨a, rfl, hv⟩, k⟩ := h
    refine ⟨_, pss_cons (ps_if (pt_val (pe_callB call_isi (by rfl) T.isi (by decide +kernel) (pa_cons (pv 0) (pa_cons (pe_glob (v := .ref C) rfl T.mgC rfl) pa_nil)))) (pss_one (ps_ret pe_bl)) pss_nil)
      (pss_one (ps_ret (pe_and (pe_callB call_isi (by rfl) T.isi (by decide +kernel) (pa_cons (pv 0) (pa_cons (pe_bltn (v := .ty "tuple") (by rfl) T.tuple (by decide +kernel) rfl) pa_nil)))
        (pe_and (pe_cmpR op_eq (pe_callB call_len_seq (by rfl) T.len PySem.boot_len (pa_cons (pv 0) pa_nil)) pe_int (nomark _))
        (pe_and (pe_call GW hr rfl mW FW.kp bW .nil pass0 (pa_cons (pe_ix ix_tup (pv 0) pe_int (fun _ _ => rfl)) pa_nil))
        (pe_one (pe_call GW hr rfl mW FW.kp bW .nil pass0 (pa_cons (pe_ix ix_tup (pv 0) pe_int (fun _ _ => rfl)) pa_nil)))))))), ?_⟩
    rcases hv with ⟨dx, hv⟩ | hv
    · refine ⟨_, rfl, _, _, _, _, true, rfl, .own C, ty_ins T hv, T.kCC, true, rfl, ?_⟩
      refine iteT ?_
      exact k
    · refine ⟨_, rfl, _, _, _, _, false, rfl, .own C, .base (.tup hv), T.kTC, false, rfl, ?_⟩
      refine iteF ?_
      refine ⟨_, rfl, _, _, _, _, true, rfl, .ty _, .base (.tup hv), kit_ty (by decide +kernel), true, rfl, ?_⟩
      refine iteT ?_
      refine ⟨_, rfl, a, _, rfl, .inr (SqT.of hv), rfl, true, rfl, ?_⟩
      refine iteT ?_
      refine ⟨_, rfl, a, _, _, _, rfl, rfl, SqT.of hv, atI_nat (j := 0) rfl, x, rfl, true, rfl, ?_⟩
      refine iteT ?_
      exact ⟨_, rfl, a, _, _, _, rfl, rfl, SqT.of hv, atI_nat (j := 1) rfl, y, rfl, k⟩

/-- a new Point -/
theorem made_same {C x dx : Addr} {H : Hp} {X Y : Int} (nx : H x = none) (nd : H dx = none) : Same H (upd (upd (upd (upd H dx (.own x)) x (.ins C dx [])) x (.ins C dx (putF "x" (.int X) []))) x (.ins C dx (ptF X Y))) := fun b o e => by
  have n1 : b ≠ x := ne_of_none e nx
  have n2 : b ≠ dx := ne_of_none e nd
  rw [upd_ne n1, upd_ne n1, upd_ne n1, upd_ne n2]
  exact e
theorem made_is {C x dx : Addr} {H : Hp} {X Y : Int} : IsP C (.ref x) X Y (upd (upd (upd (upd H dx (.own x)) x (.ins C dx [])) x (.ins C dx (putF "x" (.int X) []))) x (.ins C dx (ptF X Y))) := ⟨x, dx, rfl, upd_same⟩
/-- Point(a, b) of two numbers: spInit's reading at a new instance -/
theorem make_pt {C : Addr} {H : Hp} {X Y : Int} {Q : VK} {E : XK} (k : ∀ v H', Same H H' → IsP C v X Y H' → Q v H') :
    ∀ x dx, H x = none → H dx = none → dx ≠ x → spInit C (.ref x :: ([.int X, .int Y] ++ [])) (upd (upd H dx (.own x)) x (.ins C dx [])) (fun v H2 => v = .non ∧ Q (.ref x) H2) E := fun x dx nx nd _ =>
  ⟨x, dx, X, Y, rfl, upd_same, rfl, k _ _ (made_same nx nd) made_is⟩
/-- the program's defs that others call, as they stand -/
structure Defs (K : PySem.W.Frag) (mg : Str → Option Value) (C fW fI fP fA fO : Addr) (fdW fdI fdP fdA fdO : FuncData) : Prop where
  T : Txt K mg C
  FW : Fun K "is_whole" "is_whole" sWhole fW fdW
  bW : Binds K fdW ["value"] []
  mW : mg "is_whole" = some (.ref fW)
  M : Mk K C fI
  FI : Fun K "__init__" "Point.__init__" sInit fI fdI
  bI : Binds K fdI ["self", "x", "y"] []
  FP : Fun K "is_point" "is_point" sIsPoint fP fdP
  bP : Binds K fdP ["thing"] []
  mP : mg "is_point" = some (.ref fP)
  FA : Fun K "as_point" "as_point" sAsPoint fA fdA
  bA : Binds K fdA ["thing"] []
  mA : mg "as_point" = some (.ref fA)
  FO : Fun K "operand" "operand" sOperand fO fdO
  bO : Binds K fdO ["thing"] []
  mO : mg "operand" = some (.ref fO)
variable {C fW fI fP fA fO : Addr} {fdW fdI fdP fdA fdO : FuncData}
theorem Defs.GW (D : Defs K mg C fW fI fP fA fO fdW fdI fdP fdA fdO) : FnOk P w K mg base CX0 1 fW fdW ["value"] spWhole := ok_whole D.FW D.T
theorem Defs.GI (D : Defs K mg C fW fI fP fA fO fdW fdI fdP fdA fdO) : FnOk P w K mg base CX0 2 fI fdI ["self", "x", "y"] (spInit C) := ok_init D.FI D.T D.FW D.bW D.mW
theorem Defs.GP (D : Defs K mg C fW fI fP fA fO fdW fdI fdP fdA fdO) : FnOk P w K mg base CX0 2 fP fdP ["thing"] (spIsPoint C) := ok_is_point D.FP D.T D.FW D.bW D.mW
theorem scAsPoint : FnScope ["thing"] ["thing"] (defScope sAsPoint) := ⟨rfl, rfl, rfl, by decide +kernel, rfl, by decide +kernel, by decide +kernel⟩
theorem Defs.GA (D : Defs K mg C fW fI fP fA fO fdW fdI fdP fdA fdO) : FnOk P w K mg base CX0 4 fA fdA ["thing"] (spAsPoint C) := by
  have GP : FnOk P w K mg base CX0 2 fP fdP ["thing"] (spIsPoint C) := D.GP
  have GI : FnOk P w K mg base CX0 2 fI fdI ["self", "x", "y"] (spInit C) := D.GI
  have T := D.T
  refine D.FA.ok scAsPoint (fun vs H Q E h => ?_) (fun cdv A outer s H vs Q E hr h => ?_)
  · obtain ⟨v, x, y, rfl, _⟩ := h
    rfl
  · obtain ⟨v, x, y, rfl, hp, k⟩ := h
    refine ⟨_, pss_cons (ps_if (pt_not (pt_val (pe_call GP (hr.mono (by decide)) rfl D.mP D.FP.kp D.bP .nil pass0 (pa_cons (pv 0) pa_nil)))) (pss_one ps_never) pss_nil)
      (pss_cons (ps_if (pt_val (pe_callB call_isi (by rfl) T.isi (by decide +kernel) (pa_cons (pv 0) (pa_cons (pe_glob (v := .ref C) rfl T.mgC rfl) pa_nil)))) (pss_one (ps_ret (pv 0))) pss_nil)
      (pss_one (ps_ret (pe_make D.M GI hr rfl T.mgC D.bI .nil pass0 (pa_cons (pe_ix ix_tup (pv 0) pe_int (fun _ _ => rfl)) (pa_cons (pe_ix ix_tup (pv 0) pe_int (fun _ _ => rfl)) pa_nil)))))), ?_⟩
    refine ⟨_, rfl, v, x, y, rfl, hp, true, rfl, ?_⟩
    refine iteF ?_
    obtain ⟨a, rfl, hv⟩ := hp
    rcases hv with ⟨dx, hv⟩ | hv
    · refine ⟨_, rfl, _, _, _, _, true, rfl, .own C, ty_ins T hv, T.kCC, true, rfl, ?_⟩
      refine iteT ?_
      exact ⟨_, rfl, k _ _ (Same.refl _) ⟨a, dx, rfl, hv⟩ fun _ => rfl⟩
    · refine ⟨_, rfl, _, _, _, _, false, rfl, .own C, .base (.tup hv), T.kTC, false, rfl, ?_⟩
      refine iteF ?_
      refine ⟨_, rfl, a, _, _, _, rfl, rfl, SqT.of hv, atI_nat (j := 0) rfl, _, rfl, a, _, _, _, rfl, rfl, SqT.of hv, atI_nat (j := 1) rfl, ?_⟩
      refine make_pt fun v H2 e2 h2 => k v H2 e2 h2 fun hp => ?_
      obtain ⟨b, dy, q1, q2⟩ := hp
      cases q1
      rw [hv] at q2
      cases q2
theorem scOperand : FnScope ["thing"] ["thing"] (defScope sOperand) := ⟨rfl, rfl, rfl, by decide +kernel, rfl, by decide +kernel, by decide +kernel⟩
theorem Defs.GO (D : Defs K mg C fW fI fP fA fO fdW fdI fdP fdA fdO) : FnOk P w K mg base CX0 5 fO fdO ["thing"] (spAsPoint C) := by
  have GP : FnOk P w K mg base CX0 2 fP fdP ["thing"] (spIsPoint C) := D.GP
  have GA : FnOk P w K mg base CX0 4 fA fdA ["thing"] (spAsPoint C) := D.GA
  refine D.FO.ok scOperand (fun vs H Q E h => ?_) (fun cdv A outer s H vs Q E hr h => ?_)
  · obtain ⟨v, x, y, rfl, _⟩ := h
    rfl
  · obtain ⟨v, x, y, rfl, hp, k⟩ := h
    refine ⟨_, pss_cons (ps_if (pt_not (pt_val (pe_call GP (hr.mono (by decide)) rfl D.mP D.FP.kp D.bP .nil pass0 (pa_cons (pv 0) pa_nil)))) (pss_one ps_never) pss_nil)
      (pss_one (ps_ret (pe_call GA hr rfl D.mA D.FA.kp D.bA .nil pass0 (pa_cons (pv 0) pa_nil)))), ?_⟩
    refine ⟨_, rfl, v, x, y, rfl, hp, true, rfl, ?_⟩
    refine iteF ?_
    exact ⟨_, rfl, v, x, y, rfl, hp, k⟩
theorem scAdd : FnScope ["self", "other", "by"] ["self", "other"] (defScope sAdd) := ⟨rfl, rfl, rfl, by decide +kernel, rfl, by decide +kernel, by decide +kernel⟩
theorem ok_add {f : Addr} {fd : FuncData} (F : Fun K "__add__" "Point.__add__" sAdd f fd) (D : Defs K mg C fW fI fP fA fO fdW fdI fdP fdA fdO) : FnOk P w K mg base CX0 6 f fd ["self", "other"] (spBin C (· + ·)) := by
  have GO : FnOk P w K mg base CX0 5 fO fdO ["thing"] (spAsPoint C) := D.GO
  have GI : FnOk P w K mg base CX0 2 fI fdI ["self", "x", "y"] (spInit C) := D.GI
  have T := D.T
  refine F.ok scAdd (fun vs H Q E h => ?_) (fun cdv A outer s H vs Q E hr h => ?_)
  · obtain ⟨v, u, x, y, z, t, rfl, _⟩ := h
    rfl
  · obtain ⟨v, u, x, y, z, t, rfl, hv, hu, k⟩ := h
    refine ⟨_, pss_cons (ps_set (i := 2) scAdd.nd rfl (Or.inl rfl) (pe_call GO hr rfl D.mO D.FO.kp D.bO .nil pass0 (pa_cons (pv 1) pa_nil)))
      (pss_one (ps_ret (pe_make D.M GI (hr.mono (by decide)) rfl T.mgC D.bI .nil pass0 (pa_cons (pe_op op_add (pe_fld (pv 0) rfl) (pe_fld (pv 2) rfl)) (pa_cons (pe_op op_add (pe_fld (pv 0) rfl) (pe_fld (pv 2) rfl)) pa_nil))))), ?_⟩
    refine ⟨_, rfl, u, z, t, rfl, hu, fun w H' e hw _ => ?_⟩
    obtain ⟨a, dx, rfl, ha⟩ := hv.ex e
    obtain ⟨b, dy, rfl, hb⟩ := hw
    refine ⟨_, rfl, a, C, dx, _, _, rfl, ha, T.cl, T.nX, ptF_x _ _, _, rfl, b, C, dy, _, _, rfl, hb, T.cl, T.nX, ptF_x _ _, _, _, rfl, rfl, ?_⟩
    refine ⟨_, rfl, a, C, dx, _, _, rfl, ha, T.cl, T.nY, ptF_y _ _, _, rfl, b, C, dy, _, _, rfl, hb, T.cl, T.nY, ptF_y _ _, _, _, rfl, rfl, ?_⟩
    exact make_pt fun v H2 e2 h2 => k v H2 (e.trans e2) h2
theorem scSub : FnScope ["self", "other", "by"] ["self", "other"] (defScope sSub) := ⟨rfl, rfl, rfl, by decide +kernel, rfl, by decide +kernel, by decide +kernel⟩
theorem ok_sub {f : Addr} {fd : FuncData} (F : Fun K "__sub__" "Point.__sub__" sSub f fd) (D : Defs K mg C fW fI fP fA fO fdW fdI fdP fdA fdO) : FnOk P w K mg base CX0 6 f fd ["self", "other"] (spBin C (· - ·)) := by
  have GO : FnOk P w K mg base CX0 5 fO fdO ["thing"] (spAsPoint C) := D.GO
  have GI : FnOk P w K mg base CX0 2 fI fdI ["self", "x", "y"] (spInit C) := D.GI
  have T := D.T
  refine F.ok scSub (fun vs H Q E h => ?_) (fun cdv A outer s H vs Q E hr h => ?_)
  · obtain ⟨v, u, x, y, z, t, rfl, _⟩ := h
    rfl
  · obtain ⟨v, u, x, y, z, t, rfl, hv, hu, k⟩ := h
    refine ⟨_, pss_cons (ps_set (i := 2) scSub.nd rfl (Or.inl rfl) (pe_call GO hr rfl D.mO D.FO.kp D.bO .nil pass0 (pa_cons (pv 1) pa_nil)))
      (pss_one (ps_ret (pe_make D.M GI (hr.mono (by decide)) rfl T.mgC D.bI .nil pass0 (pa_cons (pe_op op_sub (pe_fld (pv 0) rfl) (pe_fld (pv 2) rfl)) (pa_cons (pe_op op_sub (pe_fld (pv 0) rfl) (pe_fld (pv 2) rfl)) pa_nil))))), ?_⟩
    refine ⟨_, rfl, u, z, t, rfl, hu, fun w H' e hw _ => ?_⟩
    obtain ⟨a, dx, rfl, ha⟩ := hv.ex e
    obtain ⟨b, dy, rfl, hb⟩ := hw
    refine ⟨_, rfl, a, C, dx, _, _, rfl, ha, T.cl, T.nX, ptF_x _ _, _, rfl, b, C, dy, _, _, rfl, hb, T.cl, T.nX, ptF_x _ _, _, _, rfl, rfl, ?_⟩
    refine ⟨_, rfl, a, C, dx, _, _, rfl, ha, T.cl, T.nY, ptF_y _ _, _, rfl, b, C, dy, _, _, rfl, hb, T.cl, T.nY, ptF_y _ _, _, _, rfl, rfl, ?_⟩
    exact make_pt fun v H2 e2 h2 => k v H2 (e.trans e2) h2
theorem IsPt.opnd {v : V} {x y : Int} {H : Hp} (h : IsPt C v x y H) : (∃ b dy gs, v = .ref b ∧ H b = some (.ins C dy gs)) ∨ ∃ b xs, v = .ref b ∧ H b = some (.tup xs) := by
  obtain ⟨a, rfl, h⟩ := h
  rcases h with ⟨dx, h⟩ | h
  · exact .inl ⟨a, dx, _, rfl, h⟩
  · exact .inr ⟨a, _, rfl, h⟩
theorem cross_no (x y : Int) : (ptF x y).lookup ("cross" : Str) = none := ptF_no _ _ (by decide +kernel) (by decide +kernel)
theorem scSide : FnScope ["a", "b", "point", "start", "end", "place"] ["a", "b", "point"] (defScope sSide) := ⟨rfl, rfl, rfl, by decide +kernel, rfl, by decide +kernel, by decide +kernel⟩
theorem ok_side {f : Addr} {fd : FuncData} (F : Fun K "side" "side" sSide f fd) (D : Defs K mg C fW fI fP fA fO fdW fdI fdP fdA fdO) : FnOk P w K mg base CX0 7 f fd ["a", "b", "point"] (spSide C) := by
  have GA : FnOk P w K mg base CX0 4 fA fdA ["thing"] (spAsPoint C) := D.GA
  have T := D.T
  refine F.ok scSide (fun vs H Q E h => ?_) (fun cdv A outer s H vs Q E hr h => ?_)
  · obtain ⟨n, a, b, p, ax, ay, bx, by', px, py, rfl, _⟩ := h
    rfl
  · obtain ⟨n, a, b, p, ax, ay, bx, by', px, py, rfl, ha, hb, hp, n1, s1, s2, s3, s4, s5, s6, k⟩ := h
    have hr4 : Room 4 _ := hr.mono (by decide)
    refine ⟨_, pss_cons (ps_set (i := 3) scSide.nd rfl (Or.inl rfl) (pe_call GA hr4 rfl D.mA D.FA.kp D.bA .nil pass0 (pa_cons (pv 0) pa_nil)))
      (pss_cons (ps_set (i := 4) scSide.nd rfl (Or.inl rfl) (pe_call GA hr4 rfl D.mA D.FA.kp D.bA .nil pass0 (pa_cons (pv 1) pa_nil)))
      (pss_cons (ps_set (i := 5) scSide.nd rfl (Or.inl rfl) (pe_call GA hr4 rfl D.mA D.FA.kp D.bA .nil pass0 (pa_cons (pv 2) pa_nil)))
      (pss_one (ps_ret (pe_op op_sub
        (pe_op op_mulW (pe_op op_sub (pe_fld (pv 4) rfl) (pe_fld (pv 3) rfl)) (pe_op op_sub (pe_fld (pv 5) rfl) (pe_fld (pv 3) rfl)))
        (pe_op op_mulW (pe_op op_sub (pe_fld (pv 4) rfl) (pe_fld (pv 3) rfl)) (pe_op op_sub (pe_fld (pv 5) rfl) (pe_fld (pv 3) rfl)))))))), ?_⟩
    refine ⟨_, rfl, a, ax, ay, rfl, ha, fun w1 H1 e1 h1 _ => ?_⟩
    refine ⟨_, rfl, b, bx, by', rfl, hb.ex e1, fun w2 H2 e2 h2 _ => ?_⟩
    refine ⟨_, rfl, p, px, py, rfl, hp.ex (e1.trans e2), fun w3 H3 e3 h3 _ => ?_⟩
    obtain ⟨a1, d1, rfl, z1⟩ := (h1.ex e2).ex e3
    obtain ⟨a2, d2, rfl, z2⟩ := h2.ex e3
    obtain ⟨a3, d3, rfl, z3⟩ := h3
    refine ⟨_, rfl, a2, C, d2, _, _, rfl, z2, T.cl, T.nX, ptF_x _ _, _, rfl, a1, C, d1, _, _, rfl, z1, T.cl, T.nX, ptF_x _ _, _, _, rfl, rfl, ?_⟩
    refine ⟨_, rfl, a3, C, d3, _, _, rfl, z3, T.cl, T.nY, ptF_y _ _, _, rfl, a1, C, d1, _, _, rfl, z1, T.cl, T.nY, ptF_y _ _, _, _, rfl, rfl, ?_⟩
    refine ⟨_, _, rfl, rfl, (s3.sub s1).mul (s6.sub s2) (Nat.succ_pos _) n1, ?_⟩
    refine ⟨_, rfl, a2, C, d2, _, _, rfl, z2, T.cl, T.nY, ptF_y _ _, _, rfl, a1, C, d1, _, _, rfl, z1, T.cl, T.nY, ptF_y _ _, _, _, rfl, rfl, ?_⟩
    refine ⟨_, rfl, a3, C, d3, _, _, rfl, z3, T.cl, T.nX, ptF_x _ _, _, rfl, a1, C, d1, _, _, rfl, z1, T.cl, T.nX, ptF_x _ _, _, _, rfl, rfl, ?_⟩
    refine ⟨_, _, rfl, rfl, (s4.sub s2).mul (s5.sub s1) (Nat.succ_pos _) n1, ?_⟩
    exact ⟨_, _, rfl, rfl, k _ ((e1.trans e2).trans e3)⟩
def spMul (C : Addr) : Sp := fun vs H Q _ => ∃ (v : V) (x y m : Int), vs = [v, .int m] ∧ IsP C v x y H ∧ CMulW x m ∧ CMulW y m ∧ ∀ w H', Same H H' → IsP C w (x * m) (y * m) H' → Q w H'
theorem scMul : FnScope ["self", "other"] ["self", "other"] (defScope sMul) := ⟨rfl, rfl, rfl, by decide +kernel, rfl, by decide +kernel, by decide +kernel⟩
theorem ok_mul {f : Addr} {fd : FuncData} (F : Fun K "__mul__" "Point.__mul__" sMul f fd) (D : Defs K mg C fW fI fP fA fO fdW fdI fdP fdA fdO) : FnOk P w K mg base CX0 4 f fd ["self", "other"] (spMul C) := by
  have GW : FnOk P w K mg base CX0 1 fW fdW ["value"] spWhole := D.GW
  have GI : FnOk P w K mg base CX0 2 fI fdI ["self", "x", "y"] (spInit C) := D.GI
  have T := D.T
  refine F.ok scMul (fun vs H Q E h => ?_) (fun cdv A outer s H vs Q E hr h => ?_)
  · obtain ⟨v, x, y, m, rfl, _⟩ := h
    rfl
  · obtain ⟨v, x, y, m, rfl, hv, c1, c2, k⟩ := h
    refine ⟨_, pss_cons (ps_if (pt_not (pt_val (pe_call GW (hr.mono (by decide)) rfl D.mW D.FW.kp D.bW .nil pass0 (pa_cons (pv 1) pa_nil)))) (pss_one ps_never) pss_nil)
      (pss_one (ps_ret (pe_make D.M GI hr rfl T.mgC D.bI .nil pass0 (pa_cons (pe_op op_mulW (pe_fld (pv 0) rfl) (pv 1)) (pa_cons (pe_op op_mulW (pe_fld (pv 0) rfl) (pv 1)) pa_nil))))), ?_⟩
    refine ⟨_, rfl, m, rfl, true, rfl, ?_⟩
    refine iteF ?_
    obtain ⟨a, dx, rfl, ha⟩ := hv
    refine ⟨_, rfl, a, C, dx, _, _, rfl, ha, T.cl, T.nX, ptF_x _ _, _, rfl, _, _, rfl, rfl, c1, ?_⟩
    refine ⟨_, rfl, a, C, dx, _, _, rfl, ha, T.cl, T.nY, ptF_y _ _, _, rfl, _, _, rfl, rfl, c2, ?_⟩
    exact make_pt k
def spEqP (C : Addr) : Sp := fun vs H Q _ => ∃ (v u : V) (x y z t : Int), vs = [v, u] ∧ IsP C v x y H ∧ ((IsP C u z t H ∧ Q (.bl (decide (x = z) && decide (y = t))) H) ∨ ((∃ b xs, u = .ref b ∧ H b = some (.tup xs)) ∧ Q (.bl false) H))
theorem scEq : FnScope ["self", "other"] ["self", "other"] (defScope sEq) := ⟨rfl, rfl, rfl, by decide +kernel, rfl, by decide +kernel, by decide +kernel⟩
theorem ok_eq {f : Addr} {fd : FuncData} (F : Fun K "__eq__" "Point.__eq__" sEq f fd) (T : Txt K mg C) : FnOk P w K mg base CX0 1 f fd ["self", "other"] (spEqP C) := by
  refine F.ok scEq (fun vs H Q E h => ?_) (fun cdv A outer s H vs Q E hr h => ?_)
  · obtain ⟨v, u, x, y, z, t, rfl, _⟩ := h
    rfl
  · obtain ⟨v, u, x, y, z, t, rfl, ⟨a, dx, rfl, ha⟩, hu⟩ := h
    refine ⟨_, pss_one (ps_ret (pe_and (pe_callB call_isi (by rfl) T.isi (by decide +kernel) (pa_cons (pv 1) (pa_cons (pe_glob (v := .ref C) rfl T.mgC rfl) pa_nil)))
      (pe_and (pe_cmpR op_eq (pe_fld (pv 0) rfl) (pe_fld (pv 1) rfl) (nomark _)) (pe_one (pe_cmpR op_eq (pe_fld (pv 0) rfl) (pe_fld (pv 1) rfl) (nomark _)))))), ?_⟩
    rcases hu with ⟨⟨b, dy, rfl, hb⟩, k⟩ | ⟨⟨b, xs, rfl, hb⟩, k⟩
    · refine ⟨_, rfl, _, _, _, _, true, rfl, .own C, ty_ins T hb, T.kCC, true, rfl, ?_⟩
      refine iteT ?_
      refine ⟨_, rfl, a, C, dx, _, _, rfl, ha, T.cl, T.nX, ptF_x _ _, _, rfl, b, C, dy, _, _, rfl, hb, T.cl, T.nX, ptF_x _ _, rfl, _, rfl, ?_⟩
      have ei : ∀ i j : Int, decide (V.int i = V.int j) = decide (i = j) := fun i j => by
        by_cases h : i = j
        · rw [h, decide_eq_true rfl, decide_eq_true rfl]
        · rw [decide_eq_false h, decide_eq_false (fun q => h (by cases q; rfl))]
      rw [ei x z]
      by_cases hxz : x = z
      · rw [decide_eq_true hxz] at *
        refine iteT ?_
        refine ⟨_, rfl, a, C, dx, _, _, rfl, ha, T.cl, T.nY, ptF_y _ _, _, rfl, b, C, dy, _, _, rfl, hb, T.cl, T.nY, ptF_y _ _, rfl, ?_⟩
        rw [ei y t]
        simpa using k
      · rw [decide_eq_false hxz] at *
        refine iteF ?_
        simpa using k
    · refine ⟨_, rfl, _, _, _, _, false, rfl, .own C, .base (.tup hb), T.kTC, false, rfl, ?_⟩
      refine iteF ?_
      exact k
def spPairM (C : Addr) : Sp := fun vs H Q _ => ∃ (v : V) (x y : Int), vs = [v] ∧ IsP C v x y H ∧ ∀ q H', H q = none → Same H H' → H' q = some (.tup [.int x, .int y]) → Q (.ref q) H'
theorem scPairM : FnScope ["self"] ["self"] (defScope sPairM) := ⟨rfl, rfl, rfl, by decide +kernel, rfl, by decide +kernel, by decide +kernel⟩
theorem ok_pairM {f : Addr} {fd : FuncData} (F : Fun K "pair" "Point.pair" sPairM f fd) (T : Txt K mg C) : FnOk P w K mg base CX0 1 f fd ["self"] (spPairM C) := by
  refine F.ok scPairM (fun vs H Q E h => ?_) (fun cdv A outer s H vs Q E hr h => ?_)
  · obtain ⟨v, x, y, rfl, _⟩ := h
    rfl
  · obtain ⟨v, x, y, rfl, ⟨a, dx, rfl, ha⟩, k⟩ := h
    refine ⟨_, pss_one (ps_ret (pe_tup (pa_cons (pe_fld (pv 0) rfl) (pa_cons (pe_fld (pv 0) rfl) pa_nil)))), ?_⟩
    refine ⟨_, rfl, a, C, dx, _, _, rfl, ha, T.cl, T.nX, ptF_x _ _, _, rfl, a, C, dx, _, _, rfl, ha, T.cl, T.nY, ptF_y _ _, (by show 2 ≤ sizeLine; decide), fun t nt => ?_⟩
    exact k t _ nt (same_new nt) upd_same
end
end Fo

set_option Elab.async false
set_option linter.all false
set_option maxRecDepth 100000
set_option maxHeartbeats 2000000
namespace Fo
open PySem L2
/-! ### the law's own helpers: the pool and its draws -/
abbrev sHand : Stmt := top 24
abbrev sDraw : Stmt := top 25
/-- what stands but at p stands -/
def But (p : Addr) (H H' : Hp) : Prop := ∀ b o, b ≠ p → H b = some o → H' b = some o
theorem But.refl (p : Addr) (H : Hp) : But p H H := fun _ _ _ h => h
theorem But.trans {p : Addr} {H H1 H2 : Hp} (a : But p H H1) (b : But p H1 H2) : But p H H2 := fun c o n h => b c o n (a c o n h)
theorem But.upd {p : Addr} {H : Hp} {o : HO} : But p H (upd H p o) := fun b u n h => by
  rw [upd_ne n]
  exact h
theorem But.of {p : Addr} {H H' : Hp} (e : Same H H') : But p H H' := fun b o _ h => e b o h
/-- from a heap that does not know p -/
theorem But.same {p : Addr} {H0 H H' : Hp} (h0 : H0 p = none) (e : Same H0 H) (b : But p H H') : Same H0 H' := fun c o h => b c o (ne_of_none h h0) (e c o h)
def PoolAt (p : Addr) (H : Hp) : Prop := ∃ i j : Int, H p = some (.lst [.int i, .int j]) ∧ 0 ≤ i ∧ 0 ≤ j ∧ j < 2147483647
theorem PoolAt.ex {p : Addr} {H H' : Hp} (e : Same H H') (h : PoolAt p H) : PoolAt p H' := by
  obtain ⟨i, j, h, r⟩ := h
  exact ⟨i, j, e _ _ h, r⟩
def spHand (K : PySem.W.Frag) : Sp := fun vs H Q _ => ∃ (a : Addr) (ns : List Int) (k : Int), vs = [.ref a, .int k] ∧ SqL K H a (ns.map V.int) ∧ ns.length ≤ 63 ∧ 0 ≤ k ∧ k ≤ 100 ∧
  ∀ p H', H p = none → Same H H' → PoolAt p H' → Q (.ref p) H'
def spDraw : Sp := fun vs H Q _ => ∃ (p : Addr) (m : Int), vs = [.ref p, .int m] ∧ PoolAt p H ∧ 0 < m ∧ m.natAbs < 2 ^ 200 ∧
  ∀ r H', 0 ≤ r → r < m → But p H H' → PoolAt p H' → Q (.int r) H'
structure TxtL (mg : Str → Option Value) : Prop where
  int : mg "int" = none
  range : mg "range" = none
  max : mg "max" = none
  min : mg "min" = none
  len : mg "len" = none
theorem head_int {ns : List Int} {lo hi : Option Int} : ∃ c : Int, atI (cutV (ns.map V.int) lo hi ++ [V.int 0]) 0 = some (V.int c) := by
  have e : cutV (ns.map V.int) lo hi = ((ns.drop (HT.sIx (ns.map V.int).length 0 lo)).take (HT.sIx (ns.map V.int).length (ns.map V.int).length hi - HT.sIx (ns.map V.int).length 0 lo)).map V.int := by
    unfold cutV
    rw [← List.map_drop, ← List.map_take]
  rw [e]
  cases (ns.drop (HT.sIx (ns.map V.int).length 0 lo)).take (HT.sIx (ns.map V.int).length (ns.map V.int).length hi - HT.sIx (ns.map V.int).length 0 lo) with
  | nil => exact ⟨0, atI_nat (j := 0) rfl⟩
  | cons c r => exact ⟨c, atI_nat (j := 0) rfl⟩
section
variable {P : Program} {w : World} {K : PySem.W.Frag} {mg : Str → Option Value} {base : Heap}
theorem scHand : FnScope ["script", "k", "cell", "seed"] ["script", "k"] (defScope sHand) := ⟨rfl, rfl, rfl, by decide +kernel, rfl, by decide +kernel, by decide +kernel⟩
theorem ok_hand {f : Addr} {fd : FuncData} (F : Fun K "_law_hand" "_law_hand" sHand f fd) (T : TxtL mg) : FnOk P w K mg base CX0 1 f fd ["script", "k"] (spHand K) := by
  refine F.ok scHand (fun vs H Q E h => ?_) (fun cdv A outer s H vs Q E hr h => ?_)
  · obtain ⟨a, ns, k, rfl, _⟩ := h
    rfl
  · obtain ⟨a, ns, k, rfl, hS, hl, k0, k1, q⟩ := h
    refine ⟨_, pss_cons (ps_set (i := 2) scHand.nd rfl (Or.inl rfl) (pe_ix ix_list (pe_op op_cat (pe_slice sl_list (pv 0) (po_some (pv 1)) (po_some (pe_op op_add (pv 1) pe_int))) (pe_lst (pa_cons pe_int pa_nil))) pe_int (fun _ _ => rfl)))
      (pss_cons (ps_set (i := 3) scHand.nd rfl (Or.inl rfl) (pe_op op_mod (pe_op op_mul (pe_op op_add (pe_op op_add (pe_op op_mod (pe_callTy call_int1 (by rfl) T.int (by decide +kernel) (pa_cons (pv 2) pa_nil)) pe_int) (pe_op op_mul pe_int (pv 1))) pe_int) pe_int) pe_int))
      (pss_one (ps_ret (pe_lst (pa_cons (pe_op op_mul (pe_callTy call_int1 (by rfl) T.int (by decide +kernel) (pa_cons (pe_cmpR op_ge (pv 2) (pe_op op_pow pe_int pe_int) (nomark _)) pa_nil)) (pv 2)) (pa_cons (pv 3) pa_nil)))))), ?_⟩
    obtain ⟨c, hc⟩ := head_int (ns := ns) (lo := some k) (hi := some (k + 1))
    -- cell
    refine ⟨_, rfl, _, rfl, _, rfl, _, rfl, _, _, rfl, rfl, _, rfl, a, _, rfl, hS, fun p1 n1 => ?_⟩
    refine ⟨(by show 1 ≤ sizeLine; decide), fun p2 n2 => ?_⟩
    have ne12 : p1 ≠ p2 := fun q => by rw [← q, upd_same] at n2; cases n2
    refine ⟨p1, p2, _, _, rfl, rfl, (by rw [upd_ne ne12, upd_same]), upd_same, ?_, fun p3 n3 => ?_⟩
    · have := cutV_length (ns.map V.int) (some k) (some (k + 1))
      rw [List.length_map] at this
      show _ + 1 ≤ sizeLine
      exact Nat.le_trans (Nat.add_le_add_right this 1) (Nat.le_trans (Nat.add_le_add_right hl 1) (by decide))
    refine ⟨p3, _, _, _, rfl, rfl, SqL.of upd_same, hc, ?_⟩
    have e1 : Same H (upd H p1 (.lst (cutV (ns.map V.int) (some k) (some (k + 1))))) := same_new n1
    have e2 := e1.trans (same_new (o := .lst [V.int 0]) n2)
    have e3 := e2.trans (same_new (o := .lst (cutV (ns.map V.int) (some k) (some (k + 1)) ++ [V.int 0])) n3)
    -- seed
    refine ⟨_, rfl, .inl ⟨_, rfl, ?_⟩⟩
    refine ⟨_, _, rfl, rfl, (by show (0 : Int) < 2147483647; decide), _, rfl, _, _, rfl, rfl, .inl ⟨by decide, by decide⟩, _, _, rfl, rfl, _, _, rfl, rfl, _, _, rfl, rfl, .inr ⟨by decide, by decide⟩, _, _, rfl, rfl, (by show (0 : Int) < 2147483629; decide), ?_⟩
    -- the list
    refine ⟨_, rfl, _, _, rfl, rfl, ⟨by decide, by decide, by decide⟩, _, _, rfl, rfl, .inr ⟨_, rfl, ?_⟩⟩
    refine ⟨_, rfl, _, _, rfl, rfl, .inl ?_, _, rfl, (by show 2 ≤ sizeLine; decide), fun p4 n4 => ?_⟩
    · split <;> exact ⟨by decide, by decide⟩
    · refine q p4 _ (Same.free e3 n4) (e3.trans (same_new n4)) ⟨_, _, upd_same, ?_, ?_, ?_⟩
      · by_cases hb : (10 : Int) ^ (18 : Int).toNat ≤ c
        · have h0 : (0 : Int) ≤ (10 : Int) ^ (18 : Int).toNat := by decide
          rw [decide_eq_true hb]
          show 0 ≤ 1 * c
          omega
        · rw [decide_eq_false hb]
          show 0 ≤ 0 * c
          omega
      · exact Int.emod_nonneg _ (by decide)
      · exact Int.lt_trans (Int.emod_lt_of_pos _ (by decide)) (by decide)
theorem scDraw : FnScope ["pool", "many", "found"] ["pool", "many"] (defScope sDraw) := ⟨rfl, rfl, rfl, by decide +kernel, rfl, by decide +kernel, by decide +kernel⟩
theorem ok_draw {f : Addr} {fd : FuncData} (F : Fun K "_law_draw" "_law_draw" sDraw f fd) (T : TxtL mg) : FnOk P w K mg base CX0 1 f fd ["pool", "many"] spDraw := by
  refine F.ok scDraw (fun vs H Q E h => ?_) (fun cdv A outer s H vs Q E hr h => ?_)
  · obtain ⟨p, m, rfl, _⟩ := h
    rfl
  · obtain ⟨p, m, rfl, ⟨i, j, hp, i0, j0, j1⟩, m0, m1, q⟩ := h
    refine ⟨_, pss_cons (ps_if (pt_cmpR op_gt (pe_ix ix_list (pv 0) pe_int (fun _ _ => rfl)) pe_int (nomark _))
        (pss_cons (ps_set (i := 2) scDraw.nd rfl (Or.inl rfl) (pe_op op_mod (pe_callTy call_int1 (by rfl) T.int (by decide +kernel) (pa_cons (pe_ix ix_list (pv 0) pe_int (fun _ _ => rfl)) pa_nil)) (pv 1)))
        (pss_cons (ps_asg (pe_op op_fdivW (pe_ix ix_list (pv 0) pe_int (fun _ _ => rfl)) (pv 1)) (pg_sub (pv 0) pe_int set_list))
        (pss_one (ps_ret (pv 2))))) pss_nil)
      (pss_cons (ps_asg (pe_op op_mod (pe_callTy call_int1 (by rfl) T.int (by decide +kernel) (pa_cons (pe_op op_add (pe_op op_mul (pe_ix ix_list (pv 0) pe_int (fun _ _ => rfl)) pe_int) pe_int) pa_nil)) pe_int) (pg_sub (pv 0) pe_int set_list))
      (pss_one (ps_ret (pe_op op_mod (pe_op op_fdiv (pe_op op_mod (pe_callTy call_int1 (by rfl) T.int (by decide +kernel) (pa_cons (pe_op op_mul (pe_ix ix_list (pv 0) pe_int (fun _ _ => rfl)) (pe_ix ix_list (pv 0) pe_int (fun _ _ => rfl))) pa_nil)) pe_int) pe_int) (pv 1))))), ?_⟩
    refine ⟨_, rfl, p, _, _, _, rfl, rfl, SqL.of hp, atI_nat (j := 0) rfl, _, _, rfl, rfl, _, rfl, ?_⟩
    refine ite2 (fun hi => ?_) (fun hi => ?_)
    · refine ⟨_, rfl, p, _, _, _, rfl, rfl, SqL.of hp, atI_nat (j := 0) rfl, .inl ⟨_, rfl, ?_⟩⟩
      refine ⟨_, rfl, _, _, rfl, rfl, m0, ?_⟩
      refine ⟨_, rfl, p, _, _, _, rfl, rfl, SqL.of hp, atI_nat (j := 0) rfl, _, rfl, _, _, rfl, rfl, wide_div m0 m1 (by decide) (by decide), ?_⟩
      refine ⟨_, rfl, p, _, _, 0, rfl, rfl, hp, rfl, ?_⟩
      refine ⟨_, rfl, ?_⟩
      refine q _ _ (Int.emod_nonneg _ (by omega)) (Int.emod_lt_of_pos _ m0) But.upd ⟨_, _, upd_same, Int.ediv_nonneg i0 (by omega), j0, j1⟩
    · refine ⟨_, rfl, p, _, _, _, rfl, rfl, SqL.of hp, atI_nat (j := 1) rfl, _, _, rfl, rfl, .inr ⟨by decide, by decide⟩, _, _, rfl, rfl, .inl ⟨_, rfl, ?_⟩⟩
      refine ⟨_, _, rfl, rfl, (by show (0 : Int) < 2147483647; decide), ?_⟩
      refine ⟨_, rfl, p, _, _, 1, rfl, rfl, hp, rfl, ?_⟩
      have a0 : (0 : Int) ≤ (j * 48271 + 11) % 2147483647 := Int.emod_nonneg _ (by decide)
      have a1 : (j * 48271 + 11) % 2147483647 < (2147483647 : Int) := Int.emod_lt_of_pos _ (by decide)
      refine ⟨_, rfl, p, _, _, _, rfl, rfl, SqL.of upd_same, atI_nat (j := 1) rfl, _, rfl, p, _, _, _, rfl, rfl, SqL.of upd_same, atI_nat (j := 1) rfl, _, _, rfl, rfl, .inl ⟨by omega, by omega⟩, .inl ⟨_, rfl, ?_⟩⟩
      refine ⟨_, _, rfl, rfl, (by show (0 : Int) < 2147483629; decide), _, _, rfl, rfl, ⟨by decide, by decide⟩, _, rfl, _, _, rfl, rfl, m0, ?_⟩
      exact q _ _ (Int.emod_nonneg _ (by omega)) (Int.emod_lt_of_pos _ m0) But.upd ⟨_, _, upd_same, i0, a0, a1⟩
end
end Fo

set_option Elab.async false
set_option linter.all false
set_option maxRecDepth 100000
set_option maxHeartbeats 2000000
namespace Fo
open PySem L2
/-! ### what raises, and the law's own door to it -/
theorem SqT.ex {K : PySem.W.Frag} {H H' : Hp} {a : Addr} {xs : List V} (e : Same H H') (h : SqT K H a xs) : SqT K H' a xs := by
  rcases h with (h | ⟨o, h⟩) | h
  · exact .inl (.inl (e _ _ h))
  · exact .inl (.inr ⟨o, e _ _ h⟩)
  · exact .inr h
mutual
theorem Dp.ex {K : PySem.W.Frag} {H H' : Hp} (e : Same H H') : ∀ (d : PyData) (v : V), Dp K H v d → Dp K H' v d
  | .none, _, h => by
    cases h
    exact .non
  | .bool b, _, h => by
    cases h
    exact .bl b
  | .int i, _, h => by
    cases h
    exact .int i
  | .str x, _, h => by
    cases h
    exact .str x
  | .list ds, _, h => by
    cases h with
    | lst hs ha => exact .lst (e.seq hs) (DpAll.ex e ds _ ha)
  | .tuple ds, _, h => by
    cases h with
    | tup hs ha => exact .tup (SqT.ex e hs) (DpAll.ex e ds _ ha)
  | .dict _, _, h => by cases h
theorem DpAll.ex {K : PySem.W.Frag} {H H' : Hp} (e : Same H H') : ∀ (ds : List PyData) (vs : List V), DpAll K H vs ds → DpAll K H' vs ds
  | [], _, h => by
    cases h
    exact .nil
  | d :: ds, _, h => by
    cases h with
    | cons h1 h2 => exact .cons (Dp.ex e d _ h1) (DpAll.ex e ds _ h2)
end
structure ShowsOk (d : PyData) : Prop where
  s : d.showable = true
  nd : d.hasDict = false
  dp : d.depth ≤ 60
  z : d.shown.length ≤ sizeLine
/-- what a call lets out is taken, whatever the slots -/
def EW (W : WX) (n : Nat) : XK := fun cls d H => ∀ σ : L2.St, σ.length = n → W cls d σ H
theorem passesW {X : Cx} {W : WX} {n : Nat} (tk : Takes X W) (hn : X.N.length = n) : Passes (L2.CX X.prog X.w) X (EW W n) := fun _ σ _ _ e s' I c => tk e s' (XE.of_call I (fun _ _ _ h => h σ (I.len.trans hn)) c)
theorem ix_tupK {X : Cx} {K : PySem.W.Frag} (h : X.K = K) : IxR X (rIxT K) := by
  subst h
  exact ix_tup
theorem int_eqT {i j : Int} (h : i = j) : decide (V.int i = V.int j) = true := decide_eq_true (by rw [h])
theorem int_eqF {i j : Int} (h : i ≠ j) : decide (V.int i = V.int j) = false := decide_eq_false (fun q => h (by injection q))
end Fo

set_option Elab.async false
set_option linter.all false
set_option maxRecDepth 100000
set_option maxHeartbeats 2000000
namespace Fo
open PySem L2
/-! ### lists of pairs -/
/-- a list of pairs -/
inductive TL (H : Hp) : List V → List (Int × Int) → Prop
  | nil : TL H [] []
  | cons {q : Addr} {p : Int × Int} {xs : List V} {ps : List (Int × Int)} : H q = some (.tup [.int p.1, .int p.2]) → TL H xs ps → TL H (.ref q :: xs) (p :: ps)
theorem TL.ex {H H' : Hp} {xs : List V} {ps : List (Int × Int)} (e : Same H H') (h : TL H xs ps) : TL H' xs ps := by
  induction h with
  | nil => exact .nil
  | cons h _ ih => exact .cons (e _ _ h) ih
theorem TL.but {H H' : Hp} {D : Addr} {ys : List V} {xs : List V} {ps : List (Int × Int)} (hD : H D = some (.lst ys)) (b : But D H H') (h : TL H xs ps) : TL H' xs ps := by
  induction h with
  | nil => exact .nil
  | cons h _ ih => exact .cons (b _ _ (ne_of h hD (by intro z; cases z)) h) ih
theorem TL.length {H : Hp} {xs : List V} {ps : List (Int × Int)} (h : TL H xs ps) : xs.length = ps.length := by
  induction h with
  | nil => rfl
  | cons h _ ih => rw [List.length_cons, List.length_cons, ih]
theorem TL.append {H : Hp} {xs ys : List V} {ps qs : List (Int × Int)} (h : TL H xs ps) (h2 : TL H ys qs) : TL H (xs ++ ys) (ps ++ qs) := by
  induction h with
  | nil => exact h2
  | cons h _ ih => exact .cons h ih
theorem TL.take {H : Hp} {xs : List V} {ps : List (Int × Int)} (h : TL H xs ps) : ∀ n, TL H (xs.take n) (ps.take n) := by
  induction h with
  | nil =>
    intro n
    rw [List.take_nil, List.take_nil]
    exact .nil
  | cons h _ ih =>
    intro n
    cases n with
    | zero => exact .nil
    | succ n => exact .cons h (ih n)
theorem TL.drop {H : Hp} {xs : List V} {ps : List (Int × Int)} (h : TL H xs ps) : ∀ n, TL H (xs.drop n) (ps.drop n) := by
  induction h with
  | nil =>
    intro n
    rw [List.drop_nil, List.drop_nil]
    exact .nil
  | cons h t ih =>
    intro n
    cases n with
    | zero => exact .cons h t
    | succ n => exact ih n
theorem TL.get {H : Hp} {xs : List V} {ps : List (Int × Int)} (h : TL H xs ps) : ∀ {i : Nat} {x : V}, xs[i]? = some x → ∃ q p, x = V.ref q ∧ ps[i]? = some p ∧ H q = some (.tup [.int p.1, .int p.2]) := by
  induction h with
  | nil =>
    intro i x hx
    simp at hx
  | @cons q p _ _ h _ ih =>
    intro i x hx
    cases i with
    | zero =>
      simp at hx
      exact ⟨q, p, hx.symm, rfl, h⟩
    | succ i =>
      simp at hx
      obtain ⟨q2, p2, e1, e2, e3⟩ := ih hx
      exact ⟨q2, p2, e1, by simpa using e2, e3⟩
def pD (p : Int × Int) : PyData := .tuple [.int p.1, .int p.2]
theorem TL.dp {K : PySem.W.Frag} {H : Hp} {xs : List V} {ps : List (Int × Int)} (h : TL H xs ps) : DpAll K H xs (ps.map pD) := by
  induction h with
  | nil => exact .nil
  | cons h _ ih => exact .cons (.tup (SqT.of h) (.cons (.int _) (.cons (.int _) .nil))) ih
theorem pDs_lay : ∀ ps : List (Int × Int), PyData.canLayAll0 (ps.map pD) = true
  | [] => by simp [PyData.canLayAll0]
  | p :: ps => by simp [PyData.canLayAll0, PyData.canLay0, pD, pDs_lay ps]
theorem pDs_depth : ∀ ps : List (Int × Int), PyData.depthAll (ps.map pD) ≤ 2
  | [] => by simp [PyData.depthAll]
  | p :: ps => by
    have h1 := pDs_depth ps
    have h2 : (pD p).depth ≤ 2 := by simp [pD, PyData.depth, PyData.depthAll]
    simp only [List.map_cons, PyData.depthAll]
    omega
theorem pDs_shaped (ps : List (Int × Int)) : SeqAt.shaped (.list (ps.map pD)) = true := by
  have h1 := pDs_depth ps
  have h2 : PyData.depth (.list (ps.map pD)) ≤ 64 := by
    simp only [PyData.depth]
    omega
  show (PyData.canLay0 (.list (ps.map pD)) && decide (PyData.depth (.list (ps.map pD)) ≤ 64)) = true
  rw [Bool.and_eq_true]
  exact ⟨by simp only [PyData.canLay0]; exact pDs_lay ps, decide_eq_true h2⟩
theorem pDs_refl (ps : List (Int × Int)) : PyData.eqv (.list (ps.map pD)) (.list (ps.map pD)) = true := SeqAt.eqv_refl _ (by simp only [PyData.canLay0]; exact pDs_lay ps)
theorem TL.of_get {H : Hp} : ∀ {xs : List V} {ps : List (Int × Int)}, xs.length = ps.length → (∀ (i : Nat) x, xs[i]? = some x → ∃ q p, x = V.ref q ∧ ps[i]? = some p ∧ H q = some (.tup [.int p.1, .int p.2])) → TL H xs ps
  | [], [], _, _ => .nil
  | [], p :: ps, h, _ => by simp at h
  | x :: xs, [], h, _ => by simp at h
  | x :: xs, p :: ps, h, hg => by
    obtain ⟨q, p', rfl, hp, hq⟩ := hg 0 x rfl
    cases hp
    exact .cons hq (TL.of_get (by simpa using h) fun i y hy => hg (i + 1) y (by simpa using hy))
theorem tup_ne {pl q : Addr} {H : Hp} {xs : List V} (hp : PoolAt pl H) (h : H q = some (.tup xs)) : q ≠ pl := by
  obtain ⟨i, j, hp, _⟩ := hp
  exact ne_of h hp (by intro z; cases z)
theorem pair_no (x y : Int) : (ptF x y).lookup ("pair" : Str) = none := ptF_no _ _ (by decide +kernel) (by decide +kernel)
end Fo

set_option Elab.async false
set_option linter.all false
set_option maxRecDepth 100000
set_option maxHeartbeats 2000000
namespace Fo
open PySem L2
/-! ### filledonce.triangles -/
abbrev sTInit : Stmt := inClass (top 15) 0
abbrev sCorners : Stmt := inClass (top 15) 1
abbrev sEdges : Stmt := inClass (top 15) 2
abbrev sArea : Stmt := inClass (top 15) 3
abbrev sMoved : Stmt := inClass (top 15) 4
abbrev sTIn : Stmt := inClass (top 15) 5
abbrev sTEq : Stmt := inClass (top 15) 6
abbrev I2 := Int × Int
def sd (a b p : I2) : Int := sideI a.1 a.2 b.1 b.2 p.1 p.2
def Sm2 (n : Nat) (p : I2) : Prop := Sm n p.1 ∧ Sm n p.2
theorem Sm2.up {n m : Nat} {p : I2} (h : Sm2 n p) (l : n ≤ m) : Sm2 m p := ⟨h.1.up l, h.2.up l⟩
def tipF (l : Addr) : List (Str × V) := putF "tips" (.ref l) []
theorem tipF_tips (l : Addr) : (tipF l).lookup ("tips" : Str) = some (.ref l) := by
  unfold tipF
  rw [lookup_putF, if_pos rfl]
theorem tipF_no (l : Addr) {m : Str} (h : ¬ m = "tips") : (tipF l).lookup m = none := by
  unfold tipF
  rw [lookup_putF, if_neg h]
  rfl
/-- three Points -/
def Three (C : Addr) (v1 v2 v3 : V) (a b c : I2) (H : Hp) : Prop := IsP C v1 a.1 a.2 H ∧ IsP C v2 b.1 b.2 H ∧ IsP C v3 c.1 c.2 H
theorem Three.ex {C : Addr} {v1 v2 v3 : V} {a b c : I2} {H H' : Hp} (e : Same H H') (h : Three C v1 v2 v3 a b c H) : Three C v1 v2 v3 a b c H' := ⟨h.1.ex e, h.2.1.ex e, h.2.2.ex e⟩
/-- a Triangle with these corners -/
def IsT (C CT : Addr) (v : V) (a b c : I2) (H : Hp) : Prop := ∃ t dx l v1 v2 v3, v = .ref t ∧ H t = some (.ins CT dx (tipF l)) ∧ H l = some (.lst [v1, v2, v3]) ∧ Three C v1 v2 v3 a b c H
theorem IsT.ex {C CT : Addr} {v : V} {a b c : I2} {H H' : Hp} (e : Same H H') (h : IsT C CT v a b c H) : IsT C CT v a b c H' := by
  obtain ⟨t, dx, l, v1, v2, v3, rfl, h1, h2, h3⟩ := h
  exact ⟨t, dx, l, v1, v2, v3, rfl, e _ _ h1, e _ _ h2, h3.ex e⟩
def IsPt2 (C : Addr) (v : V) (p : I2) (H : Hp) : Prop := IsPt C v p.1 p.2 H
theorem IsPt2.ex {C : Addr} {v : V} {p : I2} {H H' : Hp} (e : Same H H') (h : IsPt2 C v p H) : IsPt2 C v p H' := IsPt.ex e h
/-- b and c, turned against the clock -/
def onB (a b c : I2) : I2 := if 0 < sd a b c then b else c
def onC (a b c : I2) : I2 := if 0 < sd a b c then c else b
def spTInit (C CT : Addr) : Sp := fun vs H Q _ => ∃ (n : Nat) (p dx : Addr) (u v w : V) (a b c : I2), vs = [.ref p, u, v, w] ∧ H p = some (.ins CT dx []) ∧ IsPt2 C u a H ∧ IsPt2 C v b H ∧ IsPt2 C w c H ∧ n < 1000 ∧ Sm2 n a ∧ Sm2 n b ∧ Sm2 n c ∧ sd a b c ≠ 0 ∧
  ∀ l v1 v2 v3 H', But p H H' → H' p = some (.ins CT dx (tipF l)) → H' l = some (.lst [v1, v2, v3]) → Three C v1 v2 v3 a (onB a b c) (onC a b c) H' → Q .non H'
def spCorners (C CT : Addr) : Sp := fun vs H Q _ => ∃ (t : V) (a b c : I2), vs = [t] ∧ IsT C CT t a b c H ∧ ∀ l v1 v2 v3 H', H l = none → Same H H' → H' l = some (.lst [v1, v2, v3]) → Three C v1 v2 v3 a b c H' → Q (.ref l) H'
/-- the list of the edges -/
def IsE (C : Addr) (v : V) (a b c : I2) (H : Hp) : Prop := ∃ l e1 e2 e3 v1 v2 v3, v = .ref l ∧ H l = some (.lst [.ref e1, .ref e2, .ref e3]) ∧ H e1 = some (.tup [v1, v2]) ∧ H e2 = some (.tup [v2, v3]) ∧ H e3 = some (.tup [v3, v1]) ∧ Three C v1 v2 v3 a b c H
theorem IsE.ex {C : Addr} {v : V} {a b c : I2} {H H' : Hp} (e : Same H H') (h : IsE C v a b c H) : IsE C v a b c H' := by
  obtain ⟨l, e1, e2, e3, v1, v2, v3, rfl, h1, h2, h3, h4, h5⟩ := h
  exact ⟨l, e1, e2, e3, v1, v2, v3, rfl, e _ _ h1, e _ _ h2, e _ _ h3, e _ _ h4, h5.ex e⟩
def spEdges (C CT : Addr) : Sp := fun vs H Q _ => ∃ (t : V) (a b c : I2), vs = [t] ∧ IsT C CT t a b c H ∧ ∀ v H', Same H H' → IsE C v a b c H' → Q v H'
def spArea (C CT : Addr) : Sp := fun vs H Q _ => ∃ (n : Nat) (t : V) (a b c : I2), vs = [t] ∧ IsT C CT t a b c H ∧ n < 1000 ∧ Sm2 n a ∧ Sm2 n b ∧ Sm2 n c ∧ ∀ H', Same H H' → Q (.int (sd a b c)) H'
def mv (p q : I2) : I2 := (p.1 + q.1, p.2 + q.2)
def spMoved (C CT : Addr) : Sp := fun vs H Q _ => ∃ (n : Nat) (t u : V) (a b c by' : I2), vs = [t, u] ∧ IsT C CT t a b c H ∧ IsPt2 C u by' H ∧ n < 999 ∧ Sm2 n a ∧ Sm2 n b ∧ Sm2 n c ∧ Sm2 n by' ∧ 0 < sd a b c ∧ ∀ v H', Same H H' → IsT C CT v (mv a by') (mv b by') (mv c by') H' → Q v H'
def inT (a b c p : I2) : Bool := decide (0 ≤ sd a b p) && (decide (0 ≤ sd b c p) && decide (0 ≤ sd c a p))
/-- the edge (a, b) is one of d e f -/
def hasE (a b d e f : I2) : Bool := (decide (d = a) && decide (e = b)) || ((decide (e = a) && decide (f = b)) || (decide (f = a) && decide (d = b)))
def eqT (a b c d e f : I2) : Bool := hasE a b d e f && hasE b c d e f
def spTEq (C CT : Addr) : Sp := fun vs H Q _ => ∃ (t u : V) (a b c : I2), vs = [t, u] ∧ IsT C CT t a b c H ∧ ((∃ d e f : I2, IsT C CT u d e f H ∧ ∀ H', Same H H' → Q (.bl (eqT a b c d e f)) H') ∨ ((∃ q xs, u = .ref q ∧ H q = some (.lst xs)) ∧ Q (.bl false) H))
/-- what the top has written of Triangle -/
structure TxtT (K : PySem.W.Frag) (mg : Str → Option Value) (CT : Addr) : Prop where
  cl : Cls K CT
  nT : NoAttr K CT "tips"
  mgT : mg "Triangle" = some (.ref CT)
  list : mg "list" = none
  all : mg "all" = none
  ha : PySem.W.findIn K (.ref CT) "__class__" = some (some (.builtin "object.__class__"))
  hm : PySem.W.mroIn K CT (.type "object") = some true
  kLT : PySem.W.kitOne K (.type "list") (.ref CT) = some false
  kTT : PySem.W.kitOne K (.ref CT) (.ref CT) = some true
/-- the defs of Triangle -/
structure TDefs (K : PySem.W.Frag) (mg : Str → Option Value) (C CT fS fTI fCo fEd fAr fEq fAd pAr : Addr) (fdS fdTI fdCo fdEd fdAr fdEq fdAd : FuncData) : Prop where
  TT : TxtT K mg CT
  FS : Fun K "side" "side" sSide fS fdS
  bS : Binds K fdS ["a", "b", "point"] []
  mS : mg "side" = some (.ref fS)
  MT : Mk K CT fTI
  FTI : Fun K "__init__" "Triangle.__init__" sTInit fTI fdTI
  bTI : Binds K fdTI ["self", "a", "b", "c"] []
  FCo : Fun K "corners" "Triangle.corners" sCorners fCo fdCo
  bCo : Binds K fdCo ["self"] []
  mCo : Meth K CT "corners" fCo
  FEd : Fun K "edges" "Triangle.edges" sEdges fEd fdEd
  bEd : Binds K fdEd ["self"] []
  mEd : Meth K CT "edges" fEd
  FAr : Fun K "area2" "Triangle.area2" sArea fAr fdAr
  bAr : Binds K fdAr ["self"] []
  pAr : PropOf K CT "area2" pAr fAr
  FEq : Fun K "__eq__" "Point.__eq__" sEq fEq fdEq
  bEq : Binds K fdEq ["self", "other"] []
  oEq : PySem.W.findIn K (.ref C) "__eq__" = some (some (.ref fEq))
  iEq : PySem.W.isFn K (.ref fEq) = true
  FAd : Fun K "__add__" "Point.__add__" sAdd fAd fdAd
  bAd : Binds K fdAd ["self", "other"] []
  oAd : OwnOp K C .Add fAd
section
variable {P : Program} {w : World} {K : PySem.W.Frag} {mg : Str → Option Value} {base : Heap}
variable {C fW fI fP fA fO CT fS fTI fCo fEd fAr fEq fAd pAr : Addr} {fdW fdI fdP fdA fdO fdS fdTI fdCo fdEd fdAr fdEq fdAd : FuncData}
theorem scTInit : FnScope ["self", "a", "b", "c", "first", "second", "third", "turn"] ["self", "a", "b", "c"] (defScope sTInit) := ⟨rfl, rfl, rfl, by decide +kernel, rfl, by decide +kernel, by decide +kernel⟩
theorem TDefs.GTI (d : TDefs K mg C CT fS fTI fCo fEd fAr fEq fAd pAr fdS fdTI fdCo fdEd fdAr fdEq fdAd) (D : Defs K mg C fW fI fP fA fO fdW fdI fdP fdA fdO) : FnOk P w K mg base CX0 8 fTI fdTI ["self", "a", "b", "c"] (spTInit C CT) := by
  have GA : FnOk P w K mg base CX0 4 fA fdA ["thing"] (spAsPoint C) := D.GA
  have GS : FnOk P w K mg base CX0 7 fS fdS ["a", "b", "point"] (spSide C) := ok_side d.FS D
  refine d.FTI.ok scTInit (fun vs H Q E h => ?_) (fun cdv A outer s H vs Q E hr h => ?_)
  · obtain ⟨n, p, dx, u, v, w, a, b, c, rfl, _⟩ := h
    rfl
  · obtain ⟨n, p, dx, u, v, w, a, b, c, rfl, hp, hu, hv, hw, n1, sa, sb, sc, ne, k⟩ := h
    have hr4 : Room 4 _ := hr.mono (by decide)
    refine ⟨_, pss_cons (ps_set (i := 4) scTInit.nd rfl (Or.inl rfl) (pe_call GA hr4 rfl D.mA D.FA.kp D.bA .nil pass0 (pa_cons (pv 1) pa_nil)))
      (pss_cons (ps_set (i := 5) scTInit.nd rfl (Or.inl rfl) (pe_call GA hr4 rfl D.mA D.FA.kp D.bA .nil pass0 (pa_cons (pv 2) pa_nil)))
      (pss_cons (ps_set (i := 6) scTInit.nd rfl (Or.inl rfl) (pe_call GA hr4 rfl D.mA D.FA.kp D.bA .nil pass0 (pa_cons (pv 3) pa_nil)))
      (pss_cons (ps_set (i := 7) scTInit.nd rfl (Or.inl rfl) (pe_call GS (hr.mono (by decide)) rfl d.mS d.FS.kp d.bS .nil pass0 (pa_cons (pv 4) (pa_cons (pv 5) (pa_cons (pv 6) pa_nil)))))
      (pss_cons (ps_if (pt_cmpR op_eq (pv 7) pe_int (nomark _)) (pss_one ps_never) pss_nil)
      (pss_one (ps_if (pt_cmpR op_gt (pv 7) pe_int (nomark _)) (pss_one (ps_fld (pv 0) (pe_lst (pa_cons (pv 4) (pa_cons (pv 5) (pa_cons (pv 6) pa_nil)))) rfl)) (pss_one (ps_fld (pv 0) (pe_lst (pa_cons (pv 4) (pa_cons (pv 6) (pa_cons (pv 5) pa_nil)))) rfl)))))))), ?_⟩
    refine ⟨_, rfl, u, a.1, a.2, rfl, hu, fun w1 H1 e1 h1 _ => ?_⟩
    refine ⟨_, rfl, v, b.1, b.2, rfl, hv.ex e1, fun w2 H2 e2 h2 _ => ?_⟩
    refine ⟨_, rfl, w, c.1, c.2, rfl, (hw.ex e1).ex e2, fun w3 H3 e3 h3 _ => ?_⟩
    have t1 := (h1.ex e2).ex e3
    have t2 := h2.ex e3
    refine ⟨_, rfl, _, rfl, _, rfl, n, w1, w2, w3, a.1, a.2, b.1, b.2, c.1, c.2, rfl, t1.pt, t2.pt, h3.pt, n1, sa.1, sa.2, sb.1, sb.2, sc.1, sc.2, fun H4 e4 => ?_⟩
    have e := ((e1.trans e2).trans e3).trans e4
    refine ⟨_, rfl, rfl, _, rfl, ?_⟩
    have nz : decide (V.int (sideI a.1 a.2 b.1 b.2 c.1 c.2) = V.int 0) = false := decide_eq_false (fun q => ne (by injection q))
    rw [nz]
    refine iteF ?_
    refine ⟨_, rfl, _, _, rfl, rfl, _, rfl, ?_⟩
    have fin : ∀ (l : Addr) (y z : V) (qb qc : I2), H4 l = none → IsP C y qb.1 qb.2 H4 → IsP C z qc.1 qc.2 H4 → qb = onB a b c → qc = onC a b c → Q .non (upd (upd H4 l (.lst [w1, y, z])) p (.ins CT dx (tipF l))) := fun l y z qb qc nl hy hz e5 e6 => by
      subst e5 e6
      have g := same_new (o := .lst [w1, y, z]) nl
      have pl : (upd H4 l (.lst [w1, y, z])) p = some (.ins CT dx []) := g _ _ (e _ _ hp)
      have np : l ≠ p := fun q => by
        rw [q, e _ _ hp] at nl
        cases nl
      have one : ∀ (v : V) (x y' : Int), IsP C v x y' H4 → IsP C v x y' (upd (upd H4 l (.lst [w1, y, z])) p (.ins CT dx (tipF l))) := fun v x y' hv => by
        obtain ⟨q, dq, rfl, hq⟩ := hv
        refine ⟨q, dq, rfl, ?_⟩
        have nq : q ≠ p := fun z => by
          rw [z, e _ _ hp] at hq
          injection hq with hq
          injection hq with _ _ h3
          have h4 := congrArg (List.lookup ("x" : Str)) h3
          rw [ptF_x] at h4
          cases h4
        rw [upd_ne nq]
        exact g _ _ hq
      refine k l w1 y z _ ((But.of (e.trans g)).trans But.upd) upd_same ?_ ⟨one _ _ _ ((t1.ex e4)), one _ _ _ hy, one _ _ _ hz⟩
      rw [upd_ne np]
      exact upd_same
    have hb4 := t2.ex e4
    have hc4 := h3.ex e4
    by_cases hs : 0 < sd a b c
    · have hd : decide ((0 : Int) < sideI a.1 a.2 b.1 b.2 c.1 c.2) = true := decide_eq_true hs
      rw [hd]
      refine iteT ?_
      refine ⟨_, rfl, _, rfl, _, rfl, (by show 3 ≤ sizeLine; decide), fun l nl => ?_⟩
      refine ⟨_, rfl, p, CT, dx, [], rfl, same_new nl _ _ (e _ _ hp), d.TT.cl, d.TT.nT, (by show 0 < 1000; decide), ?_⟩
      exact fin l w2 w3 b c nl hb4 hc4 (by unfold onB; rw [if_pos hs]) (by unfold onC; rw [if_pos hs])
    · have hd : decide ((0 : Int) < sideI a.1 a.2 b.1 b.2 c.1 c.2) = false := decide_eq_false hs
      rw [hd]
      refine iteF ?_
      refine ⟨_, rfl, _, rfl, _, rfl, (by show 3 ≤ sizeLine; decide), fun l nl => ?_⟩
      refine ⟨_, rfl, p, CT, dx, [], rfl, same_new nl _ _ (e _ _ hp), d.TT.cl, d.TT.nT, (by show 0 < 1000; decide), ?_⟩
      exact fin l w3 w2 c b nl hc4 hb4 (by unfold onB; rw [if_neg hs]) (by unfold onC; rw [if_neg hs])
end
end Fo

set_option Elab.async false
set_option linter.all false
set_option maxRecDepth 100000
set_option maxHeartbeats 2000000
namespace Fo
open PySem L2
/-! ### the methods of Triangle -/
section
variable {P : Program} {w : World} {K : PySem.W.Frag} {mg : Str → Option Value} {base : Heap}
variable {C fW fI fP fA fO CT fS fTI fCo fEd fAr fEq fAd pAr : Addr} {fdW fdI fdP fdA fdO fdS fdTI fdCo fdEd fdAr fdEq fdAd : FuncData}
/-- Triangle(u, v, w): spTInit's reading at a new instance -/
theorem make_tri {H : Hp} {u v w : V} {a b c : I2} {n : Nat} {Q : VK} {E : XK} (hu : IsPt2 C u a H) (hv : IsPt2 C v b H) (hw : IsPt2 C w c H) (n1 : n < 1000) (sa : Sm2 n a) (sb : Sm2 n b) (sc : Sm2 n c) (ne : sd a b c ≠ 0)
    (k : ∀ t H', Same H H' → IsT C CT t a (onB a b c) (onC a b c) H' → Q t H') :
    ∀ x dx, H x = none → H dx = none → dx ≠ x → spTInit C CT (.ref x :: ([u, v, w] ++ [])) (upd (upd H dx (.own x)) x (.ins CT dx [])) (fun v H2 => v = .non ∧ Q (.ref x) H2) E := fun x dx nx nd ndx => by
  have g1 : Same H (upd (upd H dx (.own x)) x (.ins CT dx [])) := (same_new nd).trans (same_new (by rw [upd_ne ndx.symm]; exact nx))
  refine ⟨n, x, dx, u, v, w, a, b, c, rfl, upd_same, hu.ex g1, hv.ex g1, hw.ex g1, n1, sa, sb, sc, ne, fun l v1 v2 v3 H' bt hx hl ht => ⟨rfl, ?_⟩⟩
  exact k _ H' (bt.same nx g1) ⟨x, dx, l, v1, v2, v3, rfl, hx, hl, ht⟩
theorem scCorners : FnScope ["self"] ["self"] (defScope sCorners) := ⟨rfl, rfl, rfl, by decide +kernel, rfl, by decide +kernel, by decide +kernel⟩
theorem TDefs.GCo (d : TDefs K mg C CT fS fTI fCo fEd fAr fEq fAd pAr fdS fdTI fdCo fdEd fdAr fdEq fdAd) : FnOk P w K mg base CX0 1 fCo fdCo ["self"] (spCorners C CT) := by
  refine d.FCo.ok scCorners (fun vs H Q E h => ?_) (fun cdv A outer s H vs Q E hr h => ?_)
  · obtain ⟨t, a, b, c, rfl, _⟩ := h
    rfl
  · obtain ⟨t, a, b, c, rfl, ⟨q, dx, l, v1, v2, v3, rfl, h1, h2, h3⟩, k⟩ := h
    refine ⟨_, pss_one (ps_ret (pe_callTy call_list_of (by rfl) d.TT.list (by decide +kernel) (pa_cons (pe_fld (pv 0) rfl) pa_nil))), ?_⟩
    refine ⟨_, rfl, q, CT, dx, _, _, rfl, h1, d.TT.cl, d.TT.nT, tipF_tips _, l, _, rfl, .inl (SqL.of h2), fun m nm => ?_⟩
    exact k m v1 v2 v3 _ nm (same_new nm) upd_same (h3.ex (same_new nm))
theorem scEdges : FnScope ["self"] ["self"] (defScope sEdges) := ⟨rfl, rfl, rfl, by decide +kernel, rfl, by decide +kernel, by decide +kernel⟩
theorem TDefs.GEd (d : TDefs K mg C CT fS fTI fCo fEd fAr fEq fAd pAr fdS fdTI fdCo fdEd fdAr fdEq fdAd) : FnOk P w K mg base CX0 1 fEd fdEd ["self"] (spEdges C CT) := by
  refine d.FEd.ok scEdges (fun vs H Q E h => ?_) (fun cdv A outer s H vs Q E hr h => ?_)
  · obtain ⟨t, a, b, c, rfl, _⟩ := h
    rfl
  · obtain ⟨t, a, b, c, rfl, ⟨q, dx, l, v1, v2, v3, rfl, h1, h2, h3⟩, k⟩ := h
    refine ⟨_, pss_one (ps_ret (pe_lst (pa_cons (pe_tup (pa_cons (pe_ix ix_list (pe_fld (pv 0) rfl) pe_int (fun _ _ => rfl)) (pa_cons (pe_ix ix_list (pe_fld (pv 0) rfl) pe_int (fun _ _ => rfl)) pa_nil)))
      (pa_cons (pe_tup (pa_cons (pe_ix ix_list (pe_fld (pv 0) rfl) pe_int (fun _ _ => rfl)) (pa_cons (pe_ix ix_list (pe_fld (pv 0) rfl) pe_int (fun _ _ => rfl)) pa_nil)))
      (pa_cons (pe_tup (pa_cons (pe_ix ix_list (pe_fld (pv 0) rfl) pe_int (fun _ _ => rfl)) (pa_cons (pe_ix ix_list (pe_fld (pv 0) rfl) pe_int (fun _ _ => rfl)) pa_nil))) pa_nil))))), ?_⟩
    have Z : 2 ≤ sizeLine := by decide
    have T := d.TT
    refine ⟨_, rfl, q, CT, dx, _, _, rfl, h1, T.cl, T.nT, tipF_tips _, l, _, _, _, rfl, rfl, SqL.of h2, atI_nat (j := 0) rfl, ?_⟩
    refine ⟨_, rfl, q, CT, dx, _, _, rfl, h1, T.cl, T.nT, tipF_tips _, l, _, _, _, rfl, rfl, SqL.of h2, atI_nat (j := 1) rfl, Z, fun t1 n1 => ?_⟩
    have g1 := same_new (o := .tup [v1, v2]) n1
    have a1 := g1 _ _ h1
    have a2 := g1 _ _ h2
    refine ⟨_, rfl, q, CT, dx, _, _, rfl, a1, T.cl, T.nT, tipF_tips _, l, _, _, _, rfl, rfl, SqL.of a2, atI_nat (j := 1) rfl, ?_⟩
    refine ⟨_, rfl, q, CT, dx, _, _, rfl, a1, T.cl, T.nT, tipF_tips _, l, _, _, _, rfl, rfl, SqL.of a2, atI_nat (j := 2) rfl, Z, fun t2 n2 => ?_⟩
    have g2 := same_new (o := .tup [v2, v3]) n2
    have b1 := g2 _ _ a1
    have b2 := g2 _ _ a2
    refine ⟨_, rfl, q, CT, dx, _, _, rfl, b1, T.cl, T.nT, tipF_tips _, l, _, _, _, rfl, rfl, SqL.of b2, atI_nat (j := 2) rfl, ?_⟩
    refine ⟨_, rfl, q, CT, dx, _, _, rfl, b1, T.cl, T.nT, tipF_tips _, l, _, _, _, rfl, rfl, SqL.of b2, atI_nat (j := 0) rfl, Z, fun t3 n3 => ?_⟩
    have g3 := same_new (o := .tup [v3, v1]) n3
    refine ⟨(by show 3 ≤ sizeLine; decide), fun m nm => ?_⟩
    have g4 := same_new (o := .lst [.ref t1, .ref t2, .ref t3]) nm
    have g := ((g1.trans g2).trans g3).trans g4
    exact k _ _ g ⟨m, t1, t2, t3, v1, v2, v3, rfl, upd_same, (g2.trans (g3.trans g4)) _ _ upd_same, (g3.trans g4) _ _ upd_same, g4 _ _ upd_same, h3.ex g⟩
theorem scArea : FnScope ["self"] ["self"] (defScope sArea) := ⟨rfl, rfl, rfl, by decide +kernel, rfl, by decide +kernel, by decide +kernel⟩
theorem TDefs.GAr (d : TDefs K mg C CT fS fTI fCo fEd fAr fEq fAd pAr fdS fdTI fdCo fdEd fdAr fdEq fdAd) (D : Defs K mg C fW fI fP fA fO fdW fdI fdP fdA fdO) : FnOk P w K mg base CX0 8 fAr fdAr ["self"] (spArea C CT) := by
  have GS : FnOk P w K mg base CX0 7 fS fdS ["a", "b", "point"] (spSide C) := ok_side d.FS D
  refine d.FAr.ok scArea (fun vs H Q E h => ?_) (fun cdv A outer s H vs Q E hr h => ?_)
  · obtain ⟨n, t, a, b, c, rfl, _⟩ := h
    rfl
  · obtain ⟨n, t, a, b, c, rfl, ⟨q, dx, l, v1, v2, v3, rfl, h1, h2, h3⟩, n1, sa, sb, sc, k⟩ := h
    refine ⟨_, pss_one (ps_ret (pe_call GS hr rfl d.mS d.FS.kp d.bS .nil pass0 (pa_cons (pe_ix ix_list (pe_fld (pv 0) rfl) pe_int (fun _ _ => rfl)) (pa_cons (pe_ix ix_list (pe_fld (pv 0) rfl) pe_int (fun _ _ => rfl)) (pa_cons (pe_ix ix_list (pe_fld (pv 0) rfl) pe_int (fun _ _ => rfl)) pa_nil))))), ?_⟩
    have T := d.TT
    refine ⟨_, rfl, q, CT, dx, _, _, rfl, h1, T.cl, T.nT, tipF_tips _, l, _, _, _, rfl, rfl, SqL.of h2, atI_nat (j := 0) rfl, ?_⟩
    refine ⟨_, rfl, q, CT, dx, _, _, rfl, h1, T.cl, T.nT, tipF_tips _, l, _, _, _, rfl, rfl, SqL.of h2, atI_nat (j := 1) rfl, ?_⟩
    refine ⟨_, rfl, q, CT, dx, _, _, rfl, h1, T.cl, T.nT, tipF_tips _, l, _, _, _, rfl, rfl, SqL.of h2, atI_nat (j := 2) rfl, ?_⟩
    exact ⟨n, v1, v2, v3, a.1, a.2, b.1, b.2, c.1, c.2, rfl, h3.1.pt, h3.2.1.pt, h3.2.2.pt, n1, sa.1, sa.2, sb.1, sb.2, sc.1, sc.2, k⟩
theorem sd_mv (a b c q : I2) : sd (mv a q) (mv b q) (mv c q) = sd a b c := by
  unfold sd sideI mv
  grind
theorem Sm.add {n : Nat} {x y : Int} (hx : Sm n x) (hy : Sm n y) : Sm (n + 1) (x + y) := by
  unfold Sm at *
  rw [Nat.pow_succ]
  omega
theorem Sm2.mv {n : Nat} {p q : I2} (hp : Sm2 n p) (hq : Sm2 n q) : Sm2 (n + 1) (mv p q) := ⟨hp.1.add hq.1, hp.2.add hq.2⟩
end
end Fo

set_option Elab.async false
set_option linter.all false
set_option maxRecDepth 100000
set_option maxHeartbeats 2000000
namespace Fo
open PySem L2
/-! ### filledonce.bits -/
abbrev sWrap : Stmt := top 19
abbrev sChk : Stmt := top 20
abbrev sLeast : Stmt := top 21
abbrev sShows : Stmt := top 22
def XDn (v : V) : HO := .xd [((Str.ofString "number"), v)]
def Scal : V → Prop
  | .non => True
  | .bl _ => True
  | .int _ => True
  | .str _ => True
  | _ => False
def wholeV : V → Bool
  | .int _ => true
  | _ => false
def spWholeX : Sp := fun vs H Q _ => ∃ v : V, vs = [v] ∧ Scal v ∧ Q (.bl (wholeV v)) H
/-- a number within bounds -/
def okN (lo hi : Int) : V → Bool
  | .int i => decide (lo ≤ i) && decide (i ≤ hi)
  | _ => false
abbrev M29 : Int := 100000000000000000000000000000
def spWrap : Sp := fun vs H Q _ => ∃ (z i : Int) (n : Nat), vs = [.int z, .int i] ∧ i = (n : Int) + 1 ∧ n < 200 ∧ Q (.int (wrapN z n)) H
def spWrapX (CM : Addr) : Sp := fun vs H _ E => ∃ u v x : V, vs = [u, v] ∧ Scal u ∧ Scal v ∧ ((wholeV u = false ∧ x = u) ∨ (wholeV u = true ∧ okN 1 200 v = false ∧ x = v)) ∧ ∀ d H', Same H H' → H' d = some (XDn x) → E (.ref CM) (some d) H'
def spChk : Sp := fun vs H Q _ => ∃ i : Int, vs = [.int i] ∧ 1 ≤ i ∧ i ≤ M29 ∧ Q .non H
def spChkX (CM : Addr) : Sp := fun vs H _ E => ∃ u : V, vs = [u] ∧ Scal u ∧ okN 1 M29 u = false ∧ ∀ d H', Same H H' → H' d = some (XDn u) → E (.ref CM) (some d) H'
def spLeast : Sp := fun vs H Q _ => ∃ i : Int, vs = [.int i] ∧ 1 ≤ i ∧ i ≤ M29 ∧ Q (.int ((((i * i).natAbs.log2 + 1 : Nat) : Int) + 1)) H
def spShows (C CT : Addr) : Sp := fun vs H Q _ => ∃ i : Int, vs = [.int i] ∧ 1 ≤ i ∧ i ≤ M29 ∧ ∀ v H', Same H H' → IsT C CT v (0, 0) (i, 0) (0, i) H' → Q v H'
structure RTxt (P : Program) (K : PySem.W.Frag) (mg : Str → Option Value) (CM fMI CF CI : Addr) : Prop where
  xM : FoX_number.XTxt P K mg CM fMI
  gM : mg "InvalidNumber" = some (.ref CM)
  gF : mg "FillError" = some (.ref CF)
  gI : mg "InvalidPoint" = some (.ref CI)
  ex : PySem.W.exmOne K (.ref CM) (.ref CF) = some true
  is : XIsC K CM
  k1 : PySem.W.kitOne K (.ref CM) (.ref CM) = some true
  k2 : PySem.W.kitOne K (.ref CM) (.ref CI) = some false
  zR : mg "repr" = none
structure BDefs (K : PySem.W.Frag) (mg : Str → Option Value) (fWr fCh fLe fSh : Addr) (fdWr fdCh fdLe fdSh : FuncData) : Prop where
  mB : ∃ t, mg "MOST_BITS" = some (.int 200 t)
  mN : ∃ t, mg "MOST_NUMBER" = some (.int M29 t)
  FWr : Fun K "wrapped" "wrapped" sWrap fWr fdWr
  bWr : Binds K fdWr ["number", "bits"] []
  mWr : mg "wrapped" = some (.ref fWr)
  FCh : Fun K "check_most" "check_most" sChk fCh fdCh
  bCh : Binds K fdCh ["most"] []
  mCh : mg "check_most" = some (.ref fCh)
  FLe : Fun K "least_bits" "least_bits" sLeast fLe fdLe
  bLe : Binds K fdLe ["most"] []
  mLe : mg "least_bits" = some (.ref fLe)
  FSh : Fun K "shows_bits" "shows_bits" sShows fSh fdSh
  bSh : Binds K fdSh ["most"] []
  mSh : mg "shows_bits" = some (.ref fSh)
section
variable {P : Program} {w : World} {K : PySem.W.Frag} {mg : Str → Option Value} {base : Heap}
variable {C fW fI fP fA fO CT fS fTI fCo fEd fAr fEq fAd pAr CM fMI CF CI fWr fCh fLe fSh : Addr} {fdW fdI fdP fdA fdO fdS fdTI fdCo fdEd fdAr fdEq fdAd fdWr fdCh fdLe fdSh : FuncData}
theorem ok_wholeX {f : Addr} {fd : FuncData} (F : Fun K "is_whole" "is_whole" sWhole f fd) (T : Txt K mg C) : FnOk P w K mg base CX0 1 f fd ["value"] spWholeX := by
  refine F.ok scWhole (fun vs H Q E h => ?_) (fun cdv A outer s H vs Q E hr h => ?_)
  · obtain ⟨v, rfl, _⟩ := h
    rfl
  · obtain ⟨v, rfl, sv, k⟩ := h
    refine ⟨_, pss_one (ps_ret (pe_and (pe_callB call_isi (by rfl) T.isi (by decide +kernel) (pa_cons (pv 0) (pa_cons (pe_bltn (v := .ty "int") (by rfl) T.int (by decide +kernel) rfl) pa_nil)))
      (pe_one (pe_not (pe_callB call_isi (by rfl) T.isi (by decide +kernel) (pa_cons (pv 0) (pa_cons (pe_bltn (v := .ty "bool") (by rfl) T.bool (by decide +kernel) rfl) pa_nil))))))), ?_⟩
    cases v with
    | non =>
      refine ⟨_, rfl, _, _, _, _, false, rfl, .ty _, .base .non, kit_ty (by decide +kernel), false, rfl, ?_⟩
      exact iteF k
    | bl b =>
      refine ⟨_, rfl, _, _, _, _, true, rfl, .ty _, .base (.bl b), kit_ty (by decide +kernel), true, rfl, ?_⟩
      refine iteT ?_
      exact ⟨_, rfl, _, _, _, _, true, rfl, .ty _, .base (.bl b), kit_ty (by decide +kernel), true, rfl, k⟩
    | int i =>
      refine ⟨_, rfl, _, _, _, _, true, rfl, .ty _, .base (.int i), kit_ty (by decide +kernel), true, rfl, ?_⟩
      refine iteT ?_
      exact ⟨_, rfl, _, _, _, _, false, rfl, .ty _, .base (.int i), kit_ty (by decide +kernel), false, rfl, k⟩
    | str z =>
      refine ⟨_, rfl, _, _, _, _, false, rfl, .ty _, .base (.str z), kit_ty (by decide +kernel), false, rfl, ?_⟩
      exact iteF k
    | _ => exact sv.elim
theorem scWrap : FnScope ["number", "bits", "middle"] ["number", "bits"] (defScope sWrap) := ⟨rfl, rfl, rfl, by decide +kernel, rfl, by decide +kernel, by decide +kernel⟩
theorem ok_wrap (D : Defs K mg C fW fI fP fA fO fdW fdI fdP fdA fdO) (B : BDefs K mg fWr fCh fLe fSh fdWr fdCh fdLe fdSh) : FnOk P w K mg base CX0 2 fWr fdWr ["number", "bits"] spWrap := by
  have GW : FnOk P w K mg base CX0 1 fW fdW ["value"] spWholeX := ok_wholeX D.FW D.T
  obtain ⟨tB, mB⟩ := B.mB
  refine B.FWr.ok scWrap (fun vs H Q E h => ?_) (fun cdv A outer s H vs Q E hr h => ?_)
  · obtain ⟨z, i, n, rfl, _⟩ := h
    rfl
  · obtain ⟨z, i, n, rfl, rfl, n1, k⟩ := h
    refine ⟨_, pss_cons (ps_if (pt_not (pt_val (pe_call GW hr rfl D.mW D.FW.kp D.bW .nil pass0 (pa_cons (pv 0) pa_nil)))) (pss_one ps_never) pss_nil)
      (pss_cons (ps_if (PW.pt (pw_or (pt_not (pt_val (pe_call GW hr rfl D.mW D.FW.kp D.bW .nil pass0 (pa_cons (pv 1) pa_nil)))) (pw_or (pt_cmpR op_lt (pv 1) pe_int (nomark _)) (pw_or1 (pt_cmpR op_gt (pv 1) (pe_glob (v := .int 200) rfl mB ⟨_, rfl⟩) (nomark _)))))) (pss_one ps_never) pss_nil)
      (pss_cons (ps_set (i := 2) scWrap.nd rfl (Or.inl rfl) (pe_op op_shl pe_int (pe_op op_sub (pv 1) pe_int)))
      (pss_one (ps_ret (pe_op op_sub (pe_op op_mod (pe_op op_add (pv 0) (pv 2)) (pe_op op_mul pe_int (pv 2))) (pv 2)))))), ?_⟩
    refine ⟨_, rfl, .int z, rfl, trivial, true, rfl, ?_⟩
    refine iteF ?_
    refine ⟨_, rfl, .int ((n : Int) + 1), rfl, trivial, true, rfl, ?_⟩
    refine iteF ?_
    refine ⟨_, rfl, _, _, rfl, rfl, _, rfl, ?_⟩
    rw [decide_eq_false (show ¬ (n : Int) + 1 < 1 by omega)]
    refine iteF ?_
    refine ⟨_, rfl, _, _, rfl, rfl, _, rfl, ?_⟩
    rw [decide_eq_false (show ¬ (200 : Int) < (n : Int) + 1 by omega)]
    refine iteF ?_
    refine ⟨_, rfl, _, _, rfl, rfl, _, _, rfl, rfl, ⟨by omega, by omega, by decide⟩, ?_⟩
    have e : ((n : Int) + 1 - 1).toNat = n := by omega
    dsimp only
    rw [e, Int.one_mul]
    refine ⟨_, rfl, _, rfl, _, _, rfl, rfl, _, rfl, _, _, rfl, rfl, .inl ⟨by decide, by decide⟩, _, _, rfl, rfl, ?_, _, rfl, _, _, rfl, rfl, k⟩
    have := p2pos n
    show (0 : Int) < 2 * 2 ^ n
    omega
theorem ok_wrapX (D : Defs K mg C fW fI fP fA fO fdW fdI fdP fdA fdO) (B : BDefs K mg fWr fCh fLe fSh fdWr fdCh fdLe fdSh) (R : RTxt P K mg CM fMI CF CI) : FnOk P w K mg base (L2.CX P w) 3 fWr fdWr ["number", "bits"] (spWrapX CM) := by
  have GW : FnOk P w K mg base CX0 1 fW fdW ["value"] spWholeX := ok_wholeX D.FW D.T
  obtain ⟨tB, mB⟩ := B.mB
  refine B.FWr.okX scWrap (fun vs H Q E h => ?_) (fun cdv A outer s H vs Q E hr2 h => ?_)
  · obtain ⟨u, v, x, rfl, _⟩ := h
    rfl
  · obtain ⟨u, v, x, rfl, su, sv, hx, k⟩ := h
    have hr : Room 1 _ := hr2.mono (by decide)
    refine ⟨_, pss_cons (ps_if (pt_not (pt_val (pe_call GW hr rfl D.mW D.FW.kp D.bW .nil pass0 (pa_cons (pv 0) pa_nil)))) (pss_one (ps_raise_number (W := fun cls d _ H => E cls d H) rfl R.xM R.gM hr2 (takes_of rfl rfl rfl rfl) (pa_cons (pv 0) pa_nil))) pss_nil)
      (pss_cons (ps_if (PW.pt (pw_or (pt_not (pt_val (pe_call GW hr rfl D.mW D.FW.kp D.bW .nil pass0 (pa_cons (pv 1) pa_nil)))) (pw_or (pt_cmpR op_lt (pv 1) pe_int (nomark _)) (pw_or1 (pt_cmpR op_gt (pv 1) (pe_glob (v := .int 200) rfl mB ⟨_, rfl⟩) (nomark _)))))) (pss_one (ps_raise_number (W := fun cls d _ H => E cls d H) rfl R.xM R.gM hr2 (takes_of rfl rfl rfl rfl) (pa_cons (pv 1) pa_nil))) pss_nil)
      (pss_cons ps_never (pss_one ps_never))), ?_⟩
    have fin : ∀ d, H d = none → E (.ref CM) (some d) (upd H d (XDn x)) := fun d nd => k d _ (same_new nd) upd_same
    rcases hx with ⟨wu, rfl⟩ | ⟨wu, ov, rfl⟩
    · refine ⟨_, rfl, x, rfl, su, false, by rw [wu], ?_⟩
      exact iteT ⟨_, rfl, _, rfl, fin⟩
    · refine ⟨_, rfl, u, rfl, su, true, by rw [wu], ?_⟩
      refine iteF ?_
      cases x with
      | int i =>
        refine ⟨_, rfl, .int i, rfl, trivial, true, rfl, ?_⟩
        refine iteF ?_
        refine ⟨_, rfl, _, _, rfl, rfl, _, rfl, ?_⟩
        by_cases h1 : i < 1
        · rw [decide_eq_true h1]
          exact iteT ⟨_, rfl, _, rfl, fin⟩
        · rw [decide_eq_false h1]
          refine iteF ?_
          refine ⟨_, rfl, _, _, rfl, rfl, _, rfl, ?_⟩
          have h2 : (200 : Int) < i := by
            change (decide ((1 : Int) ≤ i) && decide (i ≤ 200)) = false at ov
            rw [decide_eq_true (show (1 : Int) ≤ i by omega), Bool.true_and] at ov
            have := of_decide_eq_false ov
            omega
          rw [decide_eq_true h2]
          exact iteT ⟨_, rfl, _, rfl, fin⟩
      | non => exact ⟨_, rfl, _, rfl, sv, false, rfl, iteT ⟨_, rfl, _, rfl, fin⟩⟩
      | bl b => exact ⟨_, rfl, _, rfl, sv, false, rfl, iteT ⟨_, rfl, _, rfl, fin⟩⟩
      | str z => exact ⟨_, rfl, _, rfl, sv, false, rfl, iteT ⟨_, rfl, _, rfl, fin⟩⟩
      | _ => exact sv.elim
theorem scChk : FnScope ["most"] ["most"] (defScope sChk) := ⟨rfl, rfl, rfl, by decide +kernel, rfl, by decide +kernel, by decide +kernel⟩
theorem ok_chk (D : Defs K mg C fW fI fP fA fO fdW fdI fdP fdA fdO) (B : BDefs K mg fWr fCh fLe fSh fdWr fdCh fdLe fdSh) : FnOk P w K mg base CX0 2 fCh fdCh ["most"] spChk := by
  have GW : FnOk P w K mg base CX0 1 fW fdW ["value"] spWholeX := ok_wholeX D.FW D.T
  obtain ⟨tN, mN⟩ := B.mN
  refine B.FCh.ok scChk (fun vs H Q E h => ?_) (fun cdv A outer s H vs Q E hr h => ?_)
  · obtain ⟨i, rfl, _⟩ := h
    rfl
  · obtain ⟨i, rfl, i0, i1, k⟩ := h
    refine ⟨_, pss_one (ps_if (PW.pt (pw_or (pt_not (pt_val (pe_call GW hr rfl D.mW D.FW.kp D.bW .nil pass0 (pa_cons (pv 0) pa_nil)))) (pw_or (pt_cmpR op_lt (pv 0) pe_int (nomark _)) (pw_or1 (pt_cmpR op_gt (pv 0) (pe_glob (v := .int M29) rfl mN ⟨_, rfl⟩) (nomark _)))))) (pss_one ps_never) pss_nil), ?_⟩
    refine ⟨_, rfl, .int i, rfl, trivial, true, rfl, ?_⟩
    refine iteF ?_
    refine ⟨_, rfl, _, _, rfl, rfl, _, rfl, ?_⟩
    rw [decide_eq_false (show ¬ i < 1 by omega)]
    refine iteF ?_
    refine ⟨_, rfl, _, _, rfl, rfl, _, rfl, ?_⟩
    rw [decide_eq_false (show ¬ M29 < i by omega)]
    exact iteF k
theorem ok_chkX (D : Defs K mg C fW fI fP fA fO fdW fdI fdP fdA fdO) (B : BDefs K mg fWr fCh fLe fSh fdWr fdCh fdLe fdSh) (R : RTxt P K mg CM fMI CF CI) : FnOk P w K mg base (L2.CX P w) 3 fCh fdCh ["most"] (spChkX CM) := by
  have GW : FnOk P w K mg base CX0 1 fW fdW ["value"] spWholeX := ok_wholeX D.FW D.T
  obtain ⟨tN, mN⟩ := B.mN
  refine B.FCh.okX scChk (fun vs H Q E h => ?_) (fun cdv A outer s H vs Q E hr2 h => ?_)
  · obtain ⟨u, rfl, _⟩ := h
    rfl
  · obtain ⟨x, rfl, su, ov, k⟩ := h
    have hr : Room 1 _ := hr2.mono (by decide)
    refine ⟨_, pss_one (ps_if (PW.pt (pw_or (pt_not (pt_val (pe_call GW hr rfl D.mW D.FW.kp D.bW .nil pass0 (pa_cons (pv 0) pa_nil)))) (pw_or (pt_cmpR op_lt (pv 0) pe_int (nomark _)) (pw_or1 (pt_cmpR op_gt (pv 0) (pe_glob (v := .int M29) rfl mN ⟨_, rfl⟩) (nomark _)))))) (pss_one (ps_raise_number (W := fun cls d _ H => E cls d H) rfl R.xM R.gM hr2 (takes_of rfl rfl rfl rfl) (pa_cons (pv 0) pa_nil))) pss_nil), ?_⟩
    have fin : ∀ d, H d = none → E (.ref CM) (some d) (upd H d (XDn x)) := fun d nd => k d _ (same_new nd) upd_same
    cases x with
    | int i =>
      refine ⟨_, rfl, .int i, rfl, trivial, true, rfl, ?_⟩
      refine iteF ?_
      refine ⟨_, rfl, _, _, rfl, rfl, _, rfl, ?_⟩
      by_cases h1 : i < 1
      · rw [decide_eq_true h1]
        exact iteT ⟨_, rfl, _, rfl, fin⟩
      · rw [decide_eq_false h1]
        refine iteF ?_
        refine ⟨_, rfl, _, _, rfl, rfl, _, rfl, ?_⟩
        have h2 : M29 < i := by
          change (decide ((1 : Int) ≤ i) && decide (i ≤ M29)) = false at ov
          rw [decide_eq_true (show (1 : Int) ≤ i by omega), Bool.true_and] at ov
          have := of_decide_eq_false ov
          omega
        rw [decide_eq_true h2]
        exact iteT ⟨_, rfl, _, rfl, fin⟩
    | non => exact ⟨_, rfl, _, rfl, su, false, rfl, iteT ⟨_, rfl, _, rfl, fin⟩⟩
    | bl b => exact ⟨_, rfl, _, rfl, su, false, rfl, iteT ⟨_, rfl, _, rfl, fin⟩⟩
    | str z => exact ⟨_, rfl, _, rfl, su, false, rfl, iteT ⟨_, rfl, _, rfl, fin⟩⟩
    | _ => exact su.elim
theorem sm29 {x : Int} (h1 : -M29 - 100 ≤ x) (h2 : x ≤ M29 + 100) : Sm 100 x := by
  have h : (100000000000000000000000000100 : Nat) < 2 ^ 100 := by decide
  have e : M29 = 100000000000000000000000000000 := rfl
  rw [e] at h1 h2
  unfold Sm
  omega
theorem scLeast : FnScope ["most"] ["most"] (defScope sLeast) := ⟨rfl, rfl, rfl, by decide +kernel, rfl, by decide +kernel, by decide +kernel⟩
theorem bits_of {x : Int} (h : 1 ≤ x) : Builtin.Int.intBits x = x.natAbs.log2 + 1 := by
  unfold Builtin.Int.intBits
  rw [if_neg (by simp; omega)]
theorem ok_least (D : Defs K mg C fW fI fP fA fO fdW fdI fdP fdA fdO) (B : BDefs K mg fWr fCh fLe fSh fdWr fdCh fdLe fdSh) : FnOk P w K mg base CX0 3 fLe fdLe ["most"] spLeast := by
  have GC : FnOk P w K mg base CX0 2 fCh fdCh ["most"] spChk := ok_chk D B
  refine B.FLe.ok scLeast (fun vs H Q E h => ?_) (fun cdv A outer s H vs Q E hr h => ?_)
  · obtain ⟨i, rfl, _⟩ := h
    rfl
  · obtain ⟨i, rfl, i0, i1, k⟩ := h
    refine ⟨_, pss_cons (ps_expr (pe_call GC hr rfl B.mCh B.FCh.kp B.bCh .nil pass0 (pa_cons (pv 0) pa_nil)))
      (pss_one (ps_ret (pe_op op_add (pe_bits (pe_op op_mulW (pv 0) (pv 0))) pe_int))), ?_⟩
    refine ⟨_, rfl, i, rfl, i0, i1, ?_⟩
    have si : Sm 100 i := sm29 (by omega) (by omega)
    refine ⟨_, rfl, _, rfl, _, _, rfl, rfl, si.mul si (by decide) (by decide), _, rfl, _, _, rfl, rfl, ?_⟩
    have h1 : 1 ≤ i * i := by
      have := Int.mul_le_mul i0 i0 (by decide) (by omega)
      omega
    rw [bits_of h1]
    exact k
theorem ok_leastX (D : Defs K mg C fW fI fP fA fO fdW fdI fdP fdA fdO) (B : BDefs K mg fWr fCh fLe fSh fdWr fdCh fdLe fdSh) (R : RTxt P K mg CM fMI CF CI) : FnOk P w K mg base (L2.CX P w) 4 fLe fdLe ["most"] (spChkX CM) := by
  have GC : FnOk P w K mg base (L2.CX P w) 3 fCh fdCh ["most"] (spChkX CM) := ok_chkX D B R
  refine B.FLe.okX scLeast (fun vs H Q E h => ?_) (fun cdv A outer s H vs Q E hr h => ?_)
  · obtain ⟨i, rfl, _⟩ := h
    rfl
  · obtain ⟨x, rfl, su, ov, k⟩ := h
    refine ⟨_, pss_cons (ps_expr (pe_call (E := E) GC hr rfl B.mCh B.FCh.kp B.bCh .nil (passes_call (takes_of rfl rfl rfl rfl) fun _ _ _ _ h => h) (pa_cons (pv 0) pa_nil))) (pss_one ps_never), ?_⟩
    exact ⟨_, rfl, x, rfl, su, ov, k⟩
theorem scShows : FnScope ["most"] ["most"] (defScope sShows) := ⟨rfl, rfl, rfl, by decide +kernel, rfl, by decide +kernel, by decide +kernel⟩
theorem ok_shows (D : Defs K mg C fW fI fP fA fO fdW fdI fdP fdA fdO) (d : TDefs K mg C CT fS fTI fCo fEd fAr fEq fAd pAr fdS fdTI fdCo fdEd fdAr fdEq fdAd) (B : BDefs K mg fWr fCh fLe fSh fdWr fdCh fdLe fdSh) : FnOk P w K mg base CX0 10 fSh fdSh ["most"] (spShows C CT) := by
  have GC : FnOk P w K mg base CX0 2 fCh fdCh ["most"] spChk := ok_chk D B
  have GTI : FnOk P w K mg base CX0 8 fTI fdTI ["self", "a", "b", "c"] (spTInit C CT) := d.GTI D
  refine B.FSh.ok scShows (fun vs H Q E h => ?_) (fun cdv A outer s H vs Q E hr h => ?_)
  · obtain ⟨i, rfl, _⟩ := h
    rfl
  · obtain ⟨i, rfl, i0, i1, k⟩ := h
    refine ⟨_, pss_cons (ps_expr (pe_call GC (hr.mono (by decide)) rfl B.mCh B.FCh.kp B.bCh .nil pass0 (pa_cons (pv 0) pa_nil)))
      (pss_one (ps_ret (pe_make d.MT GTI hr rfl d.TT.mgT d.bTI .nil pass0 (pa_cons (pe_tup (pa_cons pe_int (pa_cons pe_int pa_nil))) (pa_cons (pe_tup (pa_cons (pv 0) (pa_cons pe_int pa_nil))) (pa_cons (pe_tup (pa_cons pe_int (pa_cons (pv 0) pa_nil))) pa_nil)))))), ?_⟩
    refine ⟨_, rfl, i, rfl, i0, i1, ?_⟩
    have si : Sm 100 i := sm29 (by omega) (by omega)
    have s0 : Sm 100 0 := sm29 (by decide) (by decide)
    refine ⟨(by show 2 ≤ sizeLine; decide), fun t1 n1 => ⟨_, rfl, (by show 2 ≤ sizeLine; decide), fun t2 n2 => ⟨_, rfl, (by show 2 ≤ sizeLine; decide), fun t3 n3 => ?_⟩⟩⟩
    have e1 := same_new (o := .tup [.int 0, .int 0]) n1
    have e2 := same_new (o := .tup [.int i, .int 0]) n2
    have e3 := same_new (o := .tup [.int 0, .int i]) n3
    have pos : 0 < sd (0, 0) (i, 0) (0, i) := by
      have h1 : 1 ≤ i * i := by
        have := Int.mul_le_mul i0 i0 (by decide) (by omega)
        omega
      show 0 < (i - 0) * (i - 0) - (0 - 0) * (0 - 0)
      simp
      omega
    refine make_tri (n := 100) (a := (0, 0)) (b := (i, 0)) (c := (0, i)) ⟨t1, rfl, .inr (e3 _ _ (e2 _ _ upd_same))⟩ ⟨t2, rfl, .inr (e3 _ _ upd_same)⟩ ⟨t3, rfl, .inr upd_same⟩ (by decide) ⟨s0, s0⟩ ⟨si, s0⟩ ⟨s0, si⟩ (by omega) fun v H4 e4 h4 => ?_
    have e5 : onB (0, 0) (i, 0) (0, i) = (i, 0) := by unfold onB; rw [if_pos pos]
    have e6 : onC (0, 0) (i, 0) (0, i) = (0, i) := by unfold onC; rw [if_pos pos]
    rw [e5, e6] at h4
    exact k v H4 (e1.trans (e2.trans (e3.trans e4))) h4
theorem ok_showsX (D : Defs K mg C fW fI fP fA fO fdW fdI fdP fdA fdO) (B : BDefs K mg fWr fCh fLe fSh fdWr fdCh fdLe fdSh) (R : RTxt P K mg CM fMI CF CI) : FnOk P w K mg base (L2.CX P w) 4 fSh fdSh ["most"] (spChkX CM) := by
  have GC : FnOk P w K mg base (L2.CX P w) 3 fCh fdCh ["most"] (spChkX CM) := ok_chkX D B R
  refine B.FSh.okX scShows (fun vs H Q E h => ?_) (fun cdv A outer s H vs Q E hr h => ?_)
  · obtain ⟨i, rfl, _⟩ := h
    rfl
  · obtain ⟨x, rfl, su, ov, k⟩ := h
    refine ⟨_, pss_cons (ps_expr (pe_call (E := E) GC hr rfl B.mCh B.FCh.kp B.bCh .nil (passes_call (takes_of rfl rfl rfl rfl) fun _ _ _ _ h => h) (pa_cons (pv 0) pa_nil))) (pss_one ps_never), ?_⟩
    exact ⟨_, rfl, x, rfl, su, ov, k⟩
end
end Fo

set_option Elab.async false
set_option linter.all false
set_option maxRecDepth 100000
set_option maxHeartbeats 2000000
namespace Fo
open PySem L2
/-! ### the law's own words -/
abbrev sPower : Stmt := top 26
abbrev sSign : Stmt := top 28
abbrev sMost : Stmt := top 29
abbrev sPts : Stmt := top 30
abbrev sRefused : Stmt := top 27
def spPower : Sp := fun vs H Q _ => ∃ i : Int, vs = [.int i] ∧ 0 ≤ i ∧ i < 1000 ∧ Q (.int (2 ^ i.toNat)) H
def spSign : Sp := fun vs H Q _ => ∃ i : Int, vs = [.int i] ∧ Q (.int (sgI i)) H
def spMost : Sp := fun vs H Q _ => ∃ p : Addr, vs = [.ref p] ∧ PoolAt p H ∧ ∀ (r : Int) H', 1 ≤ r → r ≤ M29 → But p H H' → PoolAt p H' → Q (.int r) H'
/-- a pair of numbers from 0 to m -/
def InB (H : Hp) (m : Int) (v : V) : Prop := ∃ (q : Addr) (x y : Int), v = .ref q ∧ H q = some (.tup [.int x, .int y]) ∧ 0 ≤ x ∧ x ≤ m ∧ 0 ≤ y ∧ y ≤ m
theorem InB.ex {H H' : Hp} {m : Int} {v : V} (e : Same H H') (h : InB H m v) : InB H' m v := by
  obtain ⟨q, x, y, e1, e2, r⟩ := h
  exact ⟨q, x, y, e1, e _ _ e2, r⟩
theorem InB.but {H H' : Hp} {m : Int} {v : V} {p : Addr} {xs : List V} (hp : H p = some (.lst xs)) (b : But p H H') (h : InB H m v) : InB H' m v := by
  obtain ⟨q, x, y, e1, e2, r⟩ := h
  exact ⟨q, x, y, e1, b _ _ (ne_of e2 hp (by intro z; cases z)) e2, r⟩
/-- a list of three of them -/
def In3 (H : Hp) (m : Int) (v : V) : Prop := ∃ (l : Addr) (a b c : V), v = .ref l ∧ H l = some (.lst [a, b, c]) ∧ InB H m a ∧ InB H m b ∧ InB H m c
theorem In3.ex {H H' : Hp} {m : Int} {v : V} (e : Same H H') (h : In3 H m v) : In3 H' m v := by
  obtain ⟨l, a, b, c, e1, e2, h1, h2, h3⟩ := h
  exact ⟨l, a, b, c, e1, e _ _ e2, h1.ex e, h2.ex e, h3.ex e⟩
def spPts : Sp := fun vs H Q _ => ∃ (p : Addr) (m : Int), vs = [.ref p, .int m] ∧ PoolAt p H ∧ 1 ≤ m ∧ m ≤ M29 ∧ ∀ l a b c H', H l = none → But p H H' → PoolAt p H' → H' l = some (.lst [a, b, c]) → InB H' m a → InB H' m b → InB H' m c → Q (.ref l) H'
def spRef (K : PySem.W.Frag) : Sp := fun vs H Q _ => ∃ (n : Int) (u v x : V) (d : PyData), vs = [.int n, u, v] ∧ Scal u ∧ Scal v ∧ ((n = 0 ∧ ((wholeV u = false ∧ x = u) ∨ (wholeV u = true ∧ okN 1 200 v = false ∧ x = v))) ∨ ((n = 1 ∨ n = 2) ∧ okN 1 M29 u = false ∧ x = u)) ∧ ShowsOk d ∧ Dp K H x d ∧ ∀ H', Same H H' → Q (.str d.shown) H'
theorem PoolAt.ne {p l : Addr} {H : Hp} (h : PoolAt p H) (hl : H l = none) : l ≠ p := by
  obtain ⟨i, j, hp, _⟩ := h
  exact (ne_of_none hp hl).symm
theorem p29 : (10 : Int) ^ (29 : Int).toNat = M29 := by decide
theorem m29 : M29 = 100000000000000000000000000000 := rfl
section
variable {P : Program} {w : World} {K : PySem.W.Frag} {mg : Str → Option Value} {base : Heap}
variable {C fW fI fP fA fO CM fMI CF CI fWr fCh fLe fSh : Addr} {fdW fdI fdP fdA fdO fdWr fdCh fdLe fdSh : FuncData}
theorem scPower : FnScope ["many", "found", "turn"] ["many"] (defScope sPower) := ⟨rfl, rfl, rfl, by decide +kernel, rfl, by decide +kernel, by decide +kernel⟩
theorem ok_power {f : Addr} {fd : FuncData} (F : Fun K "_law_power" "_law_power" sPower f fd) (T : TxtL mg) : FnOk P w K mg base CX0 1 f fd ["many"] spPower := by
  refine F.ok scPower (fun vs H Q E h => ?_) (fun cdv A outer s H vs Q E hr h => ?_)
  · obtain ⟨i, rfl, _⟩ := h
    rfl
  · obtain ⟨i, rfl, i0, i1, k⟩ := h
    refine ⟨_, pss_cons (ps_set (i := 1) scPower.nd rfl (Or.inl rfl) pe_int)
      (pss_cons (ps_for PassesOwn.never rfl (pi_range1 rfl T.range (pa_cons (pv 0) pa_nil)) (pg_name (i := 2) scPower.nd rfl (Or.inl rfl)) (pss_one (ps_set (i := 1) scPower.nd rfl (Or.inl rfl) (pe_op op_mul (pv 1) pe_int))))
      (pss_one (ps_ret (pv 1)))), ?_⟩
    refine ⟨_, rfl, i, rfl, by omega, by omega, ?_⟩
    refine for_range (lo := 0) (n := i.toNat) (fun j σ H' => ∃ v : Option V, σ = [some (.int i), some (.int (2 ^ j)), v] ∧ H' = H) ⟨_, rfl, rfl⟩ ?_ ?_
    · rintro j σ H' hj ⟨v, rfl, rfl⟩
      refine ⟨_, rfl, _, _, rfl, rfl, .inr ⟨by decide, by decide⟩, some (V.int (0 + (j : Int))), ?_, rfl⟩
      rw [Int.pow_succ]
      rfl
    · rintro σ H' ⟨v, rfl, rfl⟩
      exact ⟨_, rfl, k⟩
theorem scSign : FnScope ["number"] ["number"] (defScope sSign) := ⟨rfl, rfl, rfl, by decide +kernel, rfl, by decide +kernel, by decide +kernel⟩
theorem ok_sign {f : Addr} {fd : FuncData} (F : Fun K "_law_sign" "_law_sign" sSign f fd) (T : TxtL mg) : FnOk P w K mg base CX0 1 f fd ["number"] spSign := by
  refine F.ok scSign (fun vs H Q E h => ?_) (fun cdv A outer s H vs Q E hr h => ?_)
  · obtain ⟨i, rfl, _⟩ := h
    rfl
  · obtain ⟨i, rfl, k⟩ := h
    refine ⟨_, pss_one (ps_ret (pe_op op_sub (pe_callTy call_int1 (by rfl) T.int (by decide +kernel) (pa_cons (pe_cmpR op_gt (pv 0) pe_int (nomark _)) pa_nil)) (pe_callTy call_int1 (by rfl) T.int (by decide +kernel) (pa_cons (pe_cmpR op_lt (pv 0) pe_int (nomark _)) pa_nil)))), ?_⟩
    exact ⟨_, rfl, _, _, rfl, rfl, .inr ⟨_, rfl, _, rfl, _, _, rfl, rfl, .inr ⟨_, rfl, _, _, rfl, rfl, k⟩⟩⟩
theorem scMost : FnScope ["pool", "most", "some"] ["pool"] (defScope sMost) := ⟨rfl, rfl, rfl, by decide +kernel, rfl, by decide +kernel, by decide +kernel⟩
theorem ok_most {f fD fPw : Addr} {fd fdD fdPw : FuncData} (F : Fun K "_law_most" "_law_most" sMost f fd) (T : TxtL mg) (FD : Fun K "_law_draw" "_law_draw" sDraw fD fdD) (bD : Binds K fdD ["pool", "many"] []) (mD : mg "_law_draw" = some (.ref fD))
    (FPw : Fun K "_law_power" "_law_power" sPower fPw fdPw) (bPw : Binds K fdPw ["many"] []) (mPw : mg "_law_power" = some (.ref fPw)) : FnOk P w K mg base CX0 2 f fd ["pool"] spMost := by
  have GD : FnOk P w K mg base CX0 1 fD fdD ["pool", "many"] spDraw := ok_draw FD T
  have GP : FnOk P w K mg base CX0 1 fPw fdPw ["many"] spPower := ok_power FPw T
  refine F.ok scMost (fun vs H Q E h => ?_) (fun cdv A outer s H vs Q E hr h => ?_)
  · obtain ⟨p, rfl, _⟩ := h
    rfl
  · obtain ⟨p, rfl, hp, k⟩ := h
    refine ⟨_, pss_cons (ps_set (i := 1) scMost.nd rfl (Or.inl rfl) (pe_op op_add (pe_call GP hr rfl mPw FPw.kp bPw .nil pass0 (pa_cons (pe_call GD hr rfl mD FD.kp bD .nil pass0 (pa_cons (pv 0) (pa_cons pe_int pa_nil))) pa_nil)) (pe_ix ix_list (pe_lst (pa_cons pe_int (pa_cons (pe_un un_neg pe_int) (pa_cons pe_int pa_nil)))) (pe_call GD hr rfl mD FD.kp bD .nil pass0 (pa_cons (pv 0) (pa_cons pe_int pa_nil))) (fun _ _ => rfl))))
      (pss_cons (ps_set (i := 2) scMost.nd rfl (Or.inl rfl) (pe_lst (pa_cons (pe_callB (call_min2 rfl) (by rfl) T.min (by decide +kernel) (pa_cons (pe_callB (call_max2 rfl) (by rfl) T.max (by decide +kernel) (pa_cons pe_int (pa_cons (pe_callTy call_int1 (by rfl) T.int (by decide +kernel) (pa_cons (pv 1) pa_nil)) pa_nil))) (pa_cons (pe_op op_pow pe_int pe_int) pa_nil)))
        (pa_cons (pe_op op_add pe_int (pe_call GD hr rfl mD FD.kp bD .nil pass0 (pa_cons (pv 0) (pa_cons pe_int pa_nil)))) (pa_cons (pe_op op_sub (pe_op op_pow pe_int pe_int) (pe_call GD hr rfl mD FD.kp bD .nil pass0 (pa_cons (pv 0) (pa_cons pe_int pa_nil)))) pa_nil)))))
      (pss_one (ps_ret (pe_ix ix_list (pv 2) (pe_call GD hr rfl mD FD.kp bD .nil pass0 (pa_cons (pv 0) (pa_cons pe_int pa_nil))) (fun _ _ => rfl))))), ?_⟩
    refine ⟨_, rfl, p, 96, rfl, hp, by decide, by decide, fun r1 H1 r10 r11 b1 p1 => ?_⟩
    refine ⟨r1, rfl, r10, by omega, ?_⟩
    refine ⟨_, rfl, (by show 3 ≤ sizeLine; decide), fun l nl => ?_⟩
    have lp := p1.ne nl
    have e2 := same_new (o := .lst [V.int 0, V.int (-1), V.int 1]) nl
    refine ⟨_, rfl, p, 3, rfl, p1.ex e2, by decide, by decide, fun r2 H2 r20 r21 b2 p2 => ?_⟩
    have hl := b2 _ _ lp upd_same
    obtain ⟨z, hz⟩ : ∃ z : Int, atI [V.int 0, V.int (-1), V.int 1] r2 = some (V.int z) := by
      have cc : r2 = 0 ∨ r2 = 1 ∨ r2 = 2 := by omega
      rcases cc with rfl | rfl | rfl
      · exact ⟨_, atI_nat (j := 0) rfl⟩
      · exact ⟨_, atI_nat (j := 1) rfl⟩
      · exact ⟨_, atI_nat (j := 2) rfl⟩
    refine ⟨l, _, _, _, rfl, rfl, SqL.of hl, hz, _, _, rfl, rfl, ?_⟩
    have b3 := (b1.trans (But.of e2)).trans b2
    dsimp only
    obtain ⟨M, hM⟩ : ∃ M : Int, M = 2 ^ r1.toNat + z := ⟨_, rfl⟩
    rw [← hM]
    -- some
    refine ⟨_, rfl, .inl ⟨_, rfl, _, _, rfl, _, _, rfl, rfl, ⟨by decide, by decide, by decide⟩, _, _, rfl, ?_⟩⟩
    refine ⟨_, rfl, p, 300, rfl, p2, by decide, by decide, fun r3 H3 r30 r31 b4 p3 => ?_⟩
    refine ⟨_, _, rfl, rfl, _, _, rfl, rfl, ⟨by decide, by decide, by decide⟩, _, rfl, p, 3, rfl, p3, by decide, by decide, fun r4 H4 r40 r41 b5 p4 => ?_⟩
    refine ⟨_, _, rfl, rfl, (by show 3 ≤ sizeLine; decide), fun l2 nl2 => ?_⟩
    have lp2 := p4.ne nl2
    obtain ⟨z1, hz1⟩ : ∃ z1 : Int, z1 = (if (10 : Int) ^ (29 : Int).toNat < (if M > 1 then M else 1) then (10 : Int) ^ (29 : Int).toNat else (if M > 1 then M else 1)) := ⟨_, rfl⟩
    have z10 : 1 ≤ z1 ∧ z1 ≤ M29 := by
      rw [p29] at hz1
      have := m29
      split at hz1 <;> split at hz1 <;> omega
    rw [← hz1]
    have e6 := same_new (o := .lst [V.int z1, V.int (1 + r3), V.int (10 ^ (29 : Int).toNat - r4)]) nl2
    refine ⟨_, rfl, _, rfl, p, 3, rfl, p4.ex e6, by decide, by decide, fun r5 H5 r50 r51 b7 p7 => ?_⟩
    have hl2 := b7 _ _ lp2 upd_same
    obtain ⟨x, hx, x0, x1⟩ : ∃ x : Int, atI [V.int z1, V.int (1 + r3), V.int (10 ^ (29 : Int).toNat - r4)] r5 = some (V.int x) ∧ 1 ≤ x ∧ x ≤ M29 := by
      have cc : r5 = 0 ∨ r5 = 1 ∨ r5 = 2 := by omega
      have := m29
      rcases cc with rfl | rfl | rfl
      · exact ⟨_, atI_nat (j := 0) rfl, z10.1, z10.2⟩
      · exact ⟨_, atI_nat (j := 1) rfl, by omega, by omega⟩
      · exact ⟨_, atI_nat (j := 2) rfl, by rw [p29]; omega, by rw [p29]; omega⟩
    refine ⟨l2, _, _, _, rfl, rfl, SqL.of hl2, hx, ?_⟩
    exact k x _ x0 x1 ((((b3.trans b4).trans b5).trans (But.of e6)).trans b7) p7
theorem scPts : FnScope ["pool", "most", "some", "turn"] ["pool", "most"] (defScope sPts) := ⟨rfl, rfl, rfl, by decide +kernel, rfl, by decide +kernel, by decide +kernel⟩
theorem ok_pts {f fD : Addr} {fd fdD : FuncData} (F : Fun K "_law_points" "_law_points" sPts f fd) (T : TxtL mg) (FD : Fun K "_law_draw" "_law_draw" sDraw fD fdD) (bD : Binds K fdD ["pool", "many"] []) (mD : mg "_law_draw" = some (.ref fD)) : FnOk P w K mg base CX0 2 f fd ["pool", "most"] spPts := by
  have GD : FnOk P w K mg base CX0 1 fD fdD ["pool", "many"] spDraw := ok_draw FD T
  refine F.ok scPts (fun vs H Q E h => ?_) (fun cdv A outer s H vs Q E hr h => ?_)
  · obtain ⟨p, m, rfl, _⟩ := h
    rfl
  · obtain ⟨p, m, rfl, hp, m0, m1, k⟩ := h
    refine ⟨_, pss_cons (ps_set (i := 2) scPts.nd rfl (Or.inr rfl) (pe_lst (pa_cons pe_int (pa_cons (pv 1) (pa_cons (pe_op op_fdiv (pv 1) pe_int) (pa_cons (pe_call GD hr rfl mD FD.kp bD .nil pass0 (pa_cons (pv 0) (pa_cons (pe_op op_add (pv 1) pe_int) pa_nil))) pa_nil))))))
      (pss_one (ps_ret (pe_lc (own := [("turn", 3)]) (g := gName 3) (tt := tYes) rfl scPts.nd (pi_range1 rfl T.range (pa_cons pe_int pa_nil)) (blkOk_by (own := [("turn", 3)]) (N := ["pool", "most", "some", "turn"]) (sc := defScope sPts) (by decide +kernel)) (fun _ _ _ _ _ => pg_name (i := 3) scPts.nd rfl (Or.inl rfl)) (fun _ _ _ _ _ => pts_nil)
        (fun _ _ _ _ _ => pe_tup (pa_cons (pe_ix (r := rIxL K) ix_list (pv 2) (pe_call GD hr rfl mD FD.kp bD .nil pass0 (pa_cons (pv 0) (pa_cons pe_int pa_nil))) (fun _ _ => rfl)) (pa_cons (pe_ix (r := rIxL K) ix_list (pv 2) (pe_call GD hr rfl mD FD.kp bD .nil pass0 (pa_cons (pv 0) (pa_cons pe_int pa_nil))) (fun _ _ => rfl)) pa_nil)))))), ?_⟩
    have := m29
    refine ⟨_, rfl, _, rfl, _, _, rfl, rfl, ⟨by decide, by decide⟩, _, rfl, _, rfl, _, _, rfl, rfl, p, m + 1, rfl, hp, by omega, ?_, fun r H1 r0 r1 b1 p1 => ?_⟩
    · have h : (100000000000000000000000000001 : Nat) < 2 ^ 200 := by decide
      show (m + 1).natAbs < 2 ^ 200
      omega
    refine ⟨(by show 4 ≤ sizeLine; decide), fun l nl => ?_⟩
    have lp := p1.ne nl
    have e2 := same_new (o := .lst [V.int 0, V.int m, V.int (m / 2), V.int r]) nl
    have pick : ∀ c : Int, 0 ≤ c → c < 4 → ∃ x : Int, atI [V.int 0, V.int m, V.int (m / 2), V.int r] c = some (V.int x) ∧ 0 ≤ x ∧ x ≤ m := fun c c0 c1 => by
      have cc : c = 0 ∨ c = 1 ∨ c = 2 ∨ c = 3 := by omega
      rcases cc with rfl | rfl | rfl | rfl
      · exact ⟨_, atI_nat (j := 0) rfl, by omega, by omega⟩
      · exact ⟨_, atI_nat (j := 1) rfl, by omega, by omega⟩
      · exact ⟨_, atI_nat (j := 2) rfl, by omega, by omega⟩
      · exact ⟨_, atI_nat (j := 3) rfl, by omega, by omega⟩
    obtain ⟨H2, hH2⟩ : ∃ H2, H2 = upd H1 l (.lst [V.int 0, V.int m, V.int (m / 2), V.int r]) := ⟨_, rfl⟩
    have hl : H2 l = some (.lst [V.int 0, V.int m, V.int (m / 2), V.int r]) := by rw [hH2]; exact upd_same
    have p2 : PoolAt p H2 := by rw [hH2]; exact p1.ex e2
    have b2 : But p H H2 := by rw [hH2]; exact b1.trans (But.of e2)
    rw [← hH2]
    refine ⟨3, rfl, by decide, by decide, fun D nD => ?_⟩
    have pD : D ≠ p := p2.ne nD
    refine lc_range (lo := 0) (n := 3) (fun i H' => But p H2 H' ∧ PoolAt p H' ∧ ∃ vs : List V, H' D = some (.lst vs) ∧ vs.length = i ∧ ∀ v ∈ vs, InB H' m v)
      ⟨But.of (same_new nD), p2.ex (same_new nD), [], upd_same, rfl, fun v h => by simp at h⟩ ?_ ?_
    · rintro j H3 hj ⟨b3, p3, vs, hD, hvl, hv⟩
      refine ⟨rfl, ?_⟩
      unfold tYes
      dsimp only
      rw [if_pos rfl]
      have hl3 := b3 _ _ lp hl
      refine ⟨_, rfl, _, rfl, p, 4, rfl, p3, by decide, by decide, fun c1 H4 c10 c11 b4 p4 => ?_⟩
      obtain ⟨x, hx, x0, x1⟩ := pick c1 c10 c11
      refine ⟨l, _, _, _, rfl, rfl, SqL.of (b4 _ _ lp hl3), hx, ?_⟩
      refine ⟨_, rfl, _, rfl, p, 4, rfl, p4, by decide, by decide, fun c2 H5 c20 c21 b5 p5 => ?_⟩
      obtain ⟨y, hy, y0, y1⟩ := pick c2 c20 c21
      refine ⟨l, _, _, _, rfl, rfl, SqL.of (b5 _ _ lp (b4 _ _ lp hl3)), hy, ?_⟩
      refine ⟨(by show 2 ≤ sizeLine; decide), fun t nt => ?_⟩
      have e6 := same_new (o := .tup [V.int x, V.int y]) nt
      have b6 := b4.trans (b5.trans (But.of e6))
      have hD6 := b6 _ _ pD hD
      have p6 := p5.ex e6
      have tD : t ≠ D := ne_of (upd_same (H := H5) (a := t) (o := .tup [V.int x, V.int y])) hD6 (by intro z; cases z)
      refine ⟨vs, hD6, Nat.lt_of_lt_of_le (by omega : vs.length < 5) (by decide), fun b o nb hb => ?_, ?_, vs ++ [.ref t], upd_same, by rw [List.length_append, hvl]; rfl, ?_⟩
      · rw [upd_ne (ne_of_none hb nD)]
        exact b6 _ _ nb (b3 _ _ nb hb)
      · obtain ⟨i6, j6, h6, r6⟩ := p6
        exact ⟨i6, j6, by rw [upd_ne pD.symm]; exact h6, r6⟩
      · intro v hv2
        rcases List.mem_append.mp hv2 with hv2 | hv2
        · obtain ⟨q, qx, qy, rfl, hq, rq⟩ := hv v hv2
          have n1 : q ≠ D := ne_of hq hD (by intro z; cases z)
          exact ⟨q, qx, qy, rfl, by rw [upd_ne n1]; exact b6 _ _ (tup_ne p3 hq) hq, rq⟩
        · rw [List.mem_singleton] at hv2
          exact ⟨t, x, y, hv2, by rw [upd_ne tD]; exact upd_same, x0, x1, y0, y1⟩
    · rintro H3 ⟨b3, p3, vs, hD, hvl, hv⟩
      have h3 : ∃ a b c, vs = [a, b, c] := by
        match vs, hvl with
        | [a, b, c], _ => exact ⟨a, b, c, rfl⟩
      obtain ⟨a, b, c, rfl⟩ := h3
      have hDn : H D = none := by
        cases q : H D with
        | none => rfl
        | some o => exact absurd (b2 _ _ pD q) (by rw [nD]; intro z; cases z)
      exact k D a b c H3 hDn (b2.trans b3) p3 hD (hv a (by simp)) (hv b (by simp)) (hv c (by simp))
theorem scRef : FnScope ["door", "one", "two", "e"] ["door", "one", "two"] (defScope sRefused) := ⟨rfl, rfl, rfl, by decide +kernel, rfl, by decide +kernel, by decide +kernel⟩
theorem ok_ref {f : Addr} {fd : FuncData} (F : Fun K "_law_refused" "_law_refused" sRefused f fd) (D : Defs K mg C fW fI fP fA fO fdW fdI fdP fdA fdO) (B : BDefs K mg fWr fCh fLe fSh fdWr fdCh fdLe fdSh) (R : RTxt P K mg CM fMI CF CI) : FnG P w K mg base CX0 5 f fd ["door", "one", "two"] (spRef K) := by
  have GW : FnOk P w K mg base (L2.CX P w) 3 fWr fdWr ["number", "bits"] (spWrapX CM) := ok_wrapX D B R
  have GL : FnOk P w K mg base (L2.CX P w) 4 fLe fdLe ["most"] (spChkX CM) := ok_leastX D B R
  have GS : FnOk P w K mg base (L2.CX P w) 4 fSh fdSh ["most"] (spChkX CM) := ok_showsX D B R
  have T := D.T
  refine F.okG scRef (fun vs H Q E h => ?_) (fun cdv A outer s H vs Q E hgd hr h => ?_)
  · obtain ⟨n, u, v, x, d, rfl, _⟩ := h
    rfl
  · obtain ⟨n, u, v, x, d, rfl, su, sv, hc, sh, hdp, k⟩ := h
    have hr3 : Room 3 _ := hr.mono (by decide)
    have hu : (A.deeper (PyProof.Rows.envOfC (Str.ofString "_law_refused") (defScope sRefused) s.heap.objs.size f cdv)).units + 64 < cLine := by
      have := hr.un
      omega
    have cR : ∀ (a : Addr) (pn : List (Addr × Obj)), CallR ((cxOf CX0 P w K mg base ["door", "one", "two", "e"] "_law_refused" (defScope sRefused) f cdv A outer s H E).nox.suite a pn) (.builtin "repr") (rReprD K) := fun a pn => call_reprD hgd hu
    have hT : ∃ (tb : WX → TS) (ts : Addr → Value → Option Addr → TS), PS (cxOf CX0 P w K mg base ["door", "one", "two", "e"] "_law_refused" (defScope sRefused) f cdv A outer s H E).nox ((defBody sRefused).getD 0 (.Pass ⟨0, 0, 0, 0⟩)) (fun D σ H => tb (wAs K (.ref CF) 3 ts (fun _ _ _ _ => False) D) D σ H) ∧
        (∀ (W : WX) (D' : Ends), (∀ (dd : Addr) (H' : Hp), Same H H' → H' dd = some (XDn x) → Dp K H' x d → EW W 4 (.ref CM) (some dd) H') → tb W D' (start ["door", "one", "two", "e"] [.int n, u, v]) H) ∧
        (∀ (a dd : Addr) (σ : L2.St) (H' : Hp) (D' : Ends), σ[3]? = some (some (.ref a)) → H' dd = some (XDn x) → Dp K H' x d → D'.rt (.str d.shown) H' → ts a (.ref CM) (some dd) D' σ H') := by
      refine ⟨_, _, ps_try_as (i := 3) (c := .ref CF) (Wout := fun _ _ _ _ => False) rfl rfl scRef.nd rfl rfl ⟨rfl, by decide, .inl R.gF⟩ takes0
        (fun W pn xe tk po => pss_one (ps_if (pt_cmpR op_eq (pv 0) pe_int (nomark _))
          (pss_one (ps_expr (pe_call (E := EW W 4) GW hr3 rfl B.mWr B.FWr.kp B.bWr .nil (passesW tk rfl) (pa_cons (pv 1) (pa_cons (pv 2) pa_nil)))))
          (pss_one (ps_if (pt_cmpR op_eq (pv 0) pe_int (nomark _))
            (pss_one (ps_expr (pe_call (E := EW W 4) GL hr rfl B.mLe B.FLe.kp B.bLe .nil (passesW tk rfl) (pa_cons (pv 1) pa_nil))))
            (pss_one (ps_expr (pe_call (E := EW W 4) GS hr rfl B.mSh B.FSh.kp B.bSh .nil (passesW tk rfl) (pa_cons (pv 1) pa_nil))))))))
        (fun a oe cls dd pn hz hf => pss_one (ps_ret (pe_and (pe_callB (call_isX hz hf) (by rfl) T.isi (by decide +kernel) (pa_cons (pv 3) (pa_cons (pe_glob (v := .ref CM) rfl R.gM rfl) pa_nil)))
          (pe_and (pe_not (pe_callB (call_isX hz hf) (by rfl) T.isi (by decide +kernel) (pa_cons (pv 3) (pa_cons (pe_glob (v := .ref CI) rfl R.gI rfl) pa_nil))))
          (pe_one (pe_callB (cR a ((a, oe) :: pn)) (by rfl) R.zR (by decide +kernel) (pa_cons (pe_by_number R.xM hz hf (pv 3)) pa_nil))))))), ?_, ?_⟩
      · intro W D' hW
        have fin : ∀ (dd : Addr) (H' : Hp), Same H H' → H' dd = some (XDn x) → EW W 4 (.ref CM) (some dd) H' := fun dd H' e' hd => hW dd H' e' hd (Dp.ex e' d x hdp)
        refine ⟨_, rfl, rfl, _, rfl, ?_⟩
        rcases hc with ⟨rfl, hc⟩ | ⟨hn, ov, rfl⟩
        · rw [int_eqT rfl]
          refine iteT ?_
          exact ⟨_, rfl, _, rfl, u, v, x, rfl, su, sv, hc, fin⟩
        · rcases hn with rfl | rfl
          · rw [int_eqF (by decide)]
            refine iteF ?_
            refine ⟨_, rfl, rfl, _, rfl, ?_⟩
            rw [int_eqT rfl]
            refine iteT ?_
            exact ⟨_, rfl, x, rfl, su, ov, fin⟩
          · rw [int_eqF (by decide)]
            refine iteF ?_
            refine ⟨_, rfl, rfl, _, rfl, ?_⟩
            rw [int_eqF (by decide)]
            refine iteF ?_
            exact ⟨_, rfl, x, rfl, su, ov, fin⟩
      · intro a dd σ H' D' hσ hd hdp k'
        refine ⟨_, hσ, CM, dd, _, _, _, true, rfl, rfl, rfl, hd, .own CM, R.is, R.k1, true, rfl, ?_⟩
        refine iteT ?_
        refine ⟨_, hσ, CM, dd, _, _, _, false, rfl, rfl, rfl, hd, .own CI, R.is, R.k2, false, rfl, true, rfl, ?_⟩
        refine iteT ?_
        exact ⟨_, hσ, rfl, rfl, dd, x, rfl, hd, x, d, rfl, hdp, sh.s, sh.nd, sh.dp, sh.z, k'⟩
    obtain ⟨tb, ts, hPS, h1, h2⟩ := hT
    refine ⟨_, pss_cons hPS (pss_one ps_never), ?_⟩
    refine h1 _ _ fun dd H' e' hd hdp σ hσ => ⟨true, R.ex, fun _ a na => ?_, fun z => nomatch z⟩
    refine h2 a dd _ H' _ ?_ hd hdp (k H' e')
    rw [List.getElem?_set_self (by omega)]
end
end Fo

set_option Elab.async false
set_option linter.all false
set_option maxRecDepth 100000
set_option maxHeartbeats 2000000
namespace Fo
open PySem L2
/-! ### list comprehensions with any target -/
/-- [te for g in l] -/
theorem lc_all {K : PySem.W.Frag} {l D : Addr} {g : TG} {te : TE} {sl : List Nat} {σ : L2.St} {H1 : Hp} {xs : List V} {Qd : Hp → Prop} (R : Nat → V → Hp → Prop) (rex : ∀ i v H H', Same H H' → R i v H → R i v H') (rbut : ∀ i v H H' D ys, H D = some (HO.lst ys) → But D H H' → R i v H → R i v H')
    (hl : SqL K H1 l xs) (hn : xs.length ≤ 1000)
    (step : ∀ i x H', xs[i]? = some x → Same H1 H' → ∀ Q' : VK, (∀ v H'', Same H' H'' → R i v H'' → Q' v H'') → g x (wipe σ sl) H' fun σ2 H2 => wipe σ2 sl = wipe σ sl ∧ te σ2 H2 Q')
    (hd : ∀ H' vs, Same H1 H' → H' D = some (.lst vs) → vs.length = xs.length → (∀ i v, vs[i]? = some v → R i v H') → Qd H') (hD : H1 D = none) :
    ∃ W : Nat → Nat → Hp → Prop, (∃ m, W 0 m (upd H1 D (.lst []))) ∧ ∀ i m H, W i m H → ((Itl K l).stop i H ∧ Qd H) ∨
      ((Itl K l).go i H ∧ ∃ Nx : Hp → Prop, (∀ H', Nx H' → ∃ m', m' < m ∧ W (i + 1) m' H') ∧ ∀ x H', (Itl K l).yld i H x H' → g x (wipe σ sl) H' fun σ2 H2 => wipe σ2 sl = wipe σ sl ∧ tYes σ2 H2 fun b H3 =>
      if b = true then te σ2 H3 fun y H4 => ∃ acc, H4 D = some (.lst acc) ∧ acc.length < sizeLine ∧ Nx (upd H4 D (.lst (acc ++ [y]))) else Nx H3) := by
  refine lc_list (K := K) (a := l) (xs := xs) (fun i H' => Same H1 H' ∧ ∃ vs : List V, H' D = some (.lst vs) ∧ vs.length = i ∧ ∀ j v, vs[j]? = some v → R j v H') ?_ ?_ ?_ ?_
  · exact ⟨same_new hD, [], upd_same, rfl, fun j v h => by simp at h⟩
  · rintro i H' _ ⟨e, _⟩
    exact e.seq hl
  · rintro i x H' hx ⟨e, vs, hv, hlen, hp⟩
    have hi : i < xs.length := (List.getElem?_eq_some_iff.mp hx).1
    refine step i x H' hx e (fun y H4 => ∃ acc, H4 D = some (.lst acc) ∧ acc.length < sizeLine ∧ Same H1 (upd H4 D (.lst (acc ++ [y]))) ∧ ∃ vs : List V, (upd H4 D (.lst (acc ++ [y]))) D = some (.lst vs) ∧ vs.length = i + 1 ∧ ∀ j v, vs[j]? = some v → R j v (upd H4 D (.lst (acc ++ [y])))) fun v H'' e2 h2 => ?_
    have hv2 := e2 _ _ hv
    refine ⟨vs, hv2, Nat.lt_of_lt_of_le (by omega : vs.length < 1001) (by decide), (But.upd.same hD (e.trans e2)), vs ++ [v], upd_same, by rw [List.length_append, hlen]; rfl, fun j u hu => ?_⟩
    by_cases hj : j < vs.length
    · rw [List.getElem?_append_left hj] at hu
      exact rbut _ _ _ _ _ _ hv2 But.upd (rex _ _ _ _ e2 (hp j u hu))
    · have hj2 : j = vs.length := by
        have := (List.getElem?_eq_some_iff.mp hu).1
        rw [List.length_append] at this
        simp at this
        omega
      subst hj2
      rw [List.getElem?_append_right (Nat.le_refl _)] at hu
      simp at hu
      subst hu
      rw [hlen]
      exact rbut _ _ _ _ _ _ hv2 But.upd h2
  · rintro H' ⟨e, vs, hv, hlen, hp⟩
    exact hd H' vs e hv hlen hp
/-- how many of the first i are kept -/
def kept (keep : Nat → Bool) : Nat → Nat
  | 0 => 0
  | i + 1 => kept keep i + (if keep i = true then 1 else 0)
theorem kept_zero {keep : Nat → Bool} : ∀ {n : Nat}, kept keep n = 0 ↔ ∀ j, j < n → keep j = false
  | 0 => ⟨fun _ j hj => absurd hj (Nat.not_lt_zero _), fun _ => rfl⟩
  | n + 1 => by
    have ih := kept_zero (keep := keep) (n := n)
    show kept keep n + (if keep n = true then 1 else 0) = 0 ↔ _
    constructor
    · intro h j hj
      cases hk : keep n with
      | true =>
        rw [hk, if_pos rfl] at h
        omega
      | false =>
        rw [hk] at h
        by_cases q : j = n
        · rw [q]; exact hk
        · exact ih.mp (by simpa using h) j (by omega)
    · intro h
      rw [h n (Nat.lt_succ_self _), ih.mpr fun j hj => h j (by omega)]
      rfl
/-- [c for g in l if tt] -/
theorem lc_filt {K : PySem.W.Frag} {l D : Addr} {g : TG} {tt : TT} {te : TE} {sl : List Nat} {σ : L2.St} {H1 : Hp} {xs : List V} {Qd : Hp → Prop} (keep : Nat → Bool) (c : V)
    (hl : SqL K H1 l xs) (hn : xs.length ≤ 1000)
    (step : ∀ i x H', xs[i]? = some x → Same H1 H' → ∀ Nx : Hp → Prop, ∀ Q' : VK, (keep i = false → ∀ H'', Same H' H'' → Nx H'') → (keep i = true → ∀ H'', Same H' H'' → Q' c H'') → g x (wipe σ sl) H' fun σ2 H2 => wipe σ2 sl = wipe σ sl ∧ tt σ2 H2 fun b H3 => if b = true then te σ2 H3 Q' else Nx H3)
    (hd : ∀ H', Same H1 H' → H' D = some (.lst (List.replicate (kept keep xs.length) c)) → Qd H') (hD : H1 D = none) :
    ∃ W : Nat → Nat → Hp → Prop, (∃ m, W 0 m (upd H1 D (.lst []))) ∧ ∀ i m H, W i m H → ((Itl K l).stop i H ∧ Qd H) ∨
      ((Itl K l).go i H ∧ ∃ Nx : Hp → Prop, (∀ H', Nx H' → ∃ m', m' < m ∧ W (i + 1) m' H') ∧ ∀ x H', (Itl K l).yld i H x H' → g x (wipe σ sl) H' fun σ2 H2 => wipe σ2 sl = wipe σ sl ∧ tt σ2 H2 fun b H3 =>
      if b = true then te σ2 H3 fun y H4 => ∃ acc, H4 D = some (.lst acc) ∧ acc.length < sizeLine ∧ Nx (upd H4 D (.lst (acc ++ [y]))) else Nx H3) := by
  refine lc_list (K := K) (a := l) (xs := xs) (fun i H' => Same H1 H' ∧ i ≤ xs.length ∧ H' D = some (.lst (List.replicate (kept keep i) c))) ?_ ?_ ?_ ?_
  · exact ⟨same_new hD, Nat.zero_le _, upd_same⟩
  · rintro i H' _ ⟨e, _⟩
    exact e.seq hl
  · rintro i x H' hx ⟨e, hi', hv⟩
    have hi : i < xs.length := (List.getElem?_eq_some_iff.mp hx).1
    have hk : ∀ j, kept keep j ≤ j := fun j => by
      induction j with
      | zero => exact Nat.le_refl _
      | succ j ih =>
        show kept keep j + _ ≤ j + 1
        split <;> omega
    refine step i x H' hx e _ _ (fun hf H'' e2 => ?_) fun ht H'' e2 => ?_
    · refine ⟨e.trans e2, hi, ?_⟩
      show H'' D = some (.lst (List.replicate (kept keep i + (if keep i = true then 1 else 0)) c))
      rw [hf]
      exact e2 _ _ hv
    · have := hk i
      refine ⟨_, e2 _ _ hv, Nat.lt_of_lt_of_le (by rw [List.length_replicate]; omega : _ < 1001) (by decide), (But.upd.same hD (e.trans e2)), hi, ?_⟩
      rw [upd_same]
      show some (HO.lst _) = some (.lst (List.replicate (kept keep i + (if keep i = true then 1 else 0)) c))
      rw [ht, if_pos rfl, List.replicate_succ']
  · rintro H' ⟨e, _, hv⟩
    exact hd H' e hv
/-- [te for g in range(n)] -/
theorem lc_rAll {D : Addr} {lo : Int} {n : Nat} {g : TG} {te : TE} {sl : List Nat} {σ : L2.St} {H1 : Hp} {Qd : Hp → Prop} (R : Nat → V → Hp → Prop) (rex : ∀ i v H H', Same H H' → R i v H → R i v H') (rbut : ∀ i v H H' D ys, H D = some (HO.lst ys) → But D H H' → R i v H → R i v H')
    (hn : n ≤ 1000)
    (step : ∀ i H', i < n → Same H1 H' → ∀ Q' : VK, (∀ v H'', Same H' H'' → R i v H'' → Q' v H'') → g (.int (lo + i)) (wipe σ sl) H' fun σ2 H2 => wipe σ2 sl = wipe σ sl ∧ te σ2 H2 Q')
    (hd : ∀ H' vs, Same H1 H' → H' D = some (.lst vs) → vs.length = n → (∀ i v, vs[i]? = some v → R i v H') → Qd H') (hD : H1 D = none) :
    ∃ W : Nat → Nat → Hp → Prop, (∃ m, W 0 m (upd H1 D (.lst []))) ∧ ∀ i m H, W i m H → ((Itr lo n).stop i H ∧ Qd H) ∨
      ((Itr lo n).go i H ∧ ∃ Nx : Hp → Prop, (∀ H', Nx H' → ∃ m', m' < m ∧ W (i + 1) m' H') ∧ ∀ x H', (Itr lo n).yld i H x H' → g x (wipe σ sl) H' fun σ2 H2 => wipe σ2 sl = wipe σ sl ∧ tYes σ2 H2 fun b H3 =>
      if b = true then te σ2 H3 fun y H4 => ∃ acc, H4 D = some (.lst acc) ∧ acc.length < sizeLine ∧ Nx (upd H4 D (.lst (acc ++ [y]))) else Nx H3) := by
  refine lc_range (lo := lo) (n := n) (fun i H' => Same H1 H' ∧ ∃ vs : List V, H' D = some (.lst vs) ∧ vs.length = i ∧ ∀ j v, vs[j]? = some v → R j v H') ?_ ?_ ?_
  · exact ⟨same_new hD, [], upd_same, rfl, fun j v h => by simp at h⟩
  · rintro i H' hi ⟨e, vs, hv, hlen, hp⟩
    refine step i H' hi e (fun y H4 => ∃ acc, H4 D = some (.lst acc) ∧ acc.length < sizeLine ∧ Same H1 (upd H4 D (.lst (acc ++ [y]))) ∧ ∃ vs : List V, (upd H4 D (.lst (acc ++ [y]))) D = some (.lst vs) ∧ vs.length = i + 1 ∧ ∀ j v, vs[j]? = some v → R j v (upd H4 D (.lst (acc ++ [y])))) fun v H'' e2 h2 => ?_
    have hv2 := e2 _ _ hv
    refine ⟨vs, hv2, Nat.lt_of_lt_of_le (by omega : vs.length < 1001) (by decide), (But.upd.same hD (e.trans e2)), vs ++ [v], upd_same, by rw [List.length_append, hlen]; rfl, fun j u hu => ?_⟩
    by_cases hj : j < vs.length
    · rw [List.getElem?_append_left hj] at hu
      exact rbut _ _ _ _ _ _ hv2 But.upd (rex _ _ _ _ e2 (hp j u hu))
    · have hj2 : j = vs.length := by
        have := (List.getElem?_eq_some_iff.mp hu).1
        rw [List.length_append] at this
        simp at this
        omega
      subst hj2
      rw [List.getElem?_append_right (Nat.le_refl _)] at hu
      simp at hu
      subst hu
      rw [hlen]
      exact rbut _ _ _ _ _ _ hv2 But.upd h2
  · rintro H' ⟨e, vs, hv, hlen, hp⟩
    exact hd H' vs e hv hlen hp
theorem IsP.but {C D : Addr} {v : V} {x y : Int} {H H' : Hp} {ys : List V} (hD : H D = some (.lst ys)) (b : But D H H') (h : IsP C v x y H) : IsP C v x y H' := by
  obtain ⟨a, dx, rfl, h⟩ := h
  exact ⟨a, dx, rfl, b _ _ (ne_of h hD (by intro z; cases z)) h⟩
theorem two3 {e1 e2 e3 x : V} {i : Nat} (h : [e1, e2, e3][i]? = some x) : (i = 0 ∧ x = e1) ∨ (i = 1 ∧ x = e2) ∨ (i = 2 ∧ x = e3) := by
  match i, h with
  | 0, h => exact .inl ⟨rfl, (Option.some.inj h).symm⟩
  | 1, h => exact .inr (.inl ⟨rfl, (Option.some.inj h).symm⟩)
  | 2, h => exact .inr (.inr ⟨rfl, (Option.some.inj h).symm⟩)
  | n + 3, h => simp at h
theorem len3' {vs : List V} (h : vs.length = 3) : ∃ a b c, vs = [a, b, c] := by
  match vs, h with
  | [a, b, c], _ => exact ⟨a, b, c, rfl⟩
end Fo

set_option Elab.async false
set_option linter.all false
set_option maxRecDepth 100000
set_option maxHeartbeats 2000000
namespace Fo
open PySem L2
abbrev sLaw : Stmt := top 31
abbrev lawN : List Str := ["script", "k", "pool", "many", "number", "found", "most", "least", "threes", "a", "b", "c", "shown", "corners_here", "odd", "bounds", "turn", "corner", "x", "y"]
theorem scLaw : FnScope lawN ["script"] (defScope sLaw) := ⟨rfl, rfl, rfl, by decide +kernel, rfl, by decide +kernel, by decide +kernel⟩
def spLaw (K : PySem.W.Frag) : Sp := fun vs H Q _ => ∃ (a : Addr) (ns : List Int), vs = [.ref a] ∧ SqL K H a (ns.map V.int) ∧ ns.length ≤ 63 ∧ ∀ H', Q (.bl true) H'
theorem seq_gen {t1 t2 : TS} {D : Ends} {σ : L2.St} {H : Hp} (cond : L2.St → Hp → Prop) (h1 : ∀ N : L2.St → Hp → Prop, (∀ σ' H', cond σ' H' → N σ' H') → t1 { D with nx := N } σ H) (h2 : ∀ σ' H', cond σ' H' → t2 D σ' H') : tSeq t1 t2 D σ H := h1 _ h2
structure LDefs (P : Program) (K : PySem.W.Frag) (mg : Str → Option Value) (C CT CM fMI CF CI fH fD fPw fSg fMo fPo fR fPm : Addr) (fdH fdD fdPw fdSg fdMo fdPo fdR fdPm : FuncData) : Prop where
  TL : TxtL mg
  R : RTxt P K mg CM fMI CF CI
  FH : Fun K "_law_hand" "_law_hand" sHand fH fdH
  bH : Binds K fdH ["script", "k"] []
  mH : mg "_law_hand" = some (.ref fH)
  FD : Fun K "_law_draw" "_law_draw" sDraw fD fdD
  bD : Binds K fdD ["pool", "many"] []
  mD : mg "_law_draw" = some (.ref fD)
  FPw : Fun K "_law_power" "_law_power" sPower fPw fdPw
  bPw : Binds K fdPw ["many"] []
  mPw : mg "_law_power" = some (.ref fPw)
  FSg : Fun K "_law_sign" "_law_sign" sSign fSg fdSg
  bSg : Binds K fdSg ["number"] []
  mSg : mg "_law_sign" = some (.ref fSg)
  FMo : Fun K "_law_most" "_law_most" sMost fMo fdMo
  bMo : Binds K fdMo ["pool"] []
  mMo : mg "_law_most" = some (.ref fMo)
  FPo : Fun K "_law_points" "_law_points" sPts fPo fdPo
  bPo : Binds K fdPo ["pool", "most"] []
  mPo : mg "_law_points" = some (.ref fPo)
  FR : Fun K "_law_refused" "_law_refused" sRefused fR fdR
  bR : Binds K fdR ["door", "one", "two"] []
  mR : mg "_law_refused" = some (.ref fR)
  FPm : Fun K "pair" "Point.pair" sPairM fPm fdPm
  bPm : Binds K fdPm ["self"] []
  mPm : Meth K C "pair" fPm
theorem shows_by {d : PyData} (h : (d.showable && !d.hasDict && decide (d.depth ≤ 60) && decide (d.shown.length ≤ 1000)) = true) : ShowsOk d := by
  simp only [Bool.and_eq_true, Bool.not_eq_true', decide_eq_true_eq] at h
  exact ⟨h.1.1.1, h.1.1.2, h.1.2, Nat.le_trans h.2 (by decide)⟩
theorem sh_self {d : PyData} (h : SeqAt.shaped d = true) : PyData.eqv d d = true := by
  unfold SeqAt.shaped at h
  rw [Bool.and_eq_true] at h
  exact SeqAt.eqv_refl _ h.1
/-- what is no number, and what repr shows of it -/
structure OddV (v : V) (d : PyData) : Prop where
  sc : Scal v
  w : wholeV v = false
  b : okN 1 200 v = false
  m : okN 1 M29 v = false
  sh : ShowsOk d
  dp : ∀ (K : PySem.W.Frag) (H : Hp), Dp K H v d
theorem oddV_none : OddV .non .none := ⟨trivial, rfl, rfl, rfl, shows_by (by decide +kernel), fun _ _ => .non⟩
theorem oddV_true : OddV (.bl true) (.bool true) := ⟨trivial, rfl, rfl, rfl, shows_by (by decide +kernel), fun _ _ => .bl true⟩
theorem oddV_str : OddV (.str "1") (.str "1") := ⟨trivial, rfl, rfl, rfl, shows_by (by decide +kernel), fun _ _ => .str _⟩
theorem odd3 {v : V} {j : Nat} (h : [V.non, V.bl true, V.str "1"][j]? = some v) : ∃ d, OddV v d := by
  rcases two3 h with ⟨_, rfl⟩ | ⟨_, rfl⟩ | ⟨_, rfl⟩
  · exact ⟨_, oddV_none⟩
  · exact ⟨_, oddV_true⟩
  · exact ⟨_, oddV_str⟩
/-- three of them, at no other list's place -/
def In3D (D pl : Addr) (H : Hp) (m : Int) (v : V) : Prop := ∃ (l : Addr) (a b c : V), v = .ref l ∧ l ≠ D ∧ l ≠ pl ∧ H l = some (.lst [a, b, c]) ∧ InB H m a ∧ InB H m b ∧ InB H m c
theorem In3D.pl {D pl : Addr} {H H' : Hp} {m : Int} {v : V} (p : PoolAt pl H) (b : But pl H H') (h : In3D D pl H m v) : In3D D pl H' m v := by
  obtain ⟨l, x, y, z, e, n1, n2, hl, hx, hy, hz⟩ := h
  obtain ⟨i, j, hp, _⟩ := p
  exact ⟨l, x, y, z, e, n1, n2, b _ _ n2 hl, hx.but hp b, hy.but hp b, hz.but hp b⟩
theorem In3D.at {D pl : Addr} {H H' : Hp} {m : Int} {v : V} {xs : List V} (hD : H D = some (.lst xs)) (b : But D H H') (h : In3D D pl H m v) : In3D D pl H' m v := by
  obtain ⟨l, x, y, z, e, n1, n2, hl, hx, hy, hz⟩ := h
  exact ⟨l, x, y, z, e, n1, n2, b _ _ n1 hl, hx.but hD b, hy.but hD b, hz.but hD b⟩
theorem In3D.in {D pl : Addr} {H : Hp} {m : Int} {v : V} (h : In3D D pl H m v) : In3 H m v := by
  obtain ⟨l, x, y, z, e, n1, n2, hl, r⟩ := h
  exact ⟨l, x, y, z, e, hl, r⟩
theorem InB.tp {H : Hp} {q : Addr} {m x y : Int} (h : H q = some (.tup [.int x, .int y])) (x0 : 0 ≤ x) (x1 : x ≤ m) (y0 : 0 ≤ y) (y1 : y ≤ m) : InB H m (.ref q) := ⟨q, x, y, rfl, h, x0, x1, y0, y1⟩
theorem tri_area (m : Int) : sd (0, 0) (m, 0) (0, m) = m * m := by
  show (m - 0) * (m - 0) - (0 - 0) * (0 - 0) = m * m
  simp
section
variable {P : Program} {w : World} {K : PySem.W.Frag} {mg : Str → Option Value} {base : Heap}
variable {C fW fI fP fA fO CT fS fTI fCo fEd fAr fEq fAd pAr CM fMI CF CI fWr fCh fLe fSh fH fD fPw fSg fMo fPo fR fPm : Addr} {fdW fdI fdP fdA fdO fdS fdTI fdCo fdEd fdAr fdEq fdAd fdWr fdCh fdLe fdSh fdH fdD fdPw fdSg fdMo fdPo fdR fdPm : FuncData}
theorem ok_law {f : Addr} {fd : FuncData} (F : Fun K "law" "law" sLaw f fd) (D : Defs K mg C fW fI fP fA fO fdW fdI fdP fdA fdO) (d : TDefs K mg C CT fS fTI fCo fEd fAr fEq fAd pAr fdS fdTI fdCo fdEd fdAr fdEq fdAd) (B : BDefs K mg fWr fCh fLe fSh fdWr fdCh fdLe fdSh)
    (L : LDefs P K mg C CT CM fMI CF CI fH fD fPw fSg fMo fPo fR fPm fdH fdD fdPw fdSg fdMo fdPo fdR fdPm) : FnG P w K mg base CX0 11 f fd ["script"] (spLaw K) := by
  have GR : FnG P w K mg base CX0 5 fR fdR ["door", "one", "two"] (spRef K) := ok_ref L.FR D B L.R
  have GWr : FnOk P w K mg base CX0 2 fWr fdWr ["number", "bits"] spWrap := ok_wrap D B
  have GLe : FnOk P w K mg base CX0 3 fLe fdLe ["most"] spLeast := ok_least D B
  have GSh : FnOk P w K mg base CX0 10 fSh fdSh ["most"] (spShows C CT) := ok_shows D d B
  have GS : FnOk P w K mg base CX0 7 fS fdS ["a", "b", "point"] (spSide C) := ok_side d.FS D
  have GCo : FnOk P w K mg base CX0 1 fCo fdCo ["self"] (spCorners C CT) := d.GCo
  have GAr : FnOk P w K mg base CX0 8 fAr fdAr ["self"] (spArea C CT) := d.GAr D
  have GPm : FnOk P w K mg base CX0 1 fPm fdPm ["self"] (spPairM C) := ok_pairM L.FPm D.T
  have GH : FnOk P w K mg base CX0 1 fH fdH ["script", "k"] (spHand K) := ok_hand L.FH L.TL
  have GD : FnOk P w K mg base CX0 1 fD fdD ["pool", "many"] spDraw := ok_draw L.FD L.TL
  have GPw : FnOk P w K mg base CX0 1 fPw fdPw ["many"] spPower := ok_power L.FPw L.TL
  have GSg : FnOk P w K mg base CX0 1 fSg fdSg ["number"] spSign := ok_sign L.FSg L.TL
  have GMo : FnOk P w K mg base CX0 2 fMo fdMo ["pool"] spMost := ok_most L.FMo L.TL L.FD L.bD L.mD L.FPw L.bPw L.mPw
  have GPo : FnOk P w K mg base CX0 2 fPo fdPo ["pool", "most"] spPts := ok_pts L.FPo L.TL L.FD L.bD L.mD
  refine F.okG scLaw (fun vs H Q E h => ?_) (fun cdv A outer s H vs Q E hgd0 hr h => ?_)
  · obtain ⟨a, ns, rfl, _⟩ := h
    rfl
  · obtain ⟨sa, ns, rfl, hS, hlen, k⟩ := h
    have hgd : (A.deeper (PyProof.Rows.envOfC (Str.ofString "law") (defScope sLaw) s.heap.objs.size f cdv)).guards = some [] := hgd0
    have hr10 : Room 10 _ := hr
    have hr9 : Room 9 _ := hr.mono (by decide)
    have hr8 : Room 8 _ := hr.mono (by decide)
    have hr7 : Room 7 _ := hr.mono (by decide)
    have hr5 : Room 5 _ := hr.mono (by decide)
    have hr3 : Room 3 _ := hr.mono (by decide)
    have hr2 : Room 2 _ := hr.mono (by decide)
    have hr1 : Room 1 _ := hr.mono (by decide)
    have hu : (A.deeper (PyProof.Rows.envOfC (Str.ofString "law") (defScope sLaw) s.heap.objs.size f cdv)).units + 64 < cLine := by
      have := hr.un
      omega
    have cR : CallR (cxOf CX0 P w K mg base lawN "law" (defScope sLaw) f cdv A outer s H E).nox (.builtin "repr") (rReprD K) := call_reprD hgd0 hu
    refine ⟨_, pss_cons (ps_for PassesOwn.never rfl (pi_range1 rfl L.TL.range (pa_cons (pe_callB (call_max2 rfl) (by rfl) L.TL.max (by decide +kernel) (pa_cons pe_int (pa_cons (pe_callB (call_min2 rfl) (by rfl) L.TL.min (by decide +kernel) (pa_cons (pe_callB call_len_seq (by rfl) L.TL.len PySem.boot_len (pa_cons (pv 0) pa_nil)) (pa_cons pe_int pa_nil))) pa_nil))) pa_nil)) (pg_name (i := 1) scLaw.nd rfl (Or.inl rfl))
        (pss_cons (ps_set (i := 2) scLaw.nd rfl (Or.inr rfl) (pe_call GH hr1 rfl L.mH L.FH.kp L.bH .nil pass0 (pa_cons (pv 0) (pa_cons (pv 1) pa_nil))))
        (pss_cons (ps_set (i := 3) scLaw.nd rfl (Or.inl rfl) (pe_op op_add pe_int (pe_call GD hr1 rfl L.mD L.FD.kp L.bD .nil pass0 (pa_cons (pv 2) (pa_cons pe_int pa_nil)))))
        (pss_cons (ps_set (i := 4) scLaw.nd rfl (Or.inl rfl) (pe_op op_sub (pe_op op_add (pe_call GPw hr1 rfl L.mPw L.FPw.kp L.bPw .nil pass0 (pa_cons (pe_call GD hr1 rfl L.mD L.FD.kp L.bD .nil pass0 (pa_cons (pv 2) (pa_cons pe_int pa_nil))) pa_nil)) (pe_call GD hr1 rfl L.mD L.FD.kp L.bD .nil pass0 (pa_cons (pv 2) (pa_cons pe_int pa_nil)))) pe_int))
        (pss_cons (ps_set (i := 4) scLaw.nd rfl (Or.inl rfl) (pe_ifExp (pt_cmpR op_eq (pe_call GD hr1 rfl L.mD L.FD.kp L.bD .nil pass0 (pa_cons (pv 2) (pa_cons pe_int pa_nil))) pe_int (nomark _)) (pv 4) (pe_un un_neg (pv 4))))
        (pss_cons (ps_set (i := 5) scLaw.nd rfl (Or.inl rfl) (pe_call GWr hr2 rfl B.mWr B.FWr.kp B.bWr .nil pass0 (pa_cons (pv 4) (pa_cons (pv 3) pa_nil))))
        (pss_cons (ps_if (PW.pt (pw_or (pt_not (pt_chain op_le op_lt (pe_un un_neg (pe_call GPw hr1 rfl L.mPw L.FPw.kp L.bPw .nil pass0 (pa_cons (pe_op op_sub (pv 3) pe_int) pa_nil))) (pv 5) (pe_call GPw hr1 rfl L.mPw L.FPw.kp L.bPw .nil pass0 (pa_cons (pe_op op_sub (pv 3) pe_int) pa_nil)))) (pw_or1 (pt_cmpR op_ne (pe_op op_mod (pe_op op_sub (pv 5) (pv 4)) (pe_call GPw hr1 rfl L.mPw L.FPw.kp L.bPw .nil pass0 (pa_cons (pv 3) pa_nil))) pe_int (nomark _))))) (pss_one (ps_ret pe_bl)) pss_nil)
        (pss_cons (ps_set (i := 6) scLaw.nd rfl (Or.inr rfl) (pe_call GMo hr2 rfl L.mMo L.FMo.kp L.bMo .nil pass0 (pa_cons (pv 2) pa_nil)))
        (pss_cons (ps_set (i := 7) scLaw.nd rfl (Or.inl rfl) (pe_call GLe hr3 rfl B.mLe B.FLe.kp B.bLe .nil pass0 (pa_cons (pv 6) pa_nil)))
        (pss_cons (ps_if (PW.pt (pw_or (pt_not (pt_cmpR op_lt (pe_op op_mulW (pv 6) (pv 6)) (pe_call GPw hr1 rfl L.mPw L.FPw.kp L.bPw .nil pass0 (pa_cons (pe_op op_sub (pv 7) pe_int) pa_nil)) (nomark _))) (pw_or1 (pt_cmpR op_lt (pe_op op_mulW (pv 6) (pv 6)) (pe_call GPw hr1 rfl L.mPw L.FPw.kp L.bPw .nil pass0 (pa_cons (pe_op op_sub (pv 7) pe_int) pa_nil)) (nomark _))))) (pss_one (ps_ret pe_bl)) pss_nil)
        (pss_cons (ps_setLc (i := 8) (own := [("turn", 16)]) (g := gName 16) (tt := tYes) rfl scLaw.nd rfl rfl (sw_true rfl rfl rfl (by decide +kernel)) (pi_range1 rfl L.TL.range (pa_cons pe_int pa_nil)) (blkOk_by (own := [("turn", 16)]) (N := lawN) (sc := defScope sLaw) (by decide +kernel)) (fun _ _ _ _ _ => (pg_name (i := 16) scLaw.nd rfl (Or.inl rfl))) (fun _ _ _ _ _ => pts_nil) (fun _ _ _ _ _ => (pe_call GPo hr2 rfl L.mPo L.FPo.kp L.bPo .nil pass0 (pa_cons (pv 2) (pa_cons (pv 6) pa_nil)))))
        (pss_cons (ps_set (i := 8) scLaw.nd rfl (Or.inl rfl) (pe_op op_cat (pv 8) (pe_lst (pa_cons (pe_lst (pa_cons (pe_tup (pa_cons pe_int (pa_cons pe_int pa_nil))) (pa_cons (pe_tup (pa_cons (pv 6) (pa_cons pe_int pa_nil))) (pa_cons (pe_tup (pa_cons pe_int (pa_cons (pv 6) pa_nil))) pa_nil)))) (pa_cons (pe_lst (pa_cons (pe_tup (pa_cons pe_int (pa_cons pe_int pa_nil))) (pa_cons (pe_tup (pa_cons pe_int (pa_cons (pv 6) pa_nil))) (pa_cons (pe_tup (pa_cons (pv 6) (pa_cons pe_int pa_nil))) pa_nil)))) pa_nil)))))
        (pss_cons (ps_for PassesOwn.never rfl (pi_list (pv 8)) (pg_unl rfl (pgs_cons (pg_name (i := 9) scLaw.nd rfl (Or.inl rfl)) (pgs_cons (pg_name (i := 10) scLaw.nd rfl (Or.inl rfl)) (pgs_cons (pg_name (i := 11) scLaw.nd rfl (Or.inl rfl)) pgs_nil))))
        (pss_one (ps_if (pt_cmpR op_ne (pe_call GSg hr1 rfl L.mSg L.FSg.kp L.bSg .nil pass0 (pa_cons (pe_call GWr hr2 rfl B.mWr B.FWr.kp B.bWr .nil pass0 (pa_cons (pe_call GS hr7 rfl d.mS d.FS.kp d.bS .nil pass0 (pa_cons (pv 9) (pa_cons (pv 10) (pa_cons (pv 11) pa_nil)))) (pa_cons (pv 7) pa_nil))) pa_nil)) (pe_call GSg hr1 rfl L.mSg L.FSg.kp L.bSg .nil pass0 (pa_cons (pe_call GS hr7 rfl d.mS d.FS.kp d.bS .nil pass0 (pa_cons (pv 9) (pa_cons (pv 10) (pa_cons (pv 11) pa_nil)))) pa_nil)) (nomark _)) (pss_one (ps_ret pe_bl)) pss_nil)))
        (pss_cons (ps_set (i := 12) scLaw.nd rfl (Or.inl rfl) (pe_call GSh hr10 rfl B.mSh B.FSh.kp B.bSh .nil pass0 (pa_cons (pv 6) pa_nil)))
        (pss_cons (ps_setLc (i := 13) (own := [("corner", 17)]) (g := gName 17) (tt := tYes) rfl scLaw.nd rfl rfl (sw_true rfl rfl rfl (by decide +kernel)) (pi_list (pe_meth0 (pv 12) d.TT.cl d.mCo GCo hr1 d.bCo .nil pass0)) (blkOk_by (own := [("corner", 17)]) (N := lawN) (sc := defScope sLaw) (by decide +kernel)) (fun _ _ _ _ _ => (pg_name (i := 17) scLaw.nd rfl (Or.inl rfl))) (fun _ _ _ _ _ => pts_nil) (fun _ _ _ _ _ => (pe_meth0 (pv 17) D.T.cl L.mPm GPm hr1 L.bPm .nil pass0)))
        (pss_cons (ps_if (pt_cmpR (op_neD hr.units) (pe_lc (own := [("x", 18), ("y", 19)]) (g := gTup K 2 (gCons (gName 18) (gCons (gName 19) gNil)))  rfl scLaw.nd (pi_list (pv 13)) (blkOk_by (own := [("x", 18), ("y", 19)]) (N := lawN) (sc := defScope sLaw) (by decide +kernel)) (fun _ _ _ _ _ => pg_tup rfl (pgs_cons (pg_name (i := 18) scLaw.nd rfl (Or.inl rfl)) (pgs_cons (pg_name (i := 19) scLaw.nd rfl (Or.inl rfl)) pgs_nil))) (fun _ _ _ _ _ => pts_one (pt_not (PW.pt (pw_and (pt_chain op_le op_le pe_int (pv 18) (pv 6)) (pw_and1 (pt_chain op_le op_le pe_int (pv 19) (pv 6))))))) (fun _ _ _ _ _ => pe_int)) (pe_lst pa_nil) (nomark _)) (pss_one (ps_ret pe_bl)) pss_nil)
        (pss_cons (ps_if (PW.pt (pw_or (pt_cmpR op_eq (pe_call GSg hr1 rfl L.mSg L.FSg.kp L.bSg .nil pass0 (pa_cons (pe_call GWr hr2 rfl B.mWr B.FWr.kp B.bWr .nil pass0 (pa_cons (pe_prop (pv 12) d.TT.cl d.pAr GAr hr9 d.bAr .nil pass0 rfl) (pa_cons (pe_op op_sub (pv 7) pe_int) pa_nil))) pa_nil)) pe_int (nomark _)) (pw_or1 (PW.pt (pw_and (pt_cmpR op_lt (pv 6) (pe_op op_pow pe_int pe_int) (nomark _)) (pw_and1 (pt_cmpR op_lt (pe_call GLe hr3 rfl B.mLe B.FLe.kp B.bLe .nil pass0 (pa_cons (pe_op op_add (pv 6) pe_int) pa_nil)) (pv 7) (nomark _)))))))) (pss_one (ps_ret pe_bl)) pss_nil)
        (pss_one (ps_for PassesOwn.never rfl (pi_list (pe_lst (pa_cons pe_non (pa_cons pe_bl (pa_cons pe_str pa_nil))))) (pg_name (i := 14) scLaw.nd rfl (Or.inl rfl))
        (pss_cons (ps_if (PW.pt (pw_or (pt_cmpR op_ne (pe_callG GR hgd hr5 rfl L.mR L.FR.kp L.bR pass0 (pa_cons pe_int (pa_cons (pv 14) (pa_cons (pv 14) pa_nil)))) (pe_callB cR (by rfl) L.R.zR (by decide +kernel) (pa_cons (pv 14) pa_nil)) (nomark _)) (pw_or1 (pt_cmpR op_ne (pe_callG GR hgd hr5 rfl L.mR L.FR.kp L.bR pass0 (pa_cons pe_int (pa_cons pe_int (pa_cons (pv 14) pa_nil)))) (pe_callB cR (by rfl) L.R.zR (by decide +kernel) (pa_cons (pv 14) pa_nil)) (nomark _))))) (pss_one (ps_ret pe_bl)) pss_nil)
        (pss_one (ps_if (PW.pt (pw_or (pt_cmpR op_ne (pe_callG GR hgd hr5 rfl L.mR L.FR.kp L.bR pass0 (pa_cons pe_int (pa_cons (pv 14) (pa_cons pe_int pa_nil)))) (pe_callB cR (by rfl) L.R.zR (by decide +kernel) (pa_cons (pv 14) pa_nil)) (nomark _)) (pw_or1 (pt_cmpR op_ne (pe_callG GR hgd hr5 rfl L.mR L.FR.kp L.bR pass0 (pa_cons pe_int (pa_cons (pv 14) (pa_cons pe_int pa_nil)))) (pe_callB cR (by rfl) L.R.zR (by decide +kernel) (pa_cons (pv 14) pa_nil)) (nomark _))))) (pss_one (ps_ret pe_bl)) pss_nil))))))))))))))))))))))
      (pss_cons (ps_set (i := 15) scLaw.nd rfl (Or.inl rfl) (pe_lst (pa_cons (pe_callG GR hgd hr5 rfl L.mR L.FR.kp L.bR pass0 (pa_cons pe_int (pa_cons pe_int (pa_cons pe_int pa_nil)))) (pa_cons (pe_callG GR hgd hr5 rfl L.mR L.FR.kp L.bR pass0 (pa_cons pe_int (pa_cons pe_int (pa_cons pe_int pa_nil)))) (pa_cons (pe_callG GR hgd hr5 rfl L.mR L.FR.kp L.bR pass0 (pa_cons pe_int (pa_cons pe_int (pa_cons pe_int pa_nil)))) (pa_cons (pe_callG GR hgd hr5 rfl L.mR L.FR.kp L.bR pass0 (pa_cons pe_int (pa_cons (pe_op op_add (pe_op op_pow pe_int pe_int) pe_int) (pa_cons pe_int pa_nil)))) pa_nil))))))
      (pss_one (ps_ret (pe_cmpR (op_eqD hr.units) (pv 15) (pe_lst (pa_cons pe_str (pa_cons pe_str (pa_cons pe_str (pa_cons (pe_callB cR (by rfl) L.R.zR (by decide +kernel) (pa_cons (pe_op op_add (pe_op op_pow pe_int pe_int) pe_int) pa_nil)) pa_nil))))) (nomark _))))), ?_⟩
    -- range(max(1, min(len(script), 8)))
    refine ⟨_, rfl, sa, _, rfl, .inl hS, _, _, rfl, _, _, rfl, ?_⟩
    have hn8 : ∀ z : Int, z = (if (if (8 : Int) < ((ns.map V.int).length : Int) then (8 : Int) else ((ns.map V.int).length : Int)) > 1 then (if (8 : Int) < ((ns.map V.int).length : Int) then (8 : Int) else ((ns.map V.int).length : Int)) else 1) → 0 ≤ z ∧ z ≤ 8 := by
      intro z hz
      split at hz <;> split at hz <;> omega
    obtain ⟨n0, n8⟩ := hn8 _ rfl
    refine ⟨_, rfl, by omega, by omega, ?_⟩
    refine for_range (lo := 0) (fun i σ H' => ∃ v1 v2 v3 v4 v5 v6 v7 v8 v9 v10 v11 v12 v13 v14 v15 v16 v17 v18 v19 : Option V, σ = [some (.ref sa), v1, v2, v3, v4, v5, v6, v7, v8, v9, v10, v11, v12, v13, v14, v15, v16, v17, v18, v19] ∧ Same H H')
      ⟨_, _, _, _, _, _, _, _, _, _, _, _, _, _, _, _, _, _, _, rfl, Same.refl _⟩ ?_ ?_
    case refine_2 =>
      rintro σ H' ⟨v1, v2, v3, v4, v5, v6, v7, v8, v9, v10, v11, v12, v13, v14, v15, v16, v17, v18, v19, rfl, eH⟩
      -- bounds
      refine ⟨0, .int 5, .int 0, .int 0, .int 0, rfl, trivial, trivial, .inl ⟨rfl, .inr ⟨rfl, by decide, rfl⟩⟩, shows_by (by decide +kernel), .int _, fun H1 e1 => ?_⟩
      refine ⟨0, .int 5, .int 201, .int 201, .int 201, rfl, trivial, trivial, .inl ⟨rfl, .inr ⟨rfl, by decide, rfl⟩⟩, shows_by (by decide +kernel), .int _, fun H2 e2 => ?_⟩
      refine ⟨1, .int 0, .int 0, .int 0, .int 0, rfl, trivial, trivial, .inr ⟨.inl rfl, by decide, rfl⟩, shows_by (by decide +kernel), .int _, fun H3 e3 => ?_⟩
      refine ⟨_, _, rfl, rfl, ⟨by decide, by decide, by decide⟩, _, _, rfl, rfl, ?_⟩
      refine ⟨2, .int (M29 + 1), .int 0, .int (M29 + 1), .int (M29 + 1), by rw [p29]; rfl, trivial, trivial, .inr ⟨.inr rfl, by decide, rfl⟩, shows_by (by decide +kernel), .int _, fun H4 e4 => ?_⟩
      refine ⟨(by show 4 ≤ sizeLine; decide), fun l1 nl1 => ?_⟩
      refine ⟨_, rfl, _, _, rfl, rfl, ⟨by decide, by decide, by decide⟩, _, _, rfl, rfl, ?_⟩
      refine ⟨_, .int (M29 + 1), by rw [p29], .int _, by decide +kernel, by decide +kernel, by decide +kernel, Nat.le_trans (by decide +kernel : _ ≤ 1000) (by decide), ?_⟩
      refine ⟨(by show 4 ≤ sizeLine; decide), fun l2 nl2 => ?_⟩
      have g := same_new (o := .lst [V.str "0", V.str "201", V.str "0", V.str (PyData.int (M29 + 1)).shown]) nl2
      refine ⟨.list [.str (PyData.int 0).shown, .str (PyData.int 201).shown, .str (PyData.int 0).shown, .str (PyData.int (M29 + 1)).shown], .list [.str "0", .str "201", .str "0", .str (PyData.int (M29 + 1)).shown],
        .lst (SqL.of (g _ _ upd_same)) (.cons (.str _) (.cons (.str _) (.cons (.str _) (.cons (.str _) .nil)))), .lst (SqL.of upd_same) (.cons (.str _) (.cons (.str _) (.cons (.str _) (.cons (.str _) .nil)))), by decide +kernel, by decide +kernel, ?_⟩
      have e : PyData.eqv (.list [.str (PyData.int 0).shown, .str (PyData.int 201).shown, .str (PyData.int 0).shown, .str (PyData.int (M29 + 1)).shown]) (.list [.str "0", .str "201", .str "0", .str (PyData.int (M29 + 1)).shown]) = true := by decide +kernel
      rw [e]
      exact k _
    rintro i σ H0 hi ⟨v1, v2, v3, v4, v5, v6, v7, v8, v9, v10, v11, v12, v13, v14, v15, v16, v17, v18, v19, rfl, eH⟩
    -- pool
    refine ⟨_, rfl, _, rfl, sa, ns, _, rfl, eH.seq hS, hlen, by omega, by omega, fun pl H1 hpl e1 p1 => ?_⟩
    clear hn8 n0 n8 hi
    -- many
    refine ⟨_, rfl, pl, 200, rfl, p1, by decide, by decide, fun r1 H2 r10 r11 b2 p2 => ?_⟩
    refine ⟨_, _, rfl, rfl, ?_⟩
    obtain ⟨n, rfl⟩ : ∃ n : Nat, r1 = n := ⟨r1.toNat, by omega⟩
    have n2 : n < 200 := by omega
    -- number
    refine ⟨_, rfl, pl, 210, rfl, p2, by decide, by decide, fun r3 H3 r30 r31 b3 p3 => ?_⟩
    refine ⟨r3, rfl, r30, by omega, ?_⟩
    refine ⟨_, rfl, pl, 9, rfl, p3, by decide, by decide, fun r4 H4 r40 r41 b4 p4 => ?_⟩
    refine ⟨_, _, rfl, rfl, _, _, rfl, rfl, ?_⟩
    dsimp only
    refine seq_gen (fun σ' H' => ∃ (u1 : Option V) (z : Int), σ' = [some (.ref sa), u1, some (.ref pl), some (.int (1 + (n : Int))), some (.int z), v5, v6, v7, v8, v9, v10, v11, v12, v13, v14, v15, v16, v17, v18, v19] ∧ But pl H4 H' ∧ PoolAt pl H') (fun N hN => ?_) ?_
    · refine ⟨_, rfl, pl, 2, rfl, p4, by decide, by decide, fun r5 H5 r50 r51 b5 p5 => ⟨rfl, _, rfl, ?_⟩⟩
      refine ite2 (fun _ => ⟨_, rfl, hN _ _ ⟨_, _, rfl, b5, p5⟩⟩) (fun _ => ⟨_, rfl, _, rfl, hN _ _ ⟨_, _, rfl, b5, p5⟩⟩)
    rintro σ H5 ⟨u1, z, rfl, b5, p5⟩
    have e5 : Same H0 H5 := (((b2.trans b3).trans b4).trans b5).same hpl e1
    clear b2 b3 b4 b5 p1 p2 p3 p4 e1 r30 r31 r40 r41
    -- found
    refine ⟨_, rfl, _, rfl, z, 1 + (n : Int), n, rfl, by omega, n2, ?_⟩
    -- the word
    have en : (1 + (n : Int) - 1).toNat = n := by omega
    have em : (1 + (n : Int)).toNat = n + 1 := by omega
    have h1 : -(2 ^ (1 + (n : Int) - 1).toNat) ≤ wrapN z n := by rw [en]; exact wrap_lo z n
    have h2 : wrapN z n < 2 ^ (1 + (n : Int) - 1).toNat := by rw [en]; exact wrap_hi z n
    have h3 : (wrapN z n - z) % 2 ^ (1 + (n : Int)).toNat = 0 := by rw [em]; exact wrap_mod z n
    dsimp only
    refine seq_gen (fun σ' H' => σ' = [some (.ref sa), u1, some (.ref pl), some (.int (1 + (n : Int))), some (.int z), some (.int (wrapN z n)), v6, v7, v8, v9, v10, v11, v12, v13, v14, v15, v16, v17, v18, v19] ∧ H' = H5) (fun N hN => ?_) ?_
    · refine ⟨_, rfl, _, _, rfl, rfl, _, rfl, by omega, by omega, _, rfl, _, rfl, _, _, rfl, rfl, _, rfl, ?_⟩
      rw [decide_eq_true h1]
      refine iteT ?_
      refine ⟨_, rfl, _, _, rfl, rfl, _, rfl, by omega, by omega, _, _, rfl, rfl, _, rfl, ?_⟩
      rw [decide_eq_true h2]
      refine iteF ?_
      refine ⟨_, rfl, _, rfl, _, _, rfl, rfl, _, rfl, _, rfl, by omega, by omega, _, _, rfl, rfl, p2pos _, rfl, _, rfl, iteNS (congrArg V.int h3) ?_⟩
      exact hN _ _ ⟨rfl, rfl⟩
    rintro σ H6 ⟨rfl, rfl⟩
    clear h1 h2 h3 en em
    -- most
    refine ⟨_, rfl, pl, rfl, p5, fun m H7 m0 m1 b7 p7 => ?_⟩
    have e7 := b7.same hpl e5
    clear p5 e5
    have mm := m29
    have sm : Sm 100 m := sm29 (by omega) (by omega)
    have mm1 : 1 ≤ m * m := by
      have := Int.mul_le_mul m0 m0 (by decide) (by omega)
      omega
    -- least
    refine ⟨_, rfl, m, rfl, m0, m1, ?_⟩
    have lo := log_lo mm1
    have hi := log_hi mm1
    have lgm : ∀ y : Int, m * m ≤ y → (m * m).natAbs.log2 ≤ y.natAbs.log2 := fun y hy => log_mono mm1 hy
    have sm97 : m.natAbs < 2 ^ 97 := by
      have h : (100000000000000000000000000000 : Nat) < 2 ^ 97 := by decide
      omega
    have L2' : (m * m).natAbs.log2 < 97 + 97 := PySem.Flt.log2_lt_of (by decide) (wide_lt sm97 sm97)
    generalize (m * m).natAbs.log2 = L at *
    have q1 : (((L + 1 : Nat) : Int) + 1 - 1).toNat = L + 1 := by omega
    have q2 : (((L + 1 : Nat) : Int) + 1 - 2).toNat = L := by omega
    have h1 : m * m < 2 ^ (((L + 1 : Nat) : Int) + 1 - 1).toNat := by rw [q1]; exact hi
    have h2 : ¬ m * m < 2 ^ (((L + 1 : Nat) : Int) + 1 - 2).toNat := by rw [q2]; omega
    dsimp only
    refine seq_gen (fun σ' H' => σ' = [some (.ref sa), u1, some (.ref pl), some (.int (1 + (n : Int))), some (.int z), some (.int (wrapN z n)), some (.int m), some (.int (((L + 1 : Nat) : Int) + 1)), v8, v9, v10, v11, v12, v13, v14, v15, v16, v17, v18, v19] ∧ H' = H7) (fun N hN => ?_) ?_
    · refine ⟨_, rfl, _, rfl, _, _, rfl, rfl, sm.mul sm (by decide) (by decide), _, rfl, _, _, rfl, rfl, _, rfl, by omega, by omega, _, _, rfl, rfl, _, rfl, ?_⟩
      rw [decide_eq_true h1]
      refine iteF ?_
      refine ⟨_, rfl, _, rfl, _, _, rfl, rfl, sm.mul sm (by decide) (by decide), _, rfl, _, _, rfl, rfl, _, rfl, by omega, by omega, _, _, rfl, rfl, _, rfl, ?_⟩
      rw [decide_eq_false h2]
      refine iteF ?_
      exact hN _ _ ⟨rfl, rfl⟩
    rintro σ H8 ⟨rfl, rfl⟩
    clear h1 h2 q1 q2
    -- threes
    refine seq_gen (fun σ' H' => ∃ (D1 : Addr) (vs : List V) (u16 : Option V), σ' = [some (.ref sa), u1, some (.ref pl), some (.int (1 + (n : Int))), some (.int z), some (.int (wrapN z n)), some (.int m), some (.int (((L + 1 : Nat) : Int) + 1)), some (.ref D1), v9, v10, v11, v12, v13, v14, v15, u16, v17, v18, v19] ∧ But pl H8 H' ∧ PoolAt pl H' ∧ H' D1 = some (.lst vs) ∧ vs.length = 8 ∧ ∀ v ∈ vs, In3D D1 pl H' m v) (fun N hN => ?_) ?_
    · refine ⟨8, rfl, by decide, by decide, fun D1 nD => ?_⟩
      have pD : D1 ≠ pl := p7.ne nD
      refine lc_range (lo := 0) (n := 8) (fun i H' => But pl H8 H' ∧ PoolAt pl H' ∧ ∃ vs : List V, H' D1 = some (.lst vs) ∧ vs.length = i ∧ ∀ v ∈ vs, In3D D1 pl H' m v)
        ⟨But.of (same_new nD), p7.ex (same_new nD), [], upd_same, rfl, fun v h => by simp at h⟩ ?_ ?_
      · rintro j H9 hj ⟨b9, p9, vs, hD, hvl, hv⟩
        refine ⟨rfl, ?_⟩
        unfold tYes
        dsimp only
        rw [if_pos rfl]
        refine ⟨_, rfl, _, rfl, pl, m, rfl, p9, m0, m1, fun l a b c H10 nl b10 p10 hl ha hb hc => ?_⟩
        have hD10 := b10 _ _ pD hD
        have lD : l ≠ D1 := (ne_of_none hD nl).symm
        have lp : l ≠ pl := p9.ne nl
        refine ⟨vs, hD10, Nat.lt_of_lt_of_le (by omega : vs.length < 9) (by decide), fun b' o nb hb' => ?_, ?_, vs ++ [.ref l], upd_same, by rw [List.length_append, hvl]; rfl, ?_⟩
        · rw [upd_ne (ne_of_none hb' nD)]
          exact b10 _ _ nb (b9 _ _ nb hb')
        · obtain ⟨i6, j6, h6, r6⟩ := p10
          exact ⟨i6, j6, by rw [upd_ne pD.symm]; exact h6, r6⟩
        · intro v hv2
          rcases List.mem_append.mp hv2 with hv2 | hv2
          · exact ((hv v hv2).pl p9 b10).at hD10 But.upd
          · rw [List.mem_singleton] at hv2
            subst hv2
            exact In3D.at hD10 But.upd ⟨l, a, b, c, rfl, lD, lp, hl, ha, hb, hc⟩
      · rintro H9 ⟨b9, p9, vs, hD, hvl, hv⟩
        exact hN _ _ ⟨D1, vs, _, rfl, b9, p9, hD, hvl, hv⟩
    rintro σ H9 ⟨D1, vs, u16, rfl, b9, p9, hD, hvl, hv⟩
    have e9 := b9.same hpl e7
    clear b9 p7 e7 b7
    -- threes + two
    refine seq_gen (fun σ' H' => ∃ (D2 : Addr) (ws : List V), σ' = [some (.ref sa), u1, some (.ref pl), some (.int (1 + (n : Int))), some (.int z), some (.int (wrapN z n)), some (.int m), some (.int (((L + 1 : Nat) : Int) + 1)), some (.ref D2), v9, v10, v11, v12, v13, v14, v15, u16, v17, v18, v19] ∧ Same H9 H' ∧ H' D2 = some (.lst ws) ∧ ∀ v ∈ ws, In3 H' m v) (fun N hN => ?_) ?_
    · refine ⟨_, rfl, (by show 2 ≤ sizeLine; decide), fun t1 n1 => ⟨_, rfl, (by show 2 ≤ sizeLine; decide), fun t2 n2' => ⟨_, rfl, (by show 2 ≤ sizeLine; decide), fun t3 n3 => ⟨(by show 3 ≤ sizeLine; decide), fun l1 nl1 => ?_⟩⟩⟩⟩
      refine ⟨(by show 2 ≤ sizeLine; decide), fun t4 n4 => ⟨_, rfl, (by show 2 ≤ sizeLine; decide), fun t5 n5 => ⟨_, rfl, (by show 2 ≤ sizeLine; decide), fun t6 n6 => ⟨(by show 3 ≤ sizeLine; decide), fun l2 nl2 => ⟨(by show 2 ≤ sizeLine; decide), fun l3 nl3 => ?_⟩⟩⟩⟩⟩
      have g1 := same_new (o := .tup [V.int 0, V.int 0]) n1
      have g2 := same_new (o := .tup [V.int m, V.int 0]) n2'
      have g3 := same_new (o := .tup [V.int 0, V.int m]) n3
      have g4 := same_new (o := .lst [V.ref t1, V.ref t2, V.ref t3]) nl1
      have g5 := same_new (o := .tup [V.int 0, V.int 0]) n4
      have g6 := same_new (o := .tup [V.int 0, V.int m]) n5
      have g7 := same_new (o := .tup [V.int m, V.int 0]) n6
      have g8 := same_new (o := .lst [V.ref t4, V.ref t5, V.ref t6]) nl2
      have g9 := same_new (o := .lst [V.ref l1, V.ref l2]) nl3
      have f8 := g8.trans g9
      have f7 := g7.trans f8
      have f6 := g6.trans f7
      have f5 := g5.trans f6
      have f4 := g4.trans f5
      have f3 := g3.trans f4
      have f2 := g2.trans f3
      have f1 := g1.trans f2
      refine ⟨_, _, _, _, rfl, rfl, f1 _ _ hD, upd_same, ?_, fun D2 nD2 => ?_⟩
      · show vs.length + 2 ≤ sizeLine
        rw [hvl]
        decide
      have gA := same_new (o := .lst (vs ++ [V.ref l1, V.ref l2])) nD2
      refine hN _ _ ⟨D2, _, rfl, f1.trans gA, upd_same, fun v hv2 => ?_⟩
      rcases List.mem_append.mp hv2 with hv2 | hv2
      · exact (hv v hv2).in.ex (f1.trans gA)
      · rcases List.mem_cons.mp hv2 with rfl | hv2
        · exact ⟨l1, _, _, _, rfl, (f5.trans gA) _ _ upd_same, .tp ((f2.trans gA) _ _ upd_same) (by omega) (by omega) (by omega) (by omega), .tp ((f3.trans gA) _ _ upd_same) (by omega) (by omega) (by omega) (by omega), .tp ((f4.trans gA) _ _ upd_same) (by omega) (by omega) (by omega) (by omega)⟩
        · rw [List.mem_singleton] at hv2
          subst hv2
          exact ⟨l2, _, _, _, rfl, (g9.trans gA) _ _ upd_same, .tp ((f6.trans gA) _ _ upd_same) (by omega) (by omega) (by omega) (by omega), .tp ((f7.trans gA) _ _ upd_same) (by omega) (by omega) (by omega) (by omega), .tp ((f8.trans gA) _ _ upd_same) (by omega) (by omega) (by omega) (by omega)⟩
    rintro σ H10 ⟨D2, ws, rfl, eA, hD2, hw⟩
    have e10 := e9.trans eA
    have p10 := p9.ex eA
    clear hv hvl hD eA e9 p9
    -- for a, b, c in threes
    refine seq_gen (fun σ' H' => ∃ v9 v10 v11 : Option V, σ' = [some (.ref sa), u1, some (.ref pl), some (.int (1 + (n : Int))), some (.int z), some (.int (wrapN z n)), some (.int m), some (.int (((L + 1 : Nat) : Int) + 1)), some (.ref D2), v9, v10, v11, v12, v13, v14, v15, u16, v17, v18, v19] ∧ Same H10 H') (fun N hN => ?_) ?_
    · refine ⟨_, rfl, D2, rfl, ⟨_, SqL.of hD2⟩, ?_⟩
      refine for_list (K := K) (a := D2) (xs := ws) (fun j σ' H' => ∃ v9 v10 v11 : Option V, σ' = [some (.ref sa), u1, some (.ref pl), some (.int (1 + (n : Int))), some (.int z), some (.int (wrapN z n)), some (.int m), some (.int (((L + 1 : Nat) : Int) + 1)), some (.ref D2), v9, v10, v11, v12, v13, v14, v15, u16, v17, v18, v19] ∧ Same H10 H') ⟨_, _, _, rfl, Same.refl _⟩ (fun j σ' H' _ h => by
        obtain ⟨_, _, _, _, e⟩ := h
        exact SqL.of (e _ _ hD2)) ?_ ?_
      case refine_2 =>
        rintro σ H' ⟨v9, v10, v11, rfl, e⟩
        exact hN _ _ ⟨_, _, _, rfl, e⟩
      rintro j v σ H' hv ⟨v9, v10, v11, rfl, e⟩
      obtain ⟨l, a, b, c, rfl, hl, ha, hb, hc⟩ := (hw v (List.mem_of_getElem? hv)).ex e
      obtain ⟨qa, ax, ay, rfl, ha, a0, a1, a2, a3⟩ := ha
      obtain ⟨qb, bx, by', rfl, hb, b0, b1, b2, b3⟩ := hb
      obtain ⟨qc, cx, cy, rfl, hc, c0, c1, c2, c3⟩ := hc
      refine ⟨l, _, rfl, SqL.of hl, rfl, _, _, rfl, _, _, rfl, _, _, rfl, rfl, ?_⟩
      have sml : ∀ x : Int, 0 ≤ x → x ≤ m → Sm 100 x := fun x x0 x1 => sm29 (by omega) (by omega)
      refine ⟨_, rfl, _, rfl, _, rfl, 100, .ref qa, .ref qb, .ref qc, ax, ay, bx, by', cx, cy, rfl, ⟨qa, rfl, .inr ha⟩, ⟨qb, rfl, .inr hb⟩, ⟨qc, rfl, .inr hc⟩, by decide, sml _ a0 a1, sml _ a2 a3, sml _ b0 b1, sml _ b2 b3, sml _ c0 c1, sml _ c2 c3, fun H11 e11 => ?_⟩
      refine ⟨_, rfl, _, _, L + 1, rfl, rfl, by omega, _, rfl, ?_⟩
      refine ⟨_, rfl, _, rfl, _, rfl, 100, .ref qa, .ref qb, .ref qc, ax, ay, bx, by', cx, cy, rfl, ⟨qa, rfl, .inr (e11 _ _ ha)⟩, ⟨qb, rfl, .inr (e11 _ _ hb)⟩, ⟨qc, rfl, .inr (e11 _ _ hc)⟩, by decide, sml _ a0 a1, sml _ a2 a3, sml _ b0 b1, sml _ b2 b3, sml _ c0 c1, sml _ c2 c3, fun H12 e12 => ?_⟩
      have hw : wrapN (sideI ax ay bx by' cx cy) (L + 1) = sideI ax ay bx by' cx cy := by
        have l1 := side_le m ax ay bx by' cx cy a0 a1 a2 a3 b0 b1 b2 b3 c0 c1 c2 c3
        have l2 := side_ge m ax ay bx by' cx cy a0 a1 a2 a3 b0 b1 b2 b3 c0 c1 c2 c3
        refine wrap_in _ _ ?_ ?_
        · show -(2 ^ (L + 1)) ≤ (bx - ax) * (cy - ay) - (by' - ay) * (cx - ax)
          omega
        · show (bx - ax) * (cy - ay) - (by' - ay) * (cx - ax) < 2 ^ (L + 1)
          omega
      refine ⟨_, rfl, rfl, _, rfl, iteNS (by rw [hw]) ?_⟩
      exact ⟨_, _, _, rfl, e.trans (e11.trans e12)⟩
    rintro σ H11 ⟨v9, v10, v11, rfl, e11⟩
    have eB := e10.trans e11
    have p11 := p10.ex e11
    clear hw hD2 e10 p10 e11
    -- shown
    refine ⟨_, rfl, m, rfl, m0, m1, fun tv H12 e12 hT => ?_⟩
    have eC := eB.trans e12
    have p12 := p11.ex e12
    clear eB p11 e12
    obtain ⟨tr, dx, l6, w1, w2', w3', rfl, htr, hl6, th0⟩ := id hT
    -- corners_here
    dsimp only
    refine seq_gen (fun σ' H' => ∃ (D3 q1 q2 q3 : Addr) (u17 : Option V), σ' = [some (.ref sa), u1, some (.ref pl), some (.int (1 + (n : Int))), some (.int z), some (.int (wrapN z n)), some (.int m), some (.int (((L + 1 : Nat) : Int) + 1)), some (.ref D2), v9, v10, v11, some (.ref tr), some (.ref D3), v14, v15, u16, u17, v18, v19] ∧ Same H12 H' ∧ H' D3 = some (.lst [.ref q1, .ref q2, .ref q3]) ∧ H' q1 = some (.tup [.int 0, .int 0]) ∧ H' q2 = some (.tup [.int m, .int 0]) ∧ H' q3 = some (.tup [.int 0, .int m])) (fun N hN => ?_) ?_
    · refine ⟨_, rfl, tr, dx, _, rfl, htr, tipF_no _ (by decide +kernel), _, (0, 0), (m, 0), (0, m), rfl, hT, fun lc z1 z2 z3 H13 nlc e13 hlc th => ?_⟩
      refine ⟨lc, rfl, ⟨_, SqL.of hlc⟩, fun D0 nD => ?_⟩
      refine lc_all (K := K) (xs := [z1, z2, z3]) (sl := [17]) (fun i v H => ∃ q, v = .ref q ∧ H q = some (.tup (if i = 0 then [.int 0, .int 0] else if i = 1 then [.int m, .int 0] else [.int 0, .int m]))) (fun i v H H' e h => by obtain ⟨q, h1, h2⟩ := h; exact ⟨q, h1, e _ _ h2⟩) (fun i v H H' D ys hD b h => by obtain ⟨q, h1, h2⟩ := h; exact ⟨q, h1, b _ _ (ne_of h2 hD (by intro z; cases z)) h2⟩) (SqL.of hlc) (by show 3 ≤ 1000; decide) ?_ ?_ nD
      · intro i x H8 hx e8 Q' k'
        have th8 := th.ex e8
        refine ⟨rfl, ?_⟩
        rcases two3 hx with ⟨rfl, rfl⟩ | ⟨rfl, rfl⟩ | ⟨rfl, rfl⟩
        · obtain ⟨q0, d0, rfl, hq0⟩ := id th8.1
          exact ⟨_, rfl, q0, d0, _, rfl, hq0, pair_no _ _, _, _, _, rfl, th8.1, fun q H9 nq e9 hq => k' _ _ e9 ⟨q, rfl, hq⟩⟩
        · obtain ⟨q0, d0, rfl, hq0⟩ := id th8.2.1
          exact ⟨_, rfl, q0, d0, _, rfl, hq0, pair_no _ _, _, _, _, rfl, th8.2.1, fun q H9 nq e9 hq => k' _ _ e9 ⟨q, rfl, hq⟩⟩
        · obtain ⟨q0, d0, rfl, hq0⟩ := id th8.2.2
          exact ⟨_, rfl, q0, d0, _, rfl, hq0, pair_no _ _, _, _, _, rfl, th8.2.2, fun q H9 nq e9 hq => k' _ _ e9 ⟨q, rfl, hq⟩⟩
      · intro H8 vs e8 hv hlen8 hR
        obtain ⟨s1, s2, s3, rfl⟩ := len3' hlen8
        obtain ⟨q1, rfl, r1⟩ := hR 0 s1 rfl
        obtain ⟨q2, rfl, r2⟩ := hR 1 s2 rfl
        obtain ⟨q3, rfl, r3⟩ := hR 2 s3 rfl
        exact hN _ _ ⟨D0, q1, q2, q3, _, rfl, e13.trans e8, hv, r1, r2, r3⟩
    rintro σ H13 ⟨D3, q1, q2, q3, u17, rfl, e13, hD3, c1, c2, c3⟩
    have eD := eC.trans e13
    have p13 := p12.ex e13
    have T13 := hT.ex e13
    have tr13 := e13 _ _ htr
    clear hT htr hl6 th0 eC p12 e13
    -- within
    refine seq_gen (fun σ' H' => ∃ u18 u19 : Option V, σ' = [some (.ref sa), u1, some (.ref pl), some (.int (1 + (n : Int))), some (.int z), some (.int (wrapN z n)), some (.int m), some (.int (((L + 1 : Nat) : Int) + 1)), some (.ref D2), v9, v10, v11, some (.ref tr), some (.ref D3), v14, v15, u16, u17, u18, u19] ∧ Same H13 H') (fun N hN => ?_) ?_
    · refine ⟨_, rfl, D3, rfl, ⟨_, SqL.of hD3⟩, fun D0 nD => ?_⟩
      refine lc_filt (K := K) (xs := [.ref q1, .ref q2, .ref q3]) (sl := [18, 19]) (fun _ => false) (.int 1) (SqL.of hD3) (by show 3 ≤ 1000; decide) ?_ ?_ nD
      · intro j x H14 hx e14 Nx Q' kF kT
        obtain ⟨q, X, Y, rfl, hq, X0, X1, Y0, Y1⟩ : ∃ (q : Addr) (X Y : Int), x = V.ref q ∧ H14 q = some (.tup [.int X, .int Y]) ∧ 0 ≤ X ∧ X ≤ m ∧ 0 ≤ Y ∧ Y ≤ m := by
          rcases two3 hx with ⟨_, rfl⟩ | ⟨_, rfl⟩ | ⟨_, rfl⟩
          · exact ⟨q1, 0, 0, rfl, e14 _ _ c1, by omega, by omega, by omega, by omega⟩
          · exact ⟨q2, m, 0, rfl, e14 _ _ c2, by omega, by omega, by omega, by omega⟩
          · exact ⟨q3, 0, m, rfl, e14 _ _ c3, by omega, by omega, by omega, by omega⟩
        refine ⟨q, _, rfl, SqT.of hq, rfl, _, _, rfl, _, _, rfl, rfl, rfl, ?_⟩
        refine ⟨_, rfl, _, _, rfl, rfl, _, rfl, ?_⟩
        rw [decide_eq_true X0]
        refine iteT ?_
        refine ⟨_, rfl, _, _, rfl, rfl, _, rfl, ?_⟩
        rw [decide_eq_true X1]
        refine iteT ?_
        refine ⟨_, rfl, _, _, rfl, rfl, _, rfl, ?_⟩
        rw [decide_eq_true Y0]
        refine iteT ?_
        refine ⟨_, rfl, _, _, rfl, rfl, _, rfl, ?_⟩
        rw [decide_eq_true Y1]
        exact iteF (kF rfl _ (Same.refl _))
      · intro H14 e14 hD
        have hD' : H14 D0 = some (.lst []) := hD
        refine ⟨(by show 0 ≤ sizeLine; decide), fun z nz => ?_⟩
        have g7 := same_new (o := .lst []) nz
        refine ⟨.list [], .list [], .lst (SqL.of (g7 _ _ hD')) .nil, .lst (SqL.of upd_same) .nil, by decide +kernel, by decide +kernel, _, rfl, ?_⟩
        rw [sh_self (by decide +kernel)]
        refine iteF ?_
        exact hN _ _ ⟨_, _, rfl, e14.trans g7⟩
    rintro σ H14 ⟨u18, u19, rfl, e14⟩
    have eE := eD.trans e14
    have T14 := T13.ex e14
    have tr14 := e14 _ _ tr13
    clear c1 c2 c3 hD3 T13 tr13 eD p13 e14
    -- one bit less; one more
    refine seq_gen (fun σ' H' => σ' = [some (.ref sa), u1, some (.ref pl), some (.int (1 + (n : Int))), some (.int z), some (.int (wrapN z n)), some (.int m), some (.int (((L + 1 : Nat) : Int) + 1)), some (.ref D2), v9, v10, v11, some (.ref tr), some (.ref D3), v14, v15, u16, u17, u18, u19] ∧ Same H14 H') (fun N hN => ?_) ?_
    · have s0 : Sm 100 0 := sm29 (by decide) (by decide)
      refine ⟨_, rfl, tr, dx, _, rfl, tr14, 100, _, (0, 0), (m, 0), (0, m), rfl, T14, by decide, ⟨s0, s0⟩, ⟨sm, s0⟩, ⟨s0, sm⟩, fun H15 e15 => ?_⟩
      rw [tri_area]
      refine ⟨_, rfl, _, _, rfl, rfl, _, _, L, rfl, by omega, by omega, _, rfl, rfl, _, rfl, ?_⟩
      rw [int_eqF (sg_neg (wrap_out (m * m) L lo (by rw [← p2succ]; exact hi)))]
      refine iteF ?_
      refine ⟨_, rfl, _, _, rfl, rfl, ⟨by decide, by decide, by decide⟩, _, _, rfl, rfl, _, rfl, ?_⟩
      refine ite2 (fun hm => ?_) (fun hm => ?_)
      · have hm' : m < M29 := by
          have := of_decide_eq_true hm
          rw [p29] at this
          exact this
        refine ⟨_, rfl, _, _, rfl, rfl, m + 1, rfl, by omega, by omega, _, rfl, _, _, rfl, rfl, _, rfl, ?_⟩
        have hle : L ≤ ((m + 1) * (m + 1)).natAbs.log2 := by
          refine lgm _ ?_
          have := Int.mul_le_mul (show m ≤ m + 1 by omega) (show m ≤ m + 1 by omega) (by omega) (by omega)
          exact this
        rw [decide_eq_false (by omega)]
        refine iteF ?_
        exact hN _ _ ⟨rfl, e15⟩
      · exact hN _ _ ⟨rfl, e15⟩
    rintro σ H15 ⟨rfl, e15⟩
    have eF := eE.trans e15
    clear T14 tr14 eE e15
    -- odd
    refine ⟨(by show 3 ≤ sizeLine; decide), fun lo' nlo => ⟨lo', rfl, ⟨_, SqL.of upd_same⟩, ?_⟩⟩
    have gO := same_new (o := .lst [V.non, V.bl true, V.str "1"]) nlo
    refine for_list (K := K) (a := lo') (xs := [.non, .bl true, .str "1"]) (fun j σ' H' => ∃ v14 : Option V, σ' = [some (.ref sa), u1, some (.ref pl), some (.int (1 + (n : Int))), some (.int z), some (.int (wrapN z n)), some (.int m), some (.int (((L + 1 : Nat) : Int) + 1)), some (.ref D2), v9, v10, v11, some (.ref tr), some (.ref D3), v14, v15, u16, u17, u18, u19] ∧ Same (upd H15 lo' (.lst [V.non, V.bl true, V.str "1"])) H') ⟨_, rfl, Same.refl _⟩ (fun j σ' H' _ h => by
      obtain ⟨_, _, e⟩ := h
      exact SqL.of (e _ _ upd_same)) ?_ ?_
    case refine_2 =>
      rintro σ H' ⟨v14, rfl, e⟩
      exact ⟨_, _, _, _, _, _, _, _, _, _, _, _, _, _, _, _, _, _, _, rfl, eH.trans (eF.trans (gO.trans e))⟩
    rintro j v σ H16 hv ⟨v14, rfl, e16⟩
    obtain ⟨dd, O⟩ := odd3 hv
    refine ⟨_, rfl, _, rfl, 0, v, v, v, dd, rfl, O.sc, O.sc, .inl ⟨rfl, .inl ⟨O.w, rfl⟩⟩, O.sh, O.dp _ _, fun H17 e17 => ?_⟩
    refine ⟨_, rfl, v, dd, rfl, O.dp _ _, O.sh.s, O.sh.nd, O.sh.dp, O.sh.z, rfl, _, rfl, iteNS rfl ?_⟩
    refine ⟨_, rfl, 0, .int 1, v, v, dd, rfl, trivial, O.sc, .inl ⟨rfl, .inr ⟨rfl, O.b, rfl⟩⟩, O.sh, O.dp _ _, fun H18 e18 => ?_⟩
    refine ⟨_, rfl, v, dd, rfl, O.dp _ _, O.sh.s, O.sh.nd, O.sh.dp, O.sh.z, rfl, _, rfl, iteNS rfl ?_⟩
    refine ⟨_, rfl, 1, v, .int 0, v, dd, rfl, O.sc, trivial, .inr ⟨.inl rfl, O.m, rfl⟩, O.sh, O.dp _ _, fun H19 e19 => ?_⟩
    refine ⟨_, rfl, v, dd, rfl, O.dp _ _, O.sh.s, O.sh.nd, O.sh.dp, O.sh.z, rfl, _, rfl, iteNS rfl ?_⟩
    refine ⟨_, rfl, 2, v, .int 0, v, dd, rfl, O.sc, trivial, .inr ⟨.inr rfl, O.m, rfl⟩, O.sh, O.dp _ _, fun H20 e20 => ?_⟩
    refine ⟨_, rfl, v, dd, rfl, O.dp _ _, O.sh.s, O.sh.nd, O.sh.dp, O.sh.z, rfl, _, rfl, iteNS rfl ?_⟩
    exact ⟨_, rfl, e16.trans (e17.trans (e18.trans (e19.trans e20)))⟩
end
end Fo
set_option Elab.async false
set_option linter.all false
set_option maxRecDepth 100000
set_option maxHeartbeats 0
namespace Fo
open PySem L2
theorem all_mk {l : PySem.W.OpenLaw} {w : World} {K : PySem.W.Frag} {h : Heap} {mg : Str → Option Value} {fa C CT CF CI pAr fW fI fP fA fO fS fTI fCo fEd fAr fEq fAd fPm fWr fCh fLe fSh fH fD fPw fSg fMo fPo fR fZ CNu gNu NNu cdaNu ccNu : Addr} {tMB tMN : Tok} (X : K.In h) (G : h.Ns mainGlobals mg) (hfa : mg "law" = some (.ref fa))
    {rsA : List Value}
    {nmNu qnNu quNu msNu fiNu : Str} {bsNu bmNu subNu : List Value} {snNu : List Str} {abNu : Bool} {colNu : Option Bool} {ddNu odgNu angNu cddNu cldNu : Option Addr} {e0Nu e1Nu e2Nu e3Nu e5Nu : Option Value} {ocgNu kVgNu dcgNu pmgNu ctgNu cclNu clNu : Value} {slgNu ccsNu cslNu : Array (Option Value)} {vsNu : Array Value} {p1Nu p2Nu r1Nu r2Nu r3Nu r4Nu r5Nu r6Nu q1Nu q2Nu q3Nu q4Nu : Pos} {jNu : Nat} {tfNu : Tok}
    {odW anW odI anI odP anP odA anA odO anO odS anS odTI anTI odCo anCo odEd anEd odAr anAr odEq anEq odAd anAd odPm anPm odWr anWr odCh anCh odLe anLe odSh anSh odH anH odD anD odPw anPw odSg anSg odMo anMo odPo anPo odR anR odZ anZ : Option Addr} {slW slI slP slA slO slS slTI slCo slEd slAr slEq slAd slPm slWr slCh slLe slSh slH slD slPw slSg slMo slPo slR slZ : Array (Option Value)} {ocW kVW dcW pmW cdW ctW ocI kVI dcI pmI cdI ctI ocP kVP dcP pmP cdP ctP ocA kVA dcA pmA cdA ctA ocO kVO dcO pmO cdO ctO ocS kVS dcS pmS cdS ctS ocTI kVTI dcTI pmTI cdTI ctTI ocCo kVCo dcCo pmCo cdCo ctCo ocEd kVEd dcEd pmEd cdEd ctEd ocAr kVAr dcAr pmAr cdAr ctAr ocEq kVEq dcEq pmEq cdEq ctEq ocAd kVAd dcAd pmAd cdAd ctAd ocPm kVPm dcPm pmPm cdPm ctPm ocWr kVWr dcWr pmWr cdWr ctWr ocCh kVCh dcCh pmCh cdCh ctCh ocLe kVLe dcLe pmLe cdLe ctLe ocSh kVSh dcSh pmSh cdSh ctSh ocH kVH dcH pmH cdH ctH ocD kVD dcD pmD cdD ctD ocPw kVPw dcPw pmPw cdPw ctPw ocSg kVSg dcSg pmSg cdSg ctSg ocMo kVMo dcMo pmMo cdMo ctMo ocPo kVPo dcPo pmPo cdPo ctPo ocR kVR dcR pmR cdR ctR ocZ kVZ dcZ pmZ cdZ ctZ : Value}
    (aC : PySem.W.nsIn K mainGlobals "Point" = some (some (.ref C)))
    (aCT : PySem.W.nsIn K mainGlobals "Triangle" = some (some (.ref CT)))
    (aW : PySem.W.nsIn K mainGlobals "is_whole" = some (some (.ref fW)))
    (lW : K.lookup fW = some ⟨ocW, odW, .func (PySem.W.fnOf "is_whole" "is_whole" (defArgs sWhole) (defBody sWhole) (defScope sWhole) .none kVW dcW pmW anW cdW ctW), slW⟩)
    (cW : PySem.W.codeIn K cdW "is_whole" = true)
    (kW : PySem.W.keepIn K (.ref fW) = true)
    (aI : PySem.W.findIn K (.ref C) "__init__" = some (some (.ref fI)))
    (iI : PySem.W.isFn K (.ref fI) = true)
    (lI : K.lookup fI = some ⟨ocI, odI, .func (PySem.W.fnOf "__init__" "Point.__init__" (defArgs sInit) (defBody sInit) (defScope sInit) .none kVI dcI pmI anI cdI ctI), slI⟩)
    (cI : PySem.W.codeIn K cdI "Point.__init__" = true)
    (kI : PySem.W.keepIn K (.ref fI) = true)
    (aP : PySem.W.nsIn K mainGlobals "is_point" = some (some (.ref fP)))
    (lP : K.lookup fP = some ⟨ocP, odP, .func (PySem.W.fnOf "is_point" "is_point" (defArgs sIsPoint) (defBody sIsPoint) (defScope sIsPoint) .none kVP dcP pmP anP cdP ctP), slP⟩)
    (cP : PySem.W.codeIn K cdP "is_point" = true)
    (kP : PySem.W.keepIn K (.ref fP) = true)
    (aA : PySem.W.nsIn K mainGlobals "as_point" = some (some (.ref fA)))
    (lA : K.lookup fA = some ⟨ocA, odA, .func (PySem.W.fnOf "as_point" "as_point" (defArgs sAsPoint) (defBody sAsPoint) (defScope sAsPoint) .none kVA dcA pmA anA cdA ctA), slA⟩)
    (cA : PySem.W.codeIn K cdA "as_point" = true)
    (kA : PySem.W.keepIn K (.ref fA) = true)
    (aO : PySem.W.nsIn K mainGlobals "operand" = some (some (.ref fO)))
    (lO : K.lookup fO = some ⟨ocO, odO, .func (PySem.W.fnOf "operand" "operand" (defArgs sOperand) (defBody sOperand) (defScope sOperand) .none kVO dcO pmO anO cdO ctO), slO⟩)
    (cO : PySem.W.codeIn K cdO "operand" = true)
    (kO : PySem.W.keepIn K (.ref fO) = true)
    (aS : PySem.W.nsIn K mainGlobals "side" = some (some (.ref fS)))
    (lS : K.lookup fS = some ⟨ocS, odS, .func (PySem.W.fnOf "side" "side" (defArgs sSide) (defBody sSide) (defScope sSide) .none kVS dcS pmS anS cdS ctS), slS⟩)
    (cS : PySem.W.codeIn K cdS "side" = true)
    (kS : PySem.W.keepIn K (.ref fS) = true)
    (aTI : PySem.W.findIn K (.ref CT) "__init__" = some (some (.ref fTI)))
    (iTI : PySem.W.isFn K (.ref fTI) = true)
    (lTI : K.lookup fTI = some ⟨ocTI, odTI, .func (PySem.W.fnOf "__init__" "Triangle.__init__" (defArgs sTInit) (defBody sTInit) (defScope sTInit) .none kVTI dcTI pmTI anTI cdTI ctTI), slTI⟩)
    (cTI : PySem.W.codeIn K cdTI "Triangle.__init__" = true)
    (kTI : PySem.W.keepIn K (.ref fTI) = true)
    (aCo : PySem.W.findIn K (.ref CT) "corners" = some (some (.ref fCo)))
    (iCo : PySem.W.isFn K (.ref fCo) = true)
    (lCo : K.lookup fCo = some ⟨ocCo, odCo, .func (PySem.W.fnOf "corners" "Triangle.corners" (defArgs sCorners) (defBody sCorners) (defScope sCorners) .none kVCo dcCo pmCo anCo cdCo ctCo), slCo⟩)
    (cCo : PySem.W.codeIn K cdCo "Triangle.corners" = true)
    (kCo : PySem.W.keepIn K (.ref fCo) = true)
    (aEd : PySem.W.findIn K (.ref CT) "edges" = some (some (.ref fEd)))
    (iEd : PySem.W.isFn K (.ref fEd) = true)
    (lEd : K.lookup fEd = some ⟨ocEd, odEd, .func (PySem.W.fnOf "edges" "Triangle.edges" (defArgs sEdges) (defBody sEdges) (defScope sEdges) .none kVEd dcEd pmEd anEd cdEd ctEd), slEd⟩)
    (cEd : PySem.W.codeIn K cdEd "Triangle.edges" = true)
    (kEd : PySem.W.keepIn K (.ref fEd) = true)
    (aAr : PySem.W.findIn K (.ref CT) "area2" = some (some (.ref pAr)))
    (gAr : PySem.W.specialIn K (.ref pAr) "__get__" = some (some (.builtin "property.__get__")))
    (tAr : PySem.W.takesIn K (.ref pAr) = some true)
    (rAr : PySem.W.recIn K pAr "property" = some (.ref fAr :: rsA))
    (lAr : K.lookup fAr = some ⟨ocAr, odAr, .func (PySem.W.fnOf "area2" "Triangle.area2" (defArgs sArea) (defBody sArea) (defScope sArea) .none kVAr dcAr pmAr anAr cdAr ctAr), slAr⟩)
    (cAr : PySem.W.codeIn K cdAr "Triangle.area2" = true)
    (kAr : PySem.W.keepIn K (.ref fAr) = true)
    (aEq : PySem.W.findIn K (.ref C) "__eq__" = some (some (.ref fEq)))
    (iEq : PySem.W.isFn K (.ref fEq) = true)
    (lEq : K.lookup fEq = some ⟨ocEq, odEq, .func (PySem.W.fnOf "__eq__" "Point.__eq__" (defArgs sEq) (defBody sEq) (defScope sEq) .none kVEq dcEq pmEq anEq cdEq ctEq), slEq⟩)
    (cEq : PySem.W.codeIn K cdEq "Point.__eq__" = true)
    (kEq : PySem.W.keepIn K (.ref fEq) = true)
    (aAd : PySem.W.findIn K (.ref C) "__add__" = some (some (.ref fAd)))
    (iAd : PySem.W.isFn K (.ref fAd) = true)
    (lAd : K.lookup fAd = some ⟨ocAd, odAd, .func (PySem.W.fnOf "__add__" "Point.__add__" (defArgs sAdd) (defBody sAdd) (defScope sAdd) .none kVAd dcAd pmAd anAd cdAd ctAd), slAd⟩)
    (cAd : PySem.W.codeIn K cdAd "Point.__add__" = true)
    (kAd : PySem.W.keepIn K (.ref fAd) = true)
    (aPm : PySem.W.findIn K (.ref C) "pair" = some (some (.ref fPm)))
    (iPm : PySem.W.isFn K (.ref fPm) = true)
    (lPm : K.lookup fPm = some ⟨ocPm, odPm, .func (PySem.W.fnOf "pair" "Point.pair" (defArgs sPairM) (defBody sPairM) (defScope sPairM) .none kVPm dcPm pmPm anPm cdPm ctPm), slPm⟩)
    (cPm : PySem.W.codeIn K cdPm "Point.pair" = true)
    (kPm : PySem.W.keepIn K (.ref fPm) = true)
    (aWr : PySem.W.nsIn K mainGlobals "wrapped" = some (some (.ref fWr)))
    (lWr : K.lookup fWr = some ⟨ocWr, odWr, .func (PySem.W.fnOf "wrapped" "wrapped" (defArgs sWrap) (defBody sWrap) (defScope sWrap) .none kVWr dcWr pmWr anWr cdWr ctWr), slWr⟩)
    (cWr : PySem.W.codeIn K cdWr "wrapped" = true)
    (kWr : PySem.W.keepIn K (.ref fWr) = true)
    (aCh : PySem.W.nsIn K mainGlobals "check_most" = some (some (.ref fCh)))
    (lCh : K.lookup fCh = some ⟨ocCh, odCh, .func (PySem.W.fnOf "check_most" "check_most" (defArgs sChk) (defBody sChk) (defScope sChk) .none kVCh dcCh pmCh anCh cdCh ctCh), slCh⟩)
    (cCh : PySem.W.codeIn K cdCh "check_most" = true)
    (kCh : PySem.W.keepIn K (.ref fCh) = true)
    (aLe : PySem.W.nsIn K mainGlobals "least_bits" = some (some (.ref fLe)))
    (lLe : K.lookup fLe = some ⟨ocLe, odLe, .func (PySem.W.fnOf "least_bits" "least_bits" (defArgs sLeast) (defBody sLeast) (defScope sLeast) .none kVLe dcLe pmLe anLe cdLe ctLe), slLe⟩)
    (cLe : PySem.W.codeIn K cdLe "least_bits" = true)
    (kLe : PySem.W.keepIn K (.ref fLe) = true)
    (aSh : PySem.W.nsIn K mainGlobals "shows_bits" = some (some (.ref fSh)))
    (lSh : K.lookup fSh = some ⟨ocSh, odSh, .func (PySem.W.fnOf "shows_bits" "shows_bits" (defArgs sShows) (defBody sShows) (defScope sShows) .none kVSh dcSh pmSh anSh cdSh ctSh), slSh⟩)
    (cSh : PySem.W.codeIn K cdSh "shows_bits" = true)
    (kSh : PySem.W.keepIn K (.ref fSh) = true)
    (aH : PySem.W.nsIn K mainGlobals "_law_hand" = some (some (.ref fH)))
    (lH : K.lookup fH = some ⟨ocH, odH, .func (PySem.W.fnOf "_law_hand" "_law_hand" (defArgs sHand) (defBody sHand) (defScope sHand) .none kVH dcH pmH anH cdH ctH), slH⟩)
    (cH : PySem.W.codeIn K cdH "_law_hand" = true)
    (kH : PySem.W.keepIn K (.ref fH) = true)
    (aD : PySem.W.nsIn K mainGlobals "_law_draw" = some (some (.ref fD)))
    (lD : K.lookup fD = some ⟨ocD, odD, .func (PySem.W.fnOf "_law_draw" "_law_draw" (defArgs sDraw) (defBody sDraw) (defScope sDraw) .none kVD dcD pmD anD cdD ctD), slD⟩)
    (cD : PySem.W.codeIn K cdD "_law_draw" = true)
    (kD : PySem.W.keepIn K (.ref fD) = true)
    (aPw : PySem.W.nsIn K mainGlobals "_law_power" = some (some (.ref fPw)))
    (lPw : K.lookup fPw = some ⟨ocPw, odPw, .func (PySem.W.fnOf "_law_power" "_law_power" (defArgs sPower) (defBody sPower) (defScope sPower) .none kVPw dcPw pmPw anPw cdPw ctPw), slPw⟩)
    (cPw : PySem.W.codeIn K cdPw "_law_power" = true)
    (kPw : PySem.W.keepIn K (.ref fPw) = true)
    (aSg : PySem.W.nsIn K mainGlobals "_law_sign" = some (some (.ref fSg)))
    (lSg : K.lookup fSg = some ⟨ocSg, odSg, .func (PySem.W.fnOf "_law_sign" "_law_sign" (defArgs sSign) (defBody sSign) (defScope sSign) .none kVSg dcSg pmSg anSg cdSg ctSg), slSg⟩)
    (cSg : PySem.W.codeIn K cdSg "_law_sign" = true)
    (kSg : PySem.W.keepIn K (.ref fSg) = true)
    (aMo : PySem.W.nsIn K mainGlobals "_law_most" = some (some (.ref fMo)))
    (lMo : K.lookup fMo = some ⟨ocMo, odMo, .func (PySem.W.fnOf "_law_most" "_law_most" (defArgs sMost) (defBody sMost) (defScope sMost) .none kVMo dcMo pmMo anMo cdMo ctMo), slMo⟩)
    (cMo : PySem.W.codeIn K cdMo "_law_most" = true)
    (kMo : PySem.W.keepIn K (.ref fMo) = true)
    (aPo : PySem.W.nsIn K mainGlobals "_law_points" = some (some (.ref fPo)))
    (lPo : K.lookup fPo = some ⟨ocPo, odPo, .func (PySem.W.fnOf "_law_points" "_law_points" (defArgs sPts) (defBody sPts) (defScope sPts) .none kVPo dcPo pmPo anPo cdPo ctPo), slPo⟩)
    (cPo : PySem.W.codeIn K cdPo "_law_points" = true)
    (kPo : PySem.W.keepIn K (.ref fPo) = true)
    (aR : PySem.W.nsIn K mainGlobals "_law_refused" = some (some (.ref fR)))
    (lR : K.lookup fR = some ⟨ocR, odR, .func (PySem.W.fnOf "_law_refused" "_law_refused" (defArgs sRefused) (defBody sRefused) (defScope sRefused) .none kVR dcR pmR anR cdR ctR), slR⟩)
    (cR : PySem.W.codeIn K cdR "_law_refused" = true)
    (kR : PySem.W.keepIn K (.ref fR) = true)
    (aZ : PySem.W.nsIn K mainGlobals "law" = some (some (.ref fZ)))
    (lZ : K.lookup fZ = some ⟨ocZ, odZ, .func (PySem.W.fnOf "law" "law" (defArgs sLaw) (defBody sLaw) (defScope sLaw) .none kVZ dcZ pmZ anZ cdZ ctZ), slZ⟩)
    (cZ : PySem.W.codeIn K cdZ "law" = true)
    (kZ : PySem.W.keepIn K (.ref fZ) = true)
    (pg : PySem.W.plainGet K C Str.empty = true)
    (hd : PySem.W.hasDictIn K C = true)
    (po : PySem.W.plainOver K C = true)
    (sa : PySem.W.findIn K (.ref C) "__setattr__" = some (some (.builtin "object.__setattr__")))
    (mk : PySem.W.makesIn K C = true)
    (kc : PySem.W.keepIn K (.ref C) = true)
    (nX : PySem.W.findIn K (.ref C) "x" = some none)
    (nY : PySem.W.findIn K (.ref C) "y" = some none)
    (ha : PySem.W.findIn K (.ref C) "__class__" = some (some (.builtin "object.__class__")))
    (hn : PySem.W.specialIn K (.builtin "object.__class__") "__get__" = some (some (.builtin "getset_descriptor.__get__")))
    (htk : PySem.W.takesIn K (.builtin "object.__class__") = some true)
    (hm : PySem.W.mroIn K C (.type "object") = some true)
    (kTC : PySem.W.kitOne K (.type "tuple") (.ref C) = some false)
    (kCC : PySem.W.kitOne K (.ref C) (.ref C) = some true)
    (sf : PySem.W.selfFirst K C = true)
    (pgT : PySem.W.plainGet K CT Str.empty = true)
    (hdT : PySem.W.hasDictIn K CT = true)
    (poT : PySem.W.plainOver K CT = true)
    (saT : PySem.W.findIn K (.ref CT) "__setattr__" = some (some (.builtin "object.__setattr__")))
    (mkT : PySem.W.makesIn K CT = true)
    (kcT : PySem.W.keepIn K (.ref CT) = true)
    (nTT : PySem.W.findIn K (.ref CT) "tips" = some none)
    (haT : PySem.W.findIn K (.ref CT) "__class__" = some (some (.builtin "object.__class__")))
    (hmT : PySem.W.mroIn K CT (.type "object") = some true)
    (kLT : PySem.W.kitOne K (.type "list") (.ref CT) = some false)
    (kTT : PySem.W.kitOne K (.ref CT) (.ref CT) = some true)
    (z_isinstance : PySem.W.nsIn K mainGlobals "isinstance" = some none)
    (z_len : PySem.W.nsIn K mainGlobals "len" = some none)
    (z_int : PySem.W.nsIn K mainGlobals "int" = some none)
    (z_bool : PySem.W.nsIn K mainGlobals "bool" = some none)
    (z_tuple : PySem.W.nsIn K mainGlobals "tuple" = some none)
    (z_range : PySem.W.nsIn K mainGlobals "range" = some none)
    (z_max : PySem.W.nsIn K mainGlobals "max" = some none)
    (z_min : PySem.W.nsIn K mainGlobals "min" = some none)
    (z_list : PySem.W.nsIn K mainGlobals "list" = some none)
    (z_all : PySem.W.nsIn K mainGlobals "all" = some none)
    (z_repr : PySem.W.nsIn K mainGlobals "repr" = some none)
    (z_super : PySem.W.nsIn K mainGlobals "super" = some none)
    (aMB : PySem.W.nsIn K mainGlobals "MOST_BITS" = some (some (.int 200 tMB)))
    (aMN : PySem.W.nsIn K mainGlobals "MOST_NUMBER" = some (some (.int 100000000000000000000000000000 tMN)))
    (aCF : PySem.W.nsIn K mainGlobals "FillError" = some (some (.ref CF)))
    (aCI : PySem.W.nsIn K mainGlobals "InvalidPoint" = some (some (.ref CI)))
    (tpI : PySem.W.nsIn K cStatics "thirdparty.any" = some none)
    (tsI : (l.prog.main.scope.names.lookup ("super" : Str)).isSome = false)
    (aCNu : PySem.W.nsIn K mainGlobals "InvalidNumber" = some (some (.ref CNu)))
    (lCNu : K.lookup CNu = some (PySem.excClassObj nmNu qnNu CNu NNu bsNu bmNu true snNu subNu abNu colNu ddNu e0Nu e1Nu e2Nu e3Nu e5Nu "ValueError.__new__"))
    (rvNu : PySem.HandSPX.refsVE bmNu = true)
    (saNu : PySem.W.findIn K (.ref CNu) "__setattr__" = some (some (.builtin "object.__setattr__")))
    (gaNu : PySem.W.findIn K (.ref CNu) "__getattribute__" = some (some (.builtin "BaseException.__getattribute__")))
    (ggNu : PySem.W.findIn K (.ref CNu) "__getattr__" = some none)
    (noNu : PySem.W.findIn K (.ref CNu) (Str.ofString "number") = some none)
    (inNu : PySem.W.findIn K (.ref CNu) "__init__" = some (some (.ref gNu)))
    (tyNu : PySem.W.typeIn K (.ref gNu) = some (.type "function"))
    (kpNu : PySem.W.keepIn K (.ref CNu) = true)
    (exNu : PySem.W.subIn K (.ref CNu) (.type "BaseException") = some true)
    (tcNu : PySem.W.typeIn K (.ref CNu) = some (.type "type"))
    (hdNu : PySem.W.hasDictIn K CNu = true)
    (suNu : PySem.W.ks_superIn K CNu CNu "__init__" = some (some (.builtin "ValueError.__init__")))
    (veNu : PySem.W.subIn K (.ref CNu) (.type "ValueError") = some true)
    (mrNu : PySem.W.mroIn K CNu (.ref CNu) = some true)
    (lgNu : K.lookup gNu = some ⟨ocgNu, odgNu, .func (PySem.W.ksFn "__init__" quNu (FoX_number.xA p1Nu p2Nu) (FoX_number.xB msNu r1Nu r2Nu r3Nu r4Nu r5Nu r6Nu q1Nu q2Nu q3Nu q4Nu jNu) FoX_number.xS .none kVgNu dcgNu pmgNu angNu (.ref cdaNu) ctgNu ccNu), slgNu⟩)
    (cgNu : PySem.W.codeIn K (.ref cdaNu) quNu = true)
    (lcNu : K.lookup cdaNu = some ⟨cclNu, cddNu, .fields vsNu, ccsNu⟩)
    (vfNu : vsNu[2]? = some (.str fiNu tfNu))
    (flNu : ((l.prog.main.file : Str) == fiNu) = true)
    (lnNu : (r3Nu.endLine == r5Nu.line) = true)
    (leNu : K.lookup ccNu = some ⟨clNu, cldNu, .cell (some (.ref CNu)), cslNu⟩)
    (caNu : PySem.W.findIn K (.ref CNu) "__class__" = some (some (.builtin "object.__class__")))
    (moNu : PySem.W.mroIn K CNu (.type "object") = some true)
    (emNu : PySem.W.exmOne K (.ref CNu) (.ref CF) = some true)
    (ksNu : PySem.W.kitOne K (.ref CNu) (.ref CNu) = some true)
    (k2N : PySem.W.kitOne K (.ref CNu) (.ref CI) = some false) :
    ∃ fd : FuncData, (∀ (s : Shared) (v : Value), BindsTo s fd ⟨[v], []⟩ [("script", v)]) ∧ ∀ base : Heap, K.In base → base.Ns mainGlobals mg → FnG l.prog w K mg base CX0 11 fa fd ["script"] (spLaw K) := by
  have e := hfa.symm.trans (PySem.W.mg_of X G aZ)
  cases e
  have FW := fun_mk (st := sWhole) lW cW kW
  have bW := FW.binds (ps := ["value"]) fun _ _ _ _ _ _ us hl => match us, hl with | [_], _ => rfl
  have FI := fun_mk (st := sInit) lI cI kI
  have bI := FI.binds (ps := ["self", "x", "y"]) fun _ _ _ _ _ _ us hl => match us, hl with | [_, _, _], _ => rfl
  have FP := fun_mk (st := sIsPoint) lP cP kP
  have bP := FP.binds (ps := ["thing"]) fun _ _ _ _ _ _ us hl => match us, hl with | [_], _ => rfl
  have FA := fun_mk (st := sAsPoint) lA cA kA
  have bA := FA.binds (ps := ["thing"]) fun _ _ _ _ _ _ us hl => match us, hl with | [_], _ => rfl
  have FO := fun_mk (st := sOperand) lO cO kO
  have bO := FO.binds (ps := ["thing"]) fun _ _ _ _ _ _ us hl => match us, hl with | [_], _ => rfl
  have FS := fun_mk (st := sSide) lS cS kS
  have bS := FS.binds (ps := ["a", "b", "point"]) fun _ _ _ _ _ _ us hl => match us, hl with | [_, _, _], _ => rfl
  have FTI := fun_mk (st := sTInit) lTI cTI kTI
  have bTI := FTI.binds (ps := ["self", "a", "b", "c"]) fun _ _ _ _ _ _ us hl => match us, hl with | [_, _, _, _], _ => rfl
  have FCo := fun_mk (st := sCorners) lCo cCo kCo
  have bCo := FCo.binds (ps := ["self"]) fun _ _ _ _ _ _ us hl => match us, hl with | [_], _ => rfl
  have FEd := fun_mk (st := sEdges) lEd cEd kEd
  have bEd := FEd.binds (ps := ["self"]) fun _ _ _ _ _ _ us hl => match us, hl with | [_], _ => rfl
  have FAr := fun_mk (st := sArea) lAr cAr kAr
  have bAr := FAr.binds (ps := ["self"]) fun _ _ _ _ _ _ us hl => match us, hl with | [_], _ => rfl
  have FEq := fun_mk (st := sEq) lEq cEq kEq
  have bEq := FEq.binds (ps := ["self", "other"]) fun _ _ _ _ _ _ us hl => match us, hl with | [_, _], _ => rfl
  have FAd := fun_mk (st := sAdd) lAd cAd kAd
  have bAd := FAd.binds (ps := ["self", "other"]) fun _ _ _ _ _ _ us hl => match us, hl with | [_, _], _ => rfl
  have FPm := fun_mk (st := sPairM) lPm cPm kPm
  have bPm := FPm.binds (ps := ["self"]) fun _ _ _ _ _ _ us hl => match us, hl with | [_], _ => rfl
  have FWr := fun_mk (st := sWrap) lWr cWr kWr
  have bWr := FWr.binds (ps := ["number", "bits"]) fun _ _ _ _ _ _ us hl => match us, hl with | [_, _], _ => rfl
  have FCh := fun_mk (st := sChk) lCh cCh kCh
  have bCh := FCh.binds (ps := ["most"]) fun _ _ _ _ _ _ us hl => match us, hl with | [_], _ => rfl
  have FLe := fun_mk (st := sLeast) lLe cLe kLe
  have bLe := FLe.binds (ps := ["most"]) fun _ _ _ _ _ _ us hl => match us, hl with | [_], _ => rfl
  have FSh := fun_mk (st := sShows) lSh cSh kSh
  have bSh := FSh.binds (ps := ["most"]) fun _ _ _ _ _ _ us hl => match us, hl with | [_], _ => rfl
  have FH := fun_mk (st := sHand) lH cH kH
  have bH := FH.binds (ps := ["script", "k"]) fun _ _ _ _ _ _ us hl => match us, hl with | [_, _], _ => rfl
  have FD := fun_mk (st := sDraw) lD cD kD
  have bD := FD.binds (ps := ["pool", "many"]) fun _ _ _ _ _ _ us hl => match us, hl with | [_, _], _ => rfl
  have FPw := fun_mk (st := sPower) lPw cPw kPw
  have bPw := FPw.binds (ps := ["many"]) fun _ _ _ _ _ _ us hl => match us, hl with | [_], _ => rfl
  have FSg := fun_mk (st := sSign) lSg cSg kSg
  have bSg := FSg.binds (ps := ["number"]) fun _ _ _ _ _ _ us hl => match us, hl with | [_], _ => rfl
  have FMo := fun_mk (st := sMost) lMo cMo kMo
  have bMo := FMo.binds (ps := ["pool"]) fun _ _ _ _ _ _ us hl => match us, hl with | [_], _ => rfl
  have FPo := fun_mk (st := sPts) lPo cPo kPo
  have bPo := FPo.binds (ps := ["pool", "most"]) fun _ _ _ _ _ _ us hl => match us, hl with | [_, _], _ => rfl
  have FR := fun_mk (st := sRefused) lR cR kR
  have bR := FR.binds (ps := ["door", "one", "two"]) fun _ _ _ _ _ _ us hl => match us, hl with | [_, _, _], _ => rfl
  have FZ := fun_mk (st := sLaw) lZ cZ kZ
  have T : Txt K mg C := ⟨⟨pg, hd, po, sa⟩, nX, nY, PySem.W.mg_of X G aC, PySem.W.mg_none_of X G z_isinstance, PySem.W.mg_none_of X G z_len, PySem.W.mg_none_of X G z_int, PySem.W.mg_none_of X G z_bool, PySem.W.mg_none_of X G z_tuple, ha, hn, htk, hm, kTC, kCC⟩
  have TLm : TxtL mg := ⟨PySem.W.mg_none_of X G z_int, PySem.W.mg_none_of X G z_range, PySem.W.mg_none_of X G z_max, PySem.W.mg_none_of X G z_min, PySem.W.mg_none_of X G z_len⟩
  have Df : Defs K mg C fW fI fP fA fO _ _ _ _ _ := ⟨T, FW, bW, PySem.W.mg_of X G aW, ⟨mk, aI, iI, kc⟩, FI, bI, FP, bP, PySem.W.mg_of X G aP, FA, bA, PySem.W.mg_of X G aA, FO, bO, PySem.W.mg_of X G aO⟩
  have TT : TxtT K mg CT := ⟨⟨pgT, hdT, poT, saT⟩, nTT, PySem.W.mg_of X G aCT, PySem.W.mg_none_of X G z_list, PySem.W.mg_none_of X G z_all, haT, hmT, kLT, kTT⟩
  have Td : TDefs K mg C CT fS fTI fCo fEd fAr fEq fAd pAr _ _ _ _ _ _ _ := ⟨TT, FS, bS, PySem.W.mg_of X G aS, ⟨mkT, aTI, iTI, kcT⟩, FTI, bTI, FCo, bCo, ⟨aCo, iCo, kCo⟩, FEd, bEd, ⟨aEd, iEd, kEd⟩, FAr, bAr, ⟨aAr, gAr, tAr, ⟨_, rAr⟩⟩, FEq, bEq, aEq, iEq, FAd, bAd, ⟨sf, aAd, iAd⟩⟩
  have xtNu : FoX_number.XTxt l.prog K mg CNu gNu := ⟨⟨_, _, _, _, _, _, _, _, _, _, _, _, _, _, _, lCNu, rvNu⟩, saNu, gaNu, ggNu, noNu, inNu, tyNu, kpNu, exNu, tcNu, hdNu, suNu, tpI, PySem.W.mg_none_of X G z_super, veNu, mrNu, tsI, ⟨quNu, msNu, _, _, _, _, _, _, ccNu, cdaNu, _, _, p1Nu, p2Nu, r1Nu, r2Nu, r3Nu, r4Nu, r5Nu, r6Nu, q1Nu, q2Nu, q3Nu, q4Nu, jNu, _, _, _, _, vsNu, _, _, fiNu, tfNu, lgNu, cgNu, lcNu, vfNu, flNu, lnNu, leNu⟩⟩
  have Rt : RTxt l.prog K mg CNu gNu CF CI := ⟨xtNu, PySem.W.mg_of X G aCNu, PySem.W.mg_of X G aCF, PySem.W.mg_of X G aCI, emNu, ⟨gaNu, ggNu, exNu, hdNu, caNu, hn, htk, moNu⟩, ksNu, k2N, PySem.W.mg_none_of X G z_repr⟩
  have Bd : BDefs K mg fWr fCh fLe fSh _ _ _ _ := ⟨⟨_, PySem.W.mg_of X G aMB⟩, ⟨_, PySem.W.mg_of X G aMN⟩, FWr, bWr, PySem.W.mg_of X G aWr, FCh, bCh, PySem.W.mg_of X G aCh, FLe, bLe, PySem.W.mg_of X G aLe, FSh, bSh, PySem.W.mg_of X G aSh⟩
  have Lf : LDefs l.prog K mg C CT CNu gNu CF CI fH fD fPw fSg fMo fPo fR fPm _ _ _ _ _ _ _ _ := ⟨TLm, Rt, FH, bH, PySem.W.mg_of X G aH, FD, bD, PySem.W.mg_of X G aD, FPw, bPw, PySem.W.mg_of X G aPw, FSg, bSg, PySem.W.mg_of X G aSg, FMo, bMo, PySem.W.mg_of X G aMo, FPo, bPo, PySem.W.mg_of X G aPo, FR, bR, PySem.W.mg_of X G aR, FPm, bPm, ⟨aPm, iPm, kPm⟩⟩
  exact ⟨PySem.W.fnOf "law" "law" (defArgs sLaw) (defBody sLaw) (defScope sLaw) .none kVZ dcZ pmZ anZ cdZ ctZ, fun s v => .of_eq rfl, fun base _ _ => ok_law FZ Df Td Bd Lf⟩
theorem walk {l : PySem.W.OpenLaw} {q : Program} {loose : List Str} {XP : (Str → Option Value) → Heap → Prop} {YP : World → Heap → Prop} {d : DefRec} {K : Params → PySem.W.Frag} (hn : l.most = some 63) (hdf : d.params.defaults = [])
    (hY : ∀ (w : World) (h : Heap), YP w h → (K w.params).In h)
    (F : ∀ (w : World) (mg : Str → Option Value) (fa : Addr) (h : Heap), (K w.params).In h → h.Ns mainGlobals mg → mg d.name = some (.ref fa) →
      ∃ fd : FuncData, (∀ (s : Shared) (u : Value), BindsTo s fd ⟨[u], []⟩ [("script", u)]) ∧ ∀ base : Heap, (K w.params).In base → base.Ns mainGlobals mg → FnG l.prog w (K w.params) mg base CX0 11 fa fd ["script"] (spLaw (K w.params))) :
    PySem.W.WalkO q loose XP YP l.row.toRowW d [] (fun f vs => PySem.call f vs) :=
  L2.walk_ofG (n := 63) (k := 11) (x := "script") (sp := fun w => spLaw (K w.params)) hn (by decide) hdf ⟨rfl, by decide, by decide⟩ hY F (fun _ _ a ns hl hS => ⟨a, ns, rfl, hS, hl, fun _ => rfl⟩)
end Fo

open PySem PySem.W PyProof.Rows in
set_option maxRecDepth 100000 in
set_option maxHeartbeats 0 in
theorem PySem.Challenge.cw_filledonce_k71_whole_bits_holds : PySem.Challenge.rw_filledonce_k71_whole_bits.Holds := by
  w_on; o_law; k_head; (case hw => w_witness2)
  k_fill
  refine Fo.walk (l := PySem.Challenge.rw_filledonce_k71_whole_bits) rfl rfl (fun w h Y => PySem.W.kIn_of Y) ?F
  case F =>
    intro w mg fa h KX G hmg
    refine' Fo.all_mk KX G hmg ?aC ?aCT ?aW ?lW ?cW ?kW ?aI ?iI ?lI ?cI ?kI ?aP ?lP ?cP ?kP ?aA ?lA ?cA ?kA ?aO ?lO ?cO ?kO ?aS ?lS ?cS ?kS ?aTI ?iTI ?lTI ?cTI ?kTI ?aCo ?iCo ?lCo ?cCo ?kCo ?aEd ?iEd ?lEd ?cEd ?kEd ?aAr ?gAr ?tAr ?rAr ?lAr ?cAr ?kAr ?aEq ?iEq ?lEq ?cEq ?kEq ?aAd ?iAd ?lAd ?cAd ?kAd ?aPm ?iPm ?lPm ?cPm ?kPm ?aWr ?lWr ?cWr ?kWr ?aCh ?lCh ?cCh ?kCh ?aLe ?lLe ?cLe ?kLe ?aSh ?lSh ?cSh ?kSh ?aH ?lH ?cH ?kH ?aD ?lD ?cD ?kD ?aPw ?lPw ?cPw ?kPw ?aSg ?lSg ?cSg ?kSg ?aMo ?lMo ?cMo ?kMo ?aPo ?lPo ?cPo ?kPo ?aR ?lR ?cR ?kR ?aZ ?lZ ?cZ ?kZ ?pg ?hd ?po ?sa ?mk ?kc ?nX ?nY ?ha ?hn ?htk ?hm ?kTC ?kCC ?sf ?pgT ?hdT ?poT ?saT ?mkT ?kcT ?nTT ?haT ?hmT ?kLT ?kTT ?z_isinstance ?z_len ?z_int ?z_bool ?z_tuple ?z_range ?z_max ?z_min ?z_list ?z_all ?z_repr ?z_super ?aMB ?aMN ?aCF ?aCI ?tpI ?tsI ?aCNu ?lCNu ?rvNu ?saNu ?gaNu ?ggNu ?noNu ?inNu ?tyNu ?kpNu ?exNu ?tcNu ?hdNu ?suNu ?veNu ?mrNu ?lgNu ?cgNu ?lcNu ?vfNu ?flNu ?lnNu ?leNu ?caNu ?moNu ?emNu ?ksNu ?k2N
    (case aC => first | k_is | rfl | decide +kernel)
    (case aCT => first | k_is | rfl | decide +kernel)
    (case aW => first | k_is | rfl | decide +kernel)
    (case lW => first | k_is | rfl | decide +kernel)
    (case cW => first | k_is | rfl | decide +kernel)
    (case kW => first | k_is | rfl | decide +kernel)
    (case aI => first | k_is | rfl | decide +kernel)
    (case iI => first | k_is | rfl | decide +kernel)
    (case lI => first | k_is | rfl | decide +kernel)
    (case cI => first | k_is | rfl | decide +kernel)
    (case kI => first | k_is | rfl | decide +kernel)
    (case aP => first | k_is | rfl | decide +kernel)
    (case lP => first | k_is | rfl | decide +kernel)
    (case cP => first | k_is | rfl | decide +kernel)
    (case kP => first | k_is | rfl | decide +kernel)
    (case aA => first | k_is | rfl | decide +kernel)
    (case lA => first | k_is | rfl | decide +kernel)
    (case cA => first | k_is | rfl | decide +kernel)
    (case kA => first | k_is | rfl | decide +kernel)
    (case aO => first | k_is | rfl | decide +kernel)
    (case lO => first | k_is | rfl | decide +kernel)
    (case cO => first | k_is | rfl | decide +kernel)
    (case kO => first | k_is | rfl | decide +kernel)
    (case aS => first | k_is | rfl | decide +kernel)
    (case lS => first | k_is | rfl | decide +kernel)
    (case cS => first | k_is | rfl | decide +kernel)
    (case kS => first | k_is | rfl | decide +kernel)
    (case aTI => first | k_is | rfl | decide +kernel)
    (case iTI => first | k_is | rfl | decide +kernel)
    (case lTI => first | k_is | rfl | decide +kernel)
    (case cTI => first | k_is | rfl | decide +kernel)
    (case kTI => first | k_is | rfl | decide +kernel)
    (case aCo => first | k_is | rfl | decide +kernel)
    (case iCo => first | k_is | rfl | decide +kernel)
    (case lCo => first | k_is | rfl | decide +kernel)
    (case cCo => first | k_is | rfl | decide +kernel)
    (case kCo => first | k_is | rfl | decide +kernel)
    (case aEd => first | k_is | rfl | decide +kernel)
    (case iEd => first | k_is | rfl | decide +kernel)
    (case lEd => first | k_is | rfl | decide +kernel)
    (case cEd => first | k_is | rfl | decide +kernel)
    (case kEd => first | k_is | rfl | decide +kernel)
    (case aAr => first | k_is | rfl | decide +kernel)
    (case gAr => first | k_is | rfl | decide +kernel)
    (case tAr => first | k_is | rfl | decide +kernel)
    (case rAr => first | k_is | rfl | decide +kernel)
    (case lAr => first | k_is | rfl | decide +kernel)
    (case cAr => first | k_is | rfl | decide +kernel)
    (case kAr => first | k_is | rfl | decide +kernel)
    (case aEq => first | k_is | rfl | decide +kernel)
    (case iEq => first | k_is | rfl | decide +kernel)
    (case lEq => first | k_is | rfl | decide +kernel)
    (case cEq => first | k_is | rfl | decide +kernel)
    (case kEq => first | k_is | rfl | decide +kernel)
    (case aAd => first | k_is | rfl | decide +kernel)
    (case iAd => first | k_is | rfl | decide +kernel)
    (case lAd => first | k_is | rfl | decide +kernel)
    (case cAd => first | k_is | rfl | decide +kernel)
    (case kAd => first | k_is | rfl | decide +kernel)
    (case aPm => first | k_is | rfl | decide +kernel)
    (case iPm => first | k_is | rfl | decide +kernel)
    (case lPm => first | k_is | rfl | decide +kernel)
    (case cPm => first | k_is | rfl | decide +kernel)
    (case kPm => first | k_is | rfl | decide +kernel)
    (case aWr => first | k_is | rfl | decide +kernel)
    (case lWr => first | k_is | rfl | decide +kernel)
    (case cWr => first | k_is | rfl | decide +kernel)
    (case kWr => first | k_is | rfl | decide +kernel)
    (case aCh => first | k_is | rfl | decide +kernel)
    (case lCh => first | k_is | rfl | decide +kernel)
    (case cCh => first | k_is | rfl | decide +kernel)
    (case kCh => first | k_is | rfl | decide +kernel)
    (case aLe => first | k_is | rfl | decide +kernel)
    (case lLe => first | k_is | rfl | decide +kernel)
    (case cLe => first | k_is | rfl | decide +kernel)
    (case kLe => first | k_is | rfl | decide +kernel)
    (case aSh => first | k_is | rfl | decide +kernel)
    (case lSh => first | k_is | rfl | decide +kernel)
    (case cSh => first | k_is | rfl | decide +kernel)
    (case kSh => first | k_is | rfl | decide +kernel)
    (case aH => first | k_is | rfl | decide +kernel)
    (case lH => first | k_is | rfl | decide +kernel)
    (case cH => first | k_is | rfl | decide +kernel)
    (case kH => first | k_is | rfl | decide +kernel)
    (case aD => first | k_is | rfl | decide +kernel)
    (case lD => first | k_is | rfl | decide +kernel)
    (case cD => first | k_is | rfl | decide +kernel)
    (case kD => first | k_is | rfl | decide +kernel)
    (case aPw => first | k_is | rfl | decide +kernel)
    (case lPw => first | k_is | rfl | decide +kernel)
    (case cPw => first | k_is | rfl | decide +kernel)
    (case kPw => first | k_is | rfl | decide +kernel)
    (case aSg => first | k_is | rfl | decide +kernel)
    (case lSg => first | k_is | rfl | decide +kernel)
    (case cSg => first | k_is | rfl | decide +kernel)
    (case kSg => first | k_is | rfl | decide +kernel)
    (case aMo => first | k_is | rfl | decide +kernel)
    (case lMo => first | k_is | rfl | decide +kernel)
    (case cMo => first | k_is | rfl | decide +kernel)
    (case kMo => first | k_is | rfl | decide +kernel)
    (case aPo => first | k_is | rfl | decide +kernel)
    (case lPo => first | k_is | rfl | decide +kernel)
    (case cPo => first | k_is | rfl | decide +kernel)
    (case kPo => first | k_is | rfl | decide +kernel)
    (case aR => first | k_is | rfl | decide +kernel)
    (case lR => first | k_is | rfl | decide +kernel)
    (case cR => first | k_is | rfl | decide +kernel)
    (case kR => first | k_is | rfl | decide +kernel)
    (case aZ => first | k_is | rfl | decide +kernel)
    (case lZ => first | k_is | rfl | decide +kernel)
    (case cZ => first | k_is | rfl | decide +kernel)
    (case kZ => first | k_is | rfl | decide +kernel)
    (case pg => first | k_is | rfl | decide +kernel)
    (case hd => first | k_is | rfl | decide +kernel)
    (case po => first | k_is | rfl | decide +kernel)
    (case sa => first | k_is | rfl | decide +kernel)
    (case mk => first | k_is | rfl | decide +kernel)
    (case kc => first | k_is | rfl | decide +kernel)
    (case nX => first | k_is | rfl | decide +kernel)
    (case nY => first | k_is | rfl | decide +kernel)
    (case ha => first | k_is | rfl | decide +kernel)
    (case hn => first | k_is | rfl | decide +kernel)
    (case htk => first | k_is | rfl | decide +kernel)
    (case hm => first | k_is | rfl | decide +kernel)
    (case kTC => first | k_is | rfl | decide +kernel)
    (case kCC => first | k_is | rfl | decide +kernel)
    (case sf => first | k_is | rfl | decide +kernel)
    (case pgT => first | k_is | rfl | decide +kernel)
    (case hdT => first | k_is | rfl | decide +kernel)
    (case poT => first | k_is | rfl | decide +kernel)
    (case saT => first | k_is | rfl | decide +kernel)
    (case mkT => first | k_is | rfl | decide +kernel)
    (case kcT => first | k_is | rfl | decide +kernel)
    (case nTT => first | k_is | rfl | decide +kernel)
    (case haT => first | k_is | rfl | decide +kernel)
    (case hmT => first | k_is | rfl | decide +kernel)
    (case kLT => first | k_is | rfl | decide +kernel)
    (case kTT => first | k_is | rfl | decide +kernel)
    (case z_isinstance => first | k_is | rfl | decide +kernel)
    (case z_len => first | k_is | rfl | decide +kernel)
    (case z_int => first | k_is | rfl | decide +kernel)
    (case z_bool => first | k_is | rfl | decide +kernel)
    (case z_tuple => first | k_is | rfl | decide +kernel)
    (case z_range => first | k_is | rfl | decide +kernel)
    (case z_max => first | k_is | rfl | decide +kernel)
    (case z_min => first | k_is | rfl | decide +kernel)
    (case z_list => first | k_is | rfl | decide +kernel)
    (case z_all => first | k_is | rfl | decide +kernel)
    (case z_repr => first | k_is | rfl | decide +kernel)
    (case z_super => first | k_is | rfl | decide +kernel)
    (case aMB => first | k_is | rfl | decide +kernel)
    (case aMN => first | k_is | rfl | decide +kernel)
    (case aCF => first | k_is | rfl | decide +kernel)
    (case aCI => first | k_is | rfl | decide +kernel)
    (case tpI => first | k_is | rfl | decide +kernel)
    (case tsI => first | k_is | rfl | decide +kernel)
    (case aCNu => first | k_is | rfl | decide +kernel)
    (case lCNu => first | k_is | rfl | decide +kernel)
    (case rvNu => first | k_is | rfl | decide +kernel)
    (case saNu => first | k_is | rfl | decide +kernel)
    (case gaNu => first | k_is | rfl | decide +kernel)
    (case ggNu => first | k_is | rfl | decide +kernel)
    (case noNu => first | k_is | rfl | decide +kernel)
    (case inNu => first | k_is | rfl | decide +kernel)
    (case tyNu => first | k_is | rfl | decide +kernel)
    (case kpNu => first | k_is | rfl | decide +kernel)
    (case exNu => first | k_is | rfl | decide +kernel)
    (case tcNu => first | k_is | rfl | decide +kernel)
    (case hdNu => first | k_is | rfl | decide +kernel)
    (case suNu => first | k_is | rfl | decide +kernel)
    (case veNu => first | k_is | rfl | decide +kernel)
    (case mrNu => first | k_is | rfl | decide +kernel)
    (case lgNu => first | k_is | rfl | decide +kernel)
    (case cgNu => first | k_is | rfl | decide +kernel)
    (case lcNu => first | k_is | rfl | decide +kernel)
    (case vfNu => first | k_is | rfl | decide +kernel)
    (case flNu => first | k_is | rfl | decide +kernel)
    (case lnNu => first | k_is | rfl | decide +kernel)
    (case leNu => first | k_is | rfl | decide +kernel)
    (case caNu => first | k_is | rfl | decide +kernel)
    (case moNu => first | k_is | rfl | decide +kernel)
    (case emNu => first | k_is | rfl | decide +kernel)
    (case ksNu => first | k_is | rfl | decide +kernel)
    (case k2N => first | k_is | rfl | decide +kernel)
#print axioms PySem.Challenge.cw_filledonce_k71_whole_bits_holds
