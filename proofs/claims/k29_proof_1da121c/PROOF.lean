import PyProof.Rows.All
import Wide.All
import OpenK.AllK
import Wide.FinOn
import HandS.ForMost
import HandS.Wide
import HandS.IsInst
import HandS.Deep
import HandS.Strs
import HandS.ForExc
import PyProof.ReprRoads
import PyProof.CallFns
import KE.KExcIs
import HandS.Exc
import KE.KExcSuper
import HandS.ExcCtx
import HandS.HotCalls
import KE.KCallOwn
import HandS.Property
import PyProof.NeKinds
import HandS.OwnEq
import HandS.DictComp
import HandS.Conv
import HandS.Star
import HandS.TupLen
import KE.KDictList
import KE.KEqDict
import PyProof.LongRange
import HandS.Iter
import KE.KStateDown
import HandS.Base
import HandS.Call
import HandS.Ends
import HandS.Head0
import HandS.Head1
import HandS.Head2
import HandS.HeadEnd
import HandS.HeadHook1
import HandS.NoneIn
import HandS.Evl
import HandS.More
import HandS.Style
import HandS.Walk
import HandS.SortInts
import HandS.ExcInit
import KE.KOpsOwn
import PyProof.DictMoreH
import HandS.SetKeys
import KE.DataFind
import HandS.Small
import PySem.Challenge.RW_filledonce_k29_meshes_made
set_option Elab.async false
set_option linter.all false
set_option maxRecDepth 100000
set_option maxHeartbeats 2000000
/-! own binary operators over the hand layer -/
namespace FoOps
open PySem PySem.W PyProof.Rows
section
variable {prog : Program} {w : World} {A : Around} {E : Value → Shared → Prop} {s : Shared} {K : Frag} {x C L f : Addr} {h₀ : Heap} {m : Str → Option Value} {ox : Obj} {od : Option Obj}
theorem tup_add : fillsNumberSlot (.type "tuple") "add" = pure false := by
  unfold fillsNumberSlot
  simp only [typeLookup_type, builtinLookup_eq_fast]
  kernel_rfl
theorem tup_sub : fillsNumberSlot (.type "tuple") "sub" = pure false := by
  unfold fillsNumberSlot
  simp only [typeLookup_type, builtinLookup_eq_fast]
  kernel_rfl
theorem binop_KT {op : Operator} {b : Value} {T : String} {Q : Value → Shared → Prop} (X : K.In s.heap) (I : InstAt s.heap x ox C od) (hT : s.TypeIs b T)
    (hfl : fillsNumberSlot (.type T) op.info.2 = pure false) (hc : selfFirst K C = true)
    (hs : findIn K (.ref C) (PySem.dunder op.info.2) = some (some (.ref f))) (hf : isFn K (.ref f) = true)
    (h : wpAny (model prog w) A (call (.ref f) [.ref x, b]) (PySem.W.CmpBack Q) E s) : wpAny (model prog w) A (binaryOp op (.ref x) b) Q E s := by
  obtain ⟨cd, hcd, hm⟩ := any_some hc
  obtain ⟨rest, hm⟩ : ∃ rest, cd.mro = .ref C :: rest := by
    cases q : cd.mro with
    | nil => rw [q] at hm; cases hm
    | cons a r => rw [q] at hm; exact ⟨r, by rw [List.head?_cons] at hm; cases (beq_iff_eq.mp hm); rfl⟩
  unfold binaryOp
  refine wpAny_holding (wpAny_bind ?_)
  unfold binaryOp1
  refine wpAny_bind (I.type.here (wpAny_bind (wpAny_typeOf hT (wpAny_bind ((fills_K X hcd hm hs).here ?_)))))
  have e : (Value.ref C == Value.type T) = false := by simp
  simp only [e, Bool.false_eq_true, if_false]
  refine wpAny_bind (wpAny_of_eq hfl ?_)
  simp only [Bool.and_false, Bool.false_eq_true, if_false, Bool.false_and, if_true]
  refine wpAny_bind (wpAny_pure ?_)
  simp only [Bool.false_eq_true, if_false]
  refine wpAny_bind (m := tryMethod (.ref x) _ b) ?_
  unfold tryMethod
  refine wpAny_bind (special_fn X I hs (beq_iff_eq.mp hf) (wpAny_mono h (fun v s' hv => ?_) fun _ _ e => e))
  cases v <;> first | exact hv.elim | exact wpAny_pure (wpAny_pure (wpAny_pure hv))
end
end FoOps

namespace L2
open PySem PySem.Spec PyProof.Rows
/-- an own class whose operator nm is the def at f -/
structure OwnOp (K : PySem.W.Frag) (C : Addr) (op : Operator) (f : Addr) : Prop where
  sf : PySem.W.selfFirst K C = true
  at_ : PySem.W.findIn K (.ref C) (PySem.dunder op.info.2) = some (some (.ref f))
  fn : PySem.W.isFn K (.ref f) = true
/-- a op b, a an instance of the class at C, b one too or a tracked tuple -/
def rOwnOp (C : Addr) (sp : Sp) (E : XK) : R2 := fun x y H Q => ∃ a dx fs, x = .ref a ∧ H a = some (.ins C dx fs) ∧
  ((∃ b dy gs, y = .ref b ∧ H b = some (.ins C dy gs)) ∨ ∃ b xs, y = .ref b ∧ H b = some (.tup xs)) ∧ sp [x, y] H Q E
section
variable {X : Cx} {CX : CXT} {k : Nat} {f C : Addr} {fd : FuncData} {ps : List Str} {sp : Sp} {E : XK}
theorem not_ni {z : V} {v : Value} (r : RelV z v) : v ≠ .notImplemented := by
  intro e
  subst e
  cases z <;> first | (cases r; done) | (obtain ⟨_, r⟩ := r; cases r)
theorem cmpBack_of {Q : Value → Shared → Prop} {v : Value} {s : Shared} (hn : v ≠ .notImplemented) (h : Q v s) : PySem.W.CmpBack Q v s := by
  cases v <;> first | exact h | exact absurd rfl hn
theorem op_own {op : Operator} (O : OwnOp X.K C op f) (hfl : fillsNumberSlot (.type "tuple") op.info.2 = pure false) (F : FnOk X.prog X.w X.K X.mg X.base CX k f fd ps sp) (hr : Room k X.A) (hb : Binds X.K fd ps []) (hx : Passes CX X E) :
    OpR X (binaryOp op) (rOwnOp C sp E) := by
  intro pins s σ H x y v u Q I rx ry h
  obtain ⟨a, dx, fs, rfl, ha, hy, q⟩ := h
  obtain rfl : v = Value.ref a := rx
  obtain ⟨mA, J, _⟩ := ins_get I.hok ha
  obtain ⟨od, J, _⟩ := J.look
  obtain ⟨m, hF⟩ := I.fr
  have run : wpAny (model X.prog X.w) X.A (call (.ref f) [.ref a, u]) (PySem.W.CmpBack (EP X pins σ Q)) X.xe s := by
    refine wpAny_mono (run_fn (us := [.ref a, u]) (vs := [.ref a, y]) F hr hb .nil hx I (.cons rfl (.cons ry .nil)) q) (fun r s' z => ?_) fun _ _ z => z
    obtain ⟨z1, H1, I1, rz, qz⟩ := z
    exact cmpBack_of (not_ni rz) ⟨z1, H1, I1, rz, qz⟩
  rcases hy with ⟨b, dy, gs, rfl, hb'⟩ | ⟨b, xs, rfl, hb'⟩
  · obtain rfl : u = Value.ref b := ry
    obtain ⟨mB, J', _⟩ := ins_get I.hok hb'
    obtain ⟨od', J', _⟩ := J'.look
    exact PySem.W.binop_K hF I.ok.mod.kin J J'.type O.sf O.at_ O.fn run
  · obtain rfl : u = Value.ref b := ry
    obtain ⟨_, _, _, o, h1, h2, _⟩ := (show ObjOk X.prog X.w H s.heap b (.tup xs) from I.hok b _ hb')
    exact FoOps.binop_KT I.kIn J ⟨o, h1, h2⟩ hfl O.sf O.at_ O.fn run
end
end L2
set_option Elab.async false
set_option linter.all false
set_option maxRecDepth 100000
set_option maxHeartbeats 2000000
/-! defs that are called where no guard stands (so that repr of lists and tuples can be told) -/
namespace L2
open PySem PySem.Spec PyProof.Rows
/-- the promise of a def, where nothing is being shown around it -/
structure FnG (P : Program) (w : World) (K : PySem.W.Frag) (mg : Str → Option Value) (base : Heap) (CX : CXT) (k : Nat) (f : Addr) (fd : FuncData) (ps : List Str) (sp : Sp) : Prop where
  len : ∀ vs H Q E, sp vs H Q E → vs.length = ps.length
  run : ∀ (A : Around), A.guards = some [] → ∀ (outer : List Env) (s : Shared) (H : Hp) (args : Args) (us : List Value) (vs : List V) (Q : VK) (E : XK), Room k A → Env0 P w K mg base A outer s H → BindsTo s fd args (ps.zip us) → Vals vs us → sp vs H Q E →
    codeAny (model P w) A (.call (.ref f) args) (CR CX outer P w H s Q E) s
section
variable {P : Program} {w : World} {K : PySem.W.Frag} {mg : Str → Option Value} {base : Heap}
/-- by its body -/
theorem Fun.okG {x qual : Str} {st : Stmt} {f : Addr} {fd : FuncData} {N ps : List Str} {k : Nat} {sp : Sp} (F : Fun K x qual st f fd) (S : FnScope N ps (defScope st)) (len : ∀ vs H Q E, sp vs H Q E → vs.length = ps.length)
    (walk : ∀ (cdv : Value) (A : Around) (outer : List Env) (s : Shared) (H : Hp) (vs : List V) (Q : VK) (E : XK), A.guards = some [] → Room k (A.deeper (envOfC qual (defScope st) s.heap.objs.size f cdv)) → sp vs H Q E →
      ∃ t, PSs (cxOf CX0 P w K mg base N qual (defScope st) f cdv A outer s H E).nox (defBody st) t ∧ t { nx := fun _ H' => Q .non H', rt := Q } (start N vs) H) : FnG P w K mg base CX0 (k + 1) f fd ps sp := by
  obtain ⟨oc, od, kV, doc, pm, an, cdv, ct, osl, rfl, lk, hcd⟩ := F.ex
  constructor
  · exact len
  intro A hgd outer s H args us vs Q E room env bind rel want
  have inB : ∀ b o, base.get? b = some o → s.heap.get? b = some o := fun b o z => (env.bs b o z).1
  have inK := env.mod.kin.keeps inB
  have kinds : ∀ y ∈ ps.zip us, (defScope st).names.lookup y.1 = some .local ∨ ((defScope st).names.lookup y.1 = some .cell ∧ ((cellsFrom (s.heap.objs.size + 1) (defScope st).names []).lookup y.1).isSome = true) := by
    rintro ⟨n, v⟩ hy
    exact (S.par n (List.of_mem_zip hy).1).imp id fun q => ⟨q, PySem.W.cellsFrom_some _ _ _ (.inl q)⟩
  refine codeAny_call_function room.depth (inK _ _ lk) rfl S.co S.gen rfl (PySem.W.codeRec_of inK hcd) (bind _ _ _ _ (wpAny_newFunctionEnv_cells S.kind kinds ?_))
  rintro _ rfl s1 entry
  refine ⟨(env.mod.nolimit.keeps inB).keeps entry.toInCall.keep, codeAny_func ?_⟩
  obtain ⟨t, body, told⟩ := walk cdv A outer s H vs Q E hgd (room.deeper _) want
  have start0 := inv_start (CX := CX0) (E := E) S room.hd env (len _ _ _ _ want) rel entry
  refine wpAny_mono (body.nox.run [] s1 (start N vs) H _ start0 told) ?_ fun _ _ z => z
  intro fl s' z
  cases fl with
  | ret u =>
    obtain ⟨v, σ', H', J, rv, q⟩ := z
    exact ⟨v, H', J.os, J.bare, J.base, J.hok, rv, q⟩
  | next =>
    obtain ⟨σ', H', J, q⟩ := z
    exact ⟨.non, H', J.os, J.bare, J.base, J.hok, rfl, q⟩
  | brk => exact z.elim fun _ z => z.elim fun _ z => z.2.elim
  | cont => exact z.elim fun _ z => z.elim fun _ z => z.2.elim
end
section
variable {X : Cx} {CX : CXT} {k : Nat} {f : Addr} {fd : FuncData} {ps : List Str} {sp : Sp} {E : XK} {x : Str} {p pos : Pos} {e : Expr} {es : List Expr} {t : TA}
/-- f(e, ..) of such a def -/
theorem pe_callG (F : FnG X.prog X.w X.K X.mg X.base CX k f fd ps sp) (hgd : X.A.guards = some []) (hr : Room k X.A) (hg : Gl X x) (hm : X.mg x = some (.ref f)) (hk : PySem.W.keepIn X.K (.ref f) = true) (hb : Binds X.K fd ps []) (hx : Passes CX X E)
    (ha : PA X (e :: es) t) (hdb : (x == ("__debug__" : Str)) = false := by decide) (he : starEach (e :: es) X.env = (false, eval e X.env) :: starEach es X.env := by rfl) (hpl : (backTo pos (starEach es X.env)).any (·.1) = false := by rfl) :
    PE X (.Call (.Name x p) (e :: es) [] pos) (tCall sp [] E t) := by
  constructor
  intro pins s σ H Q I h
  refine wpAny_Call_Name_kw (ld_glob I hg hm (PySem.W.callWith_K (h₀ := X.base) I.ok.mod.kin hk (thn (ha.run pos pins s σ H _ I h) ?_) he hpl) hdb)
  rintro us s1 ⟨vs, H1, I1, rel, want⟩
  refine ⟨I1.kIn, ?_⟩
  rw [List.append_nil] at want
  have ln : us.length = ps.length := rel.length.symm.trans (F.len _ _ _ _ want)
  have bnd := hb s1 us I1.kIn (by rw [List.append_nil]; exact ln)
  rw [List.append_nil] at bnd
  refine wpAny_call (codeAny_mono (F.run X.A hgd X.stack s1 H1 ⟨us, []⟩ us vs Q E hr I1.env0 bnd rel want) ?_)
  intro r s' z
  rcases r with e | (u | _ | _ | _)
  · exact hx pins σ H1 s1 e s' I1 z
  all_goals first | exact I1.after z | exact False.elim z
end
end L2
namespace L2
open PySem PySem.Spec PyProof.Rows
/-- the end of a law whose def is such a one -/
theorem walk_ofG {l : PySem.W.OpenLaw} {n k : Nat} {q : Program} {loose : List Str} {XP : (Str → Option Value) → Heap → Prop} {YP : World → Heap → Prop} {d : DefRec} {K : Params → PySem.W.Frag} {sp : World → Sp} {x : Str}
    (hn : l.most = some n) (hn2 : n ≤ sizeLine) (hdf : d.params.defaults = []) (hr : Room k callerA) (hY : ∀ (w : World) (h : Heap), YP w h → (K w.params).In h)
    (F : ∀ (w : World) (mg : Str → Option Value) (fa : Addr) (h : Heap), (K w.params).In h → h.Ns mainGlobals mg → mg d.name = some (.ref fa) →
      ∃ fd : FuncData, (∀ (s : Shared) (u : Value), BindsTo s fd ⟨[u], []⟩ [(x, u)]) ∧ ∀ base : Heap, (K w.params).In base → base.Ns mainGlobals mg → FnG l.prog w (K w.params) mg base CX0 k fa fd [x] (sp w))
    (hsp : ∀ (w : World) (H : Hp) (a : Addr) (ns : List Int), ns.length ≤ n → SqL (K w.params) H a (ns.map V.int) → sp w [.ref a] H (fun v _ => v = .bl true) E0) :
    PySem.W.WalkO q loose XP YP l.row.toRowW d [] (fun f vs => PySem.call f vs) := by
  refine Att.attach_call hn hdf fun w s₀ s₁ mg mb fa o pm cd doc a vs ns G Y _ _ _ hmg hobj hints hlen hg => ?_
  have inK := hY w _ Y
  obtain ⟨fd, bind, told⟩ := F w mg fa _ inK G.T.g hmg
  have rel := vals_ints hints
  have long : ns.length ≤ sizeLine := Nat.le_trans hlen hn2
  -- any abstract heap that knows at most the script, as it lies
  have key : ∀ H : Hp, (∀ b u, H b = some u → b = a ∧ (K w.params).lookup a = none ∧ u = .frz { cls := .type "list", data := .seq vs.toArray } (.lst (ns.map V.int))) → SqL (K w.params) H a (ns.map V.int) → HOk l.prog w H s₁.heap →
      codeAny (model l.prog w) callerA (.call (.ref fa) ⟨[.ref a], []⟩) (fun r s' => r = .ok (.ret (.bool true)) ∧ OldK s₁.heap s'.heap ∧ s'.os = s₁.os ∧ AllBare s'.gens) s₁ := by
    intro H only sq ok
    have keepN : ∀ {b : Addr} {m : Str → Option Value}, s₁.heap.Ns b m → (hidT s₁.heap H).Ns b m := by
      rintro b m ⟨ob, es, ep, h1, h2, r⟩
      refine ⟨ob, es, ep, hidT_get h1 ?_, h2, r⟩
      cases hH : H b with
      | none => rfl
      | some u =>
        obtain ⟨rfl, _, _⟩ := only b u hH
        rw [hobj] at h1
        cases h1
        cases h2
    have kIn' : (K w.params).In (hidT s₁.heap H) := fun b ob z => hidT_get (inK b ob z) (by
      cases hH : H b with
      | none => rfl
      | some u =>
        obtain ⟨rfl, hno, _⟩ := only b u hH
        rw [hno] at z
        cases z)
    obtain ⟨mc, c1, c2⟩ := G.T.nolimit
    have env : Env0 l.prog w (K w.params) mg (hidT s₁.heap H) callerA [] s₁ H := by
      refine ⟨rfl, ⟨kIn', keepN G.T.g, ⟨mb, keepN G.T.b, G.T.builtins⟩, ⟨mc, keepN c1, c2⟩⟩, fun b ob z => of_hidT z, Nat.le_of_eq (hidT_size _ _), trivial, fun b hb => ?_, ok, .of_eq hg⟩
      have hb' : b ∈ ([] : List Addr) := hb
      cases hb'
    refine codeAny_mono ((told _ kIn' (keepN G.T.g)).run callerA rfl [] s₁ H ⟨[.ref a], []⟩ [.ref a] [.ref a] _ _ hr env (bind s₁ (.ref a)) (.cons rfl .nil) (hsp w H a ns hlen sq)) ?_
    intro r s' z
    cases r with
    | error e => exact False.elim z
    | ok fl =>
      cases fl with
      | next => exact False.elim z
      | brk => exact False.elim z
      | cont => exact False.elim z
      | ret u =>
        obtain ⟨v, H', os, bare, un, ok', rv, ev⟩ := z
        have ev' : v = .bl true := ev
        subst ev'
        obtain rfl : u = Value.bool true := rv
        refine ⟨rfl, OldK.of_keep fun b ob hb => ?_, os, bare⟩
        cases hH : H b with
        | none =>
          refine un.keep b ob hb hH (fun hm => ?_) (by simp)
          have hm' : b ∈ ([] : List Addr) := hm
          cases hm'
        | some u =>
          obtain ⟨rfl, _, rfl⟩ := only b u hH
          obtain ⟨e1, _⟩ := ok b _ hH
          obtain ⟨e2, _⟩ := ok' b _ (un.frzs b _ _ hH)
          rw [hb] at e1
          cases e1
          exact e2
  by_cases hk : (K w.params).lookup a = none
  · refine key (fun b => if b = a then some (.frz { cls := .type "list", data := .seq vs.toArray } (.lst (ns.map V.int))) else none) (fun b u z => ?_) (.inl (.inr ⟨_, if_pos rfl⟩)) (fun b u z => ?_)
    · try dsimp only at z
      by_cases hb : b = a
      · rw [if_pos hb] at z
        exact ⟨hb, hk, (Option.some.inj z).symm⟩
      · rw [if_neg hb] at z
        cases z
    · try dsimp only at z
      by_cases hb : b = a
      · rw [if_pos hb] at z
        cases z
        subst hb
        exact ⟨hobj, by rw [List.length_map]; exact long, vs, _, rel, hobj⟩
      · rw [if_neg hb] at z
        cases z
  · obtain ⟨ob, hob⟩ := Option.ne_none_iff_exists'.mp hk
    have same := inK a ob hob
    rw [hobj] at same
    cases same
    refine key (fun _ => none) (fun b u z => by cases z) (.inr ⟨_, vs.toArray, _, hob, rfl, rfl, rfl, ?_, by simpa using rel⟩) (fun b u z => by cases z)
    rw [List.size_toArray, hints.length]
    exact long
end L2
set_option Elab.async false
set_option linter.all false
set_option maxRecDepth 100000
set_option maxHeartbeats 2000000
/-! the head of a law by one run in the kernel: what the end leans on is asked of the heap behind the top, at addresses that are written -/
namespace FoHd
open PySem PySem.Spec PyProof.Rows L2 He
/-- a def: its address, name, qualified name, parameters, body, scope, closure -/
structure DefF where
  at_ : Addr
  name : Str
  qual : Str
  params : Arguments
  body : List Stmt
  scope : Scope
  clos : List (Str × Addr) := []
abbrev FnF : Type := Option (Str × Str × Arguments × FuncBody × Scope × Addr × List (Str × Addr) × Value × Addr)
def fnF (K : PySem.W.Frag) (a : Addr) : FnF := match K.lookup a with
  | some ⟨_, _, .func fd, _⟩ => some (fd.name, fd.qualname, fd.params, fd.body, fd.scope, fd.globals, fd.closure, fd.defaults, fd.builtins)
  | _ => none
def DefF.val (d : DefF) : FnF := some (d.name, d.qual, d.params, .stmts d.body, d.scope, mainGlobals, d.clos, .none, builtinsNs)
def DefF.ok (K : PySem.W.Frag) (d : DefF) : Bool := PySem.W.keepIn K (.ref d.at_) && (match K.lookup d.at_ with
  | some ⟨_, _, .func fd, _⟩ => PySem.W.codeIn K fd.code d.qual
  | _ => false)
theorem def_raw {K : PySem.W.Frag} {d : DefF} (e : fnF K d.at_ = d.val) (c : d.ok K = true) :
    ∃ oc od osl kV doc pm an cdv ct, K.lookup d.at_ = some ⟨oc, od, .func ({ name := d.name, qualname := d.qual, params := d.params, body := .stmts d.body, scope := d.scope, globals := mainGlobals, closure := d.clos, defaults := .none, kwdefaults := kV, doc := doc, pyModule := pm, annotations := an, code := cdv, closureTuple := ct, builtins := builtinsNs } : FuncData), osl⟩ ∧
      PySem.W.codeIn K cdv d.qual = true ∧ PySem.W.keepIn K (.ref d.at_) = true := by
  obtain ⟨kp, c2⟩ := ba c
  unfold fnF at e
  cases q : K.lookup d.at_ with
  | none =>
    rw [q] at c2
    cases c2
  | some o =>
    obtain ⟨oc, od, dt, osl⟩ := o
    rw [q] at c2 e
    cases dt with
    | func fd =>
      obtain ⟨n1, n2, n3, n4, n5, n6, n7, n8, n9, n10, n11, n12, n13, n14, n15⟩ := fd
      have e2 : (some (n1, n2, n3, n4, n5, n6, n7, n8, n15) : FnF) = some (d.name, d.qual, d.params, .stmts d.body, d.scope, mainGlobals, d.clos, .none, builtinsNs) := e
      simp only [Option.some.injEq, Prod.mk.injEq] at e2
      obtain ⟨h1, h2, h3, h4, h5, h6, h7, h8, h9⟩ := e2
      subst h1 h2 h3 h4 h5 h6 h7 h8 h9
      exact ⟨oc, od, osl, n9, n10, n11, n12, n13, n14, rfl, c2, kp⟩
    | _ => cases c2
/-! ### what is asked besides -/
/-- an error's class -/
def excB (K : PySem.W.Frag) (C : Addr) : Bool := match K.lookup C with
  | some ⟨.type t, _, .cls cd, sl⟩ => decide (t = "type") && ((match cd.mro with
    | c0 :: bm => decide (c0 = .ref C) && PySem.HandSPX.refsVE bm
    | [] => false) && (cd.hasDict && (!cd.hasDel && (match sl.toList with
    | [_, _, _, _, some k4, _] => decide (k4 = .builtin "ValueError.__new__")
    | _ => false))))
  | _ => false
theorem excB_ok {K : PySem.W.Frag} {C : Addr} (h : excB K C = true) :
    ∃ nm qn N bs bm sn sub ab col dd e0 e1 e2 e3 e5, K.lookup C = some (PySem.excClassObj nm qn C N bs bm true sn sub ab col dd e0 e1 e2 e3 e5 "ValueError.__new__") ∧ PySem.HandSPX.refsVE bm = true := by
  unfold excB at h
  split at h
  · rename_i t dd cd sl q
    obtain ⟨h1, h⟩ := ba h
    obtain ⟨h2, h⟩ := ba h
    obtain ⟨h3, h⟩ := ba h
    obtain ⟨h4, h5⟩ := ba h
    obtain ⟨n1, n2, n3, n4, n5, n6, n7, n8, n9, n10, n11⟩ := cd
    split at h2
    · rename_i c0 bm em
      obtain ⟨h6, h7⟩ := ba h2
      split at h5
      · rename_i k0 k1 k2 k3 k4 k5 es
        have e1 : t = "type" := of_decide_eq_true h1
        have e2 : c0 = .ref C := of_decide_eq_true h6
        have e3 : k4 = .builtin "ValueError.__new__" := of_decide_eq_true h5
        have e4 : n6 = true := h3
        have e5 : n11 = false := by
          cases n11 with
          | false => rfl
          | true => cases h4
        have e6 : sl = #[k0, k1, k2, k3, some k4, k5] := by
          obtain ⟨l⟩ := sl
          exact congrArg Array.mk es
        have e7 : n3 = c0 :: bm := em
        subst e1 e2 e3 e4 e5 e6 e7
        exact ⟨n1, n5, n4, n2, bm, n7, n8, n9, n10, dd, k0, k1, k2, k3, k5, q, h7⟩
      · cases h5
    · cases h2
  · cases h
/-- the code object of the def at g: its file -/
def fileB (K : PySem.W.Frag) (g : Addr) (file : Str) : Bool := match K.lookup g with
  | some ⟨_, _, .func fd, _⟩ => (match fd.code with
    | .ref c => (match K.lookup c with
      | some ⟨_, _, .fields vs, _⟩ => (match (vs[2]? : Option Value) with
        | some (.str fi _) => file == fi
        | _ => false)
      | _ => false)
    | _ => false)
  | _ => false
theorem fileB_ok {K : PySem.W.Frag} {g : Addr} {file : Str} {oc : Value} {od : Option Addr} {fd : FuncData} {osl : Array (Option Value)} (lk : K.lookup g = some ⟨oc, od, .func fd, osl⟩) (h : fileB K g file = true) :
    ∃ cda ccl cdd vs ccs fi tf, fd.code = .ref cda ∧ K.lookup cda = some ⟨ccl, cdd, .fields vs, ccs⟩ ∧ vs[2]? = some (.str fi tf) ∧ (file == fi) = true := by
  unfold fileB at h
  rw [lk] at h
  replace h : (match fd.code with
    | .ref c => (match K.lookup c with
      | some ⟨_, _, .fields vs, _⟩ => (match (vs[2]? : Option Value) with
        | some (.str fi _) => file == fi
        | _ => false)
      | _ => false)
    | _ => false) = true := h
  split at h
  · rename_i c e
    split at h
    · rename_i ccl cdd vs ccs e2
      split at h
      · rename_i fi tf e3
        exact ⟨c, ccl, cdd, vs, ccs, fi, tf, e, e2, e3, h⟩
      · cases h
    · cases h
  · cases h
/-- a cell that holds the class -/
def cellB (K : PySem.W.Frag) (cc C : Addr) : Bool := match K.lookup cc with
  | some ⟨_, _, .cell (some v), _⟩ => decide (v = .ref C)
  | _ => false
theorem cellB_ok {K : PySem.W.Frag} {cc C : Addr} (h : cellB K cc C = true) : ∃ cl cld csl, K.lookup cc = some ⟨cl, cld, .cell (some (.ref C)), csl⟩ := by
  unfold cellB at h
  split at h
  · rename_i cl cld v csl q
    rw [of_decide_eq_true h] at q
    exact ⟨cl, cld, csl, q⟩
  · cases h
/-- a tuple of these -/
def seqB (K : PySem.W.Frag) (a : Addr) (d : Bool) (vs : List Value) : Bool := match K.lookup a with
  | some ⟨.type c, od, .seq its _, _⟩ => decide (c = "tuple") && (decide (its.toList = vs) && (d || od.isNone))
  | _ => false
theorem seqB_ok {K : PySem.W.Frag} {a : Addr} {d : Bool} {vs : List Value} (h : seqB K a d vs = true) : ∃ od n sl, K.lookup a = some ⟨.type "tuple", od, .seq ⟨vs⟩ n, sl⟩ ∧ (d || od.isNone) = true := by
  unfold seqB at h
  split at h
  · rename_i c od its n sl q
    obtain ⟨h1, h⟩ := ba h
    obtain ⟨h2, h3⟩ := ba h
    have e1 : c = "tuple" := of_decide_eq_true h1
    have e2 : its = ⟨vs⟩ := by
      obtain ⟨l⟩ := its
      exact congrArg Array.mk (of_decide_eq_true h2)
    subst e1 e2
    exact ⟨od, n, sl, q, h3⟩
  · cases h
/-- a pair of two ints -/
def twoB (K : PySem.W.Frag) (a : Addr) (i j : Int) : Bool := match K.lookup a with
  | some ⟨.type c, _, .seq its _, _⟩ => decide (c = "tuple") && (match its.toList with
    | [.int x _, .int y _] => decide (x = i) && decide (y = j)
    | _ => false)
  | _ => false
theorem twoB_ok {K : PySem.W.Frag} {a : Addr} {i j : Int} (h : twoB K a i j = true) : ∃ od x y n sl, K.lookup a = some ⟨.type "tuple", od, .seq #[.int i x, .int j y] n, sl⟩ := by
  unfold twoB at h
  split at h
  · rename_i c od its n sl q
    obtain ⟨h1, h⟩ := ba h
    have e1 : c = "tuple" := of_decide_eq_true h1
    split at h
    · rename_i x tx y ty es
      obtain ⟨h2, h3⟩ := ba h
      have e2 : x = i := of_decide_eq_true h2
      have e3 : y = j := of_decide_eq_true h3
      have e4 : its = #[.int x tx, .int y ty] := by
        obtain ⟨l⟩ := its
        exact congrArg Array.mk es
      subst e1 e2 e3 e4
      exact ⟨od, tx, ty, n, sl, q⟩
    · cases h
  · cases h
/-- an int of the module -/
def intB (K : PySem.W.Frag) (x : Str) (i : Int) : Bool := match PySem.W.nsIn K mainGlobals x with
  | some (some (.int j _)) => decide (j = i)
  | _ => false
theorem intB_ok {K : PySem.W.Frag} {x : Str} {i : Int} (h : intB K x i = true) : ∃ t, PySem.W.nsIn K mainGlobals x = some (some (.int i t)) := by
  unfold intB at h
  split at h
  · rename_i j t q
    rw [of_decide_eq_true h] at q
    exact ⟨t, q⟩
  · cases h
/-- a text of the module -/
def strB (K : PySem.W.Frag) (x z : Str) : Bool := match PySem.W.nsIn K mainGlobals x with
  | some (some (.str y _)) => decide (y = z)
  | _ => false
theorem strB_ok {K : PySem.W.Frag} {x z : Str} (h : strB K x z = true) : ∃ t, PySem.W.nsIn K mainGlobals x = some (some (.str z t)) := by
  unfold strB at h
  split at h
  · rename_i j t q
    rw [of_decide_eq_true h] at q
    exact ⟨t, q⟩
  · cases h
/-- a record that begins with these -/
def recB (K : PySem.W.Frag) (p : Addr) (T : String) (l : List Value) : Bool := match PySem.W.recIn K p T with
  | some vs => decide (vs.take l.length = l)
  | none => false
theorem recB_ok {K : PySem.W.Frag} {p : Addr} {T : String} {l : List Value} (h : recB K p T l = true) : ∃ r, PySem.W.recIn K p T = some (l ++ r) := by
  unfold recB at h
  split at h
  · rename_i vs q
    refine ⟨vs.drop l.length, ?_⟩
    rw [q]
    have e : vs.take l.length = l := of_decide_eq_true h
    exact congrArg some ((List.take_append_drop l.length vs).symm.trans (by rw [e]))
  · cases h
/-- a static method's record -/
def statB (K : PySem.W.Frag) (C : Addr) (m : Str) (g : String) (p : Addr) : Bool := match PySem.W.findCls K (.ref C) (.type "type") m with
  | some (.get (.builtin g') (.ref p') .none (.ref D)) => decide (g' = g) && (decide (p' = p) && decide (D = C))
  | _ => false
theorem statB_ok {K : PySem.W.Frag} {C : Addr} {m : Str} {g : String} {p : Addr} (h : statB K C m g p = true) : PySem.W.findCls K (.ref C) (.type "type") m = some (.get (.builtin g) (.ref p) .none (.ref C)) := by
  unfold statB at h
  split at h
  · rename_i g' p' D e
    obtain ⟨h1, h⟩ := ba h
    obtain ⟨h2, h3⟩ := ba h
    rw [e, of_decide_eq_true h1, of_decide_eq_true h2, of_decide_eq_true h3]
  · cases h
/-! ### the Hook -/
abbrev AlF : Type := Bool × List FnF
def obsF (fs : List (PySem.W.Frag → Bool)) (fn : List DefF) (K : PySem.W.Frag) : AlF := ((fs.all fun f => f K) && fn.all fun d => d.ok K, fn.map fun d => fnF K d.at_)
def valF (fn : List DefF) : AlF := (true, fn.map DefF.val)
def SaysF (fs : List (PySem.W.Frag → Bool)) (fn : List DefF) (K : PySem.W.Frag) : Prop := obsF fs fn K = valF fn
def obsFG (as : List Addr) (fs : List (PySem.W.Frag → Bool)) (fn : List DefF) (g : Addr → Option Obj) : AlF := obsF fs fn (frG g as)
def hookF (as : List Addr) (fs : List (PySem.W.Frag → Bool)) (fn : List DefF) : PySem.W.Hook where
  α := AlF
  obs := fun s => obsFG as fs fn s.heap.get?
  val := fun _ => valF fn
  says := fun _ h => ∃ K : PySem.W.Frag, K.In h ∧ SaysF fs fn K
  of := fun _ _ e => ⟨_, frG_in, e⟩
  keeps := fun _ _ _ ⟨K, hK, c⟩ k => ⟨K, PySem.W.Frag.In.keeps hK k, c⟩
theorem obsFG_eq {as : List Addr} {fs : List (PySem.W.Frag → Bool)} {fn : List DefF} {g : Addr → Option Obj} {s : Shared} (h : ∀ a, g a = s.heap.get? a) : obsFG as fs fn g = (hookF as fs fn).obs s := by
  have e : g = s.heap.get? := funext h
  rw [e] <;> rfl
section
variable {fs : List (PySem.W.Frag → Bool)} {fn : List DefF} {K : PySem.W.Frag}
theorem SaysF.fact (c : SaysF fs fn K) (i : Nat) {f : PySem.W.Frag → Bool} (h : fs[i]? = some f) : f K = true := by
  have c1 := (ba (show ((fs.all fun f => f K) && fn.all fun d => d.ok K) = true from congrArg (fun z : AlF => z.1) c)).1
  exact List.all_eq_true.mp c1 f (List.mem_of_getElem? h)
theorem SaysF.raw (c : SaysF fs fn K) (i : Nat) {d : DefF} (h : fn[i]? = some d) :
    ∃ oc od osl kV doc pm an cdv ct, K.lookup d.at_ = some ⟨oc, od, .func ({ name := d.name, qualname := d.qual, params := d.params, body := .stmts d.body, scope := d.scope, globals := mainGlobals, closure := d.clos, defaults := .none, kwdefaults := kV, doc := doc, pyModule := pm, annotations := an, code := cdv, closureTuple := ct, builtins := builtinsNs } : FuncData), osl⟩ ∧
      PySem.W.codeIn K cdv d.qual = true ∧ PySem.W.keepIn K (.ref d.at_) = true := by
  have c2 := (ba (show ((fs.all fun f => f K) && fn.all fun d => d.ok K) = true from congrArg (fun z : AlF => z.1) c)).2
  have e : fn.map (fun d => fnF K d.at_) = fn.map DefF.val := congrArg (fun z : AlF => z.2) c
  have e2 : (fn.map fun d => fnF K d.at_)[i]? = (fn.map DefF.val)[i]? := by rw [e]
  rw [List.getElem?_map, List.getElem?_map, h] at e2
  exact def_raw (Option.some.inj e2) (List.all_eq_true.mp c2 d (List.mem_of_getElem? h))
end
/-- the end of a law whose def is called where no guard stands, over such a head -/
theorem walk_ofGE {l : PySem.W.OpenLaw} {n k : Nat} {q : Program} {loose : List Str} {XP : (Str → Option Value) → Heap → Prop} {YP : World → Heap → Prop} {d : DefRec} {x : Str}
    (hn : l.most = some n) (hn2 : n ≤ sizeLine) (hdf : d.params.defaults = []) (hr : Room k callerA)
    (F : ∀ (w : World) (mg : Str → Option Value) (fa : Addr) (h : Heap), YP w h → h.Ns mainGlobals mg → mg d.name = some (.ref fa) →
      ∃ (K : PySem.W.Frag) (fd : FuncData) (sp : Sp), K.In h ∧ (∀ (s : Shared) (u : Value), BindsTo s fd ⟨[u], []⟩ [(x, u)]) ∧
        (∀ (H : Hp) (a : Addr) (ns : List Int), ns.length ≤ n → SqL K H a (ns.map V.int) → sp [.ref a] H (fun v _ => v = .bl true) E0) ∧
        ∀ base : Heap, K.In base → base.Ns mainGlobals mg → FnG l.prog w K mg base CX0 k fa fd [x] sp) :
    PySem.W.WalkO q loose XP YP l.row.toRowW d [] (fun f vs => PySem.call f vs) := by
  refine Att.attach_call hn hdf fun w s₀ s₁ mg mb fa o pm cd doc a vs ns G Y _ _ _ hmg hobj hints hlen hg => ?_
  obtain ⟨K, fd, sp, inK, bind, hsp, told⟩ := F w mg fa _ Y G.T.g hmg
  have rel := vals_ints hints
  have long : ns.length ≤ sizeLine := Nat.le_trans hlen hn2
  -- any abstract heap that knows at most the script, as it lies
  have key : ∀ H : Hp, (∀ b u, H b = some u → b = a ∧ K.lookup a = none ∧ u = .frz { cls := .type "list", data := .seq vs.toArray } (.lst (ns.map V.int))) → SqL K H a (ns.map V.int) → HOk l.prog w H s₁.heap →
      codeAny (model l.prog w) callerA (.call (.ref fa) ⟨[.ref a], []⟩) (fun r s' => r = .ok (.ret (.bool true)) ∧ OldK s₁.heap s'.heap ∧ s'.os = s₁.os ∧ AllBare s'.gens) s₁ := by
    intro H only sq ok
    have keepN : ∀ {b : Addr} {m : Str → Option Value}, s₁.heap.Ns b m → (hidT s₁.heap H).Ns b m := by
      rintro b m ⟨ob, es, ep, h1, h2, r⟩
      refine ⟨ob, es, ep, hidT_get h1 ?_, h2, r⟩
      cases hH : H b with
      | none => rfl
      | some u =>
        obtain ⟨rfl, _, _⟩ := only b u hH
        rw [hobj] at h1
        cases h1
        cases h2
    have kIn' : K.In (hidT s₁.heap H) := fun b ob z => hidT_get (inK b ob z) (by
      cases hH : H b with
      | none => rfl
      | some u =>
        obtain ⟨rfl, hno, _⟩ := only b u hH
        rw [hno] at z
        cases z)
    obtain ⟨mc, c1, c2⟩ := G.T.nolimit
    have env : Env0 l.prog w K mg (hidT s₁.heap H) callerA [] s₁ H := by
      refine ⟨rfl, ⟨kIn', keepN G.T.g, ⟨mb, keepN G.T.b, G.T.builtins⟩, ⟨mc, keepN c1, c2⟩⟩, fun b ob z => of_hidT z, Nat.le_of_eq (hidT_size _ _), trivial, fun b hb => ?_, ok, .of_eq hg⟩
      have hb' : b ∈ ([] : List Addr) := hb
      cases hb'
    refine codeAny_mono ((told _ kIn' (keepN G.T.g)).run callerA rfl [] s₁ H ⟨[.ref a], []⟩ [.ref a] [.ref a] _ _ hr env (bind s₁ (.ref a)) (.cons rfl .nil) (hsp H a ns hlen sq)) ?_
    intro r s' z
    cases r with
    | error e => exact False.elim z
    | ok fl =>
      cases fl with
      | next => exact False.elim z
      | brk => exact False.elim z
      | cont => exact False.elim z
      | ret u =>
        obtain ⟨v, H', os, bare, un, ok', rv, ev⟩ := z
        have ev' : v = .bl true := ev
        subst ev'
        obtain rfl : u = Value.bool true := rv
        refine ⟨rfl, OldK.of_keep fun b ob hb => ?_, os, bare⟩
        cases hH : H b with
        | none =>
          refine un.keep b ob hb hH (fun hm => ?_) (by simp)
          have hm' : b ∈ ([] : List Addr) := hm
          cases hm'
        | some u =>
          obtain ⟨rfl, _, rfl⟩ := only b u hH
          obtain ⟨e1, _⟩ := ok b _ hH
          obtain ⟨e2, _⟩ := ok' b _ (un.frzs b _ _ hH)
          rw [hb] at e1
          cases e1
          exact e2
  by_cases hk : K.lookup a = none
  · refine key (fun b => if b = a then some (.frz { cls := .type "list", data := .seq vs.toArray } (.lst (ns.map V.int))) else none) (fun b u z => ?_) (.inl (.inr ⟨_, if_pos rfl⟩)) (fun b u z => ?_)
    · try dsimp only at z
      by_cases hb : b = a
      · rw [if_pos hb] at z
        exact ⟨hb, hk, (Option.some.inj z).symm⟩
      · rw [if_neg hb] at z
        cases z
    · try dsimp only at z
      by_cases hb : b = a
      · rw [if_pos hb] at z
        cases z
        subst hb
        exact ⟨hobj, by rw [List.length_map]; exact long, vs, _, rel, hobj⟩
      · rw [if_neg hb] at z
        cases z
  · obtain ⟨ob, hob⟩ := Option.ne_none_iff_exists'.mp hk
    have same := inK a ob hob
    rw [hobj] at same
    cases same
    refine key (fun _ => none) (fun b u z => by cases z) (.inr ⟨_, vs.toArray, _, hob, rfl, rfl, rfl, ?_, by simpa using rel⟩) (fun b u z => by cases z)
    rw [List.size_toArray, hints.length]
    exact long
end FoHd
set_option Elab.async false
set_option linter.all false
set_option maxRecDepth 100000
set_option maxHeartbeats 0
namespace Fo
open PySem L2
def top (i : Nat) : Stmt := PySem.Challenge.pw_filledonce_k29_meshes_made.main.body.getD i (.Pass ⟨0, 0, 0, 0⟩)
abbrev sWhole : Stmt := top 9
abbrev sInit : Stmt := inClass (top 12) 0
abbrev sAdd : Stmt := inClass (top 12) 3
abbrev sSub : Stmt := inClass (top 12) 5
abbrev sCross : Stmt := inClass (top 12) 9
abbrev sMul : Stmt := inClass (top 12) 7
abbrev sEq : Stmt := inClass (top 12) 2
abbrev sPairM : Stmt := inClass (top 12) 10
abbrev sIsPoint : Stmt := top 13
abbrev sAsPoint : Stmt := top 14
abbrev sOperand : Stmt := top 15
abbrev sSide : Stmt := top 16
abbrev sHand : Stmt := top 25
abbrev sDraw : Stmt := top 26
abbrev sPair : Stmt := top 27
abbrev sTInit : Stmt := inClass (top 18) 0
abbrev sCorners : Stmt := inClass (top 18) 1
abbrev sEdges : Stmt := inClass (top 18) 2
abbrev sArea : Stmt := inClass (top 18) 3
abbrev sMoved : Stmt := inClass (top 18) 4
abbrev sTIn : Stmt := inClass (top 18) 5
abbrev sTEq : Stmt := inClass (top 18) 6
abbrev sLSide : Stmt := top 28
abbrev sCorn : Stmt := top 29
abbrev sWays : Stmt := top 30
abbrev sCut : Stmt := top 20
abbrev sApart : Stmt := top 19
abbrev sMInit : Stmt := inClass (top 23) 0
abbrev sMTris : Stmt := inClass (top 23) 1
abbrev sCP : Stmt := top 31
abbrev sSplit : Stmt := top 32
abbrev sLMesh : Stmt := top 33
abbrev sLaid : Stmt := top 34
abbrev sIsIx : Stmt := top 10
abbrev sMLen : Stmt := inClass (top 23) 2
abbrev sMGet : Stmt := inClass (top 23) 3
abbrev sMSet : Stmt := inClass (top 23) 4
abbrev sMEq : Stmt := inClass (top 23) 6
abbrev sLPt : Stmt := top 35
abbrev sLEr : Stmt := top 36
abbrev sLAs : Stmt := top 37
abbrev sLPu : Stmt := top 38
abbrev sLRd : Stmt := top 42
abbrev sLDu : Stmt := top 39
abbrev sLPd : Stmt := top 40
abbrev sLMv : Stmt := top 41
abbrev sLFr : Stmt := top 43
abbrev sLaw : Stmt := top 44
abbrev sEEm : Stmt := inClass (top 6) 0
abbrev sEEo : Stmt := inClass (top 7) 0
abbrev sEEn : Stmt := inClass (top 4) 0
def as_ : List Addr := List.range 537
def d_W : FoHd.DefF := ⟨146, "is_whole", "is_whole", defArgs sWhole, defBody sWhole, defScope sWhole, []⟩
def d_I : FoHd.DefF := ⟨167, "__init__", "Point.__init__", defArgs sInit, defBody sInit, defScope sInit, []⟩
def d_P : FoHd.DefF := ⟨254, "is_point", "is_point", defArgs sIsPoint, defBody sIsPoint, defScope sIsPoint, []⟩
def d_A : FoHd.DefF := ⟨261, "as_point", "as_point", defArgs sAsPoint, defBody sAsPoint, defScope sAsPoint, []⟩
def d_O : FoHd.DefF := ⟨268, "operand", "operand", defArgs sOperand, defBody sOperand, defScope sOperand, []⟩
def d_S : FoHd.DefF := ⟨275, "side", "side", defArgs sSide, defBody sSide, defScope sSide, []⟩
def d_TI : FoHd.DefF := ⟨289, "__init__", "Triangle.__init__", defArgs sTInit, defBody sTInit, defScope sTInit, []⟩
def d_Co : FoHd.DefF := ⟨296, "corners", "Triangle.corners", defArgs sCorners, defBody sCorners, defScope sCorners, []⟩
def d_Ed : FoHd.DefF := ⟨303, "edges", "Triangle.edges", defArgs sEdges, defBody sEdges, defScope sEdges, []⟩
def d_Ar : FoHd.DefF := ⟨310, "area2", "Triangle.area2", defArgs sArea, defBody sArea, defScope sArea, []⟩
def d_Eq : FoHd.DefF := ⟨184, "__eq__", "Point.__eq__", defArgs sEq, defBody sEq, defScope sEq, []⟩
def d_Ad : FoHd.DefF := ⟨191, "__add__", "Point.__add__", defArgs sAdd, defBody sAdd, defScope sAdd, []⟩
def d_Cu : FoHd.DefF := ⟨349, "is_cut_off", "is_cut_off", defArgs sCut, defBody sCut, defScope sCut, []⟩
def d_Ap : FoHd.DefF := ⟨344, "apart", "apart", defArgs sApart, defBody sApart, defScope sApart, []⟩
def d_MI : FoHd.DefF := ⟨363, "__init__", "Mesh.__init__", defArgs sMInit, defBody sMInit, defScope sMInit, []⟩
def d_MT : FoHd.DefF := ⟨370, "triangles", "Mesh.triangles", defArgs sMTris, defBody sMTris, defScope sMTris, []⟩
def d_Ix : FoHd.DefF := ⟨153, "is_index", "is_index", defArgs sIsIx, defBody sIsIx, defScope sIsIx, []⟩
def d_ML : FoHd.DefF := ⟨377, "__len__", "Mesh.__len__", defArgs sMLen, defBody sMLen, defScope sMLen, []⟩
def d_MG : FoHd.DefF := ⟨384, "__getitem__", "Mesh.__getitem__", defArgs sMGet, defBody sMGet, defScope sMGet, []⟩
def d_MW : FoHd.DefF := ⟨391, "__setitem__", "Mesh.__setitem__", defArgs sMSet, defBody sMSet, defScope sMSet, []⟩
def d_MQ : FoHd.DefF := ⟨405, "__eq__", "Mesh.__eq__", defArgs sMEq, defBody sMEq, defScope sMEq, []⟩
def d_TQ : FoHd.DefF := ⟨330, "__eq__", "Triangle.__eq__", defArgs sTEq, defBody sTEq, defScope sTEq, []⟩
def d_gEm : FoHd.DefF := ⟨113, "__init__", "InvalidMesh.__init__", defArgs sEEm, defBody sEEm, defScope sEEm, [("__class__", 101)]⟩
def d_gEo : FoHd.DefF := ⟨134, "__init__", "Overlap.__init__", defArgs sEEo, defBody sEEo, defScope sEEo, [("__class__", 122)]⟩
def d_gEn : FoHd.DefF := ⟨71, "__init__", "InvalidNumber.__init__", defArgs sEEn, defBody sEEn, defScope sEEn, [("__class__", 59)]⟩
def d_Hd : FoHd.DefF := ⟨419, "_law_hand", "_law_hand", defArgs sHand, defBody sHand, defScope sHand, []⟩
def d_D : FoHd.DefF := ⟨426, "_law_draw", "_law_draw", defArgs sDraw, defBody sDraw, defScope sDraw, []⟩
def d_Pr : FoHd.DefF := ⟨433, "_law_pair", "_law_pair", defArgs sPair, defBody sPair, defScope sPair, []⟩
def d_Ls : FoHd.DefF := ⟨440, "_law_side", "_law_side", defArgs sLSide, defBody sLSide, defScope sLSide, []⟩
def d_Wy : FoHd.DefF := ⟨452, "_law_ways", "_law_ways", defArgs sWays, defBody sWays, defScope sWays, []⟩
def d_Cp : FoHd.DefF := ⟨457, "_law_corner_points", "_law_corner_points", defArgs sCP, defBody sCP, defScope sCP, []⟩
def d_Spl : FoHd.DefF := ⟨464, "_law_split", "_law_split", defArgs sSplit, defBody sSplit, defScope sSplit, []⟩
def d_Lm : FoHd.DefF := ⟨469, "_law_mesh", "_law_mesh", defArgs sLMesh, defBody sLMesh, defScope sLMesh, []⟩
def d_Ld : FoHd.DefF := ⟨474, "_law_laid", "_law_laid", defArgs sLaid, defBody sLaid, defScope sLaid, []⟩
def d_Lpt : FoHd.DefF := ⟨479, "_law_parted", "_law_parted", defArgs sLPt, defBody sLPt, defScope sLPt, []⟩
def d_Ler : FoHd.DefF := ⟨486, "_law_error", "_law_error", defArgs sLEr, defBody sLEr, defScope sLEr, []⟩
def d_Las : FoHd.DefF := ⟨493, "_law_asked", "_law_asked", defArgs sLAs, defBody sLAs, defScope sLAs, []⟩
def d_Lpu : FoHd.DefF := ⟨500, "_law_put", "_law_put", defArgs sLPu, defBody sLPu, defScope sLPu, []⟩
def d_Lrd : FoHd.DefF := ⟨524, "_law_read", "_law_read", defArgs sLRd, defBody sLRd, defScope sLRd, []⟩
def d_Ldu : FoHd.DefF := ⟨507, "_law_due", "_law_due", defArgs sLDu, defBody sLDu, defScope sLDu, []⟩
def d_Lpd : FoHd.DefF := ⟨512, "_law_put_due", "_law_put_due", defArgs sLPd, defBody sLPd, defScope sLPd, []⟩
def d_Lmv : FoHd.DefF := ⟨517, "_law_moved", "_law_moved", defArgs sLMv, defBody sLMv, defScope sLMv, []⟩
def d_Lfr : FoHd.DefF := ⟨531, "_law_from", "_law_from", defArgs sLFr, defBody sLFr, defScope sLFr, []⟩
def d_Z : FoHd.DefF := ⟨536, "law", "law", defArgs sLaw, defBody sLaw, defScope sLaw, []⟩
def q_aC (K : PySem.W.Frag) : Bool := decide (PySem.W.nsIn K mainGlobals "Point" = some (some (.ref 243)))
def q_pgC (K : PySem.W.Frag) : Bool := decide (PySem.W.plainGet K 243 Str.empty = true)
def q_hdC (K : PySem.W.Frag) : Bool := decide (PySem.W.hasDictIn K 243 = true)
def q_poC (K : PySem.W.Frag) : Bool := decide (PySem.W.plainOver K 243 = true)
def q_saC (K : PySem.W.Frag) : Bool := decide (PySem.W.findIn K (.ref 243) "__setattr__" = some (some (.builtin "object.__setattr__")))
def q_mkC (K : PySem.W.Frag) : Bool := decide (PySem.W.makesIn K 243 = true)
def q_kcC (K : PySem.W.Frag) : Bool := decide (PySem.W.keepIn K (.ref 243) = true)
def q_haC (K : PySem.W.Frag) : Bool := decide (PySem.W.findIn K (.ref 243) "__class__" = some (some (.builtin "object.__class__")))
def q_hmC (K : PySem.W.Frag) : Bool := decide (PySem.W.mroIn K 243 (.type "object") = some true)
def q_kkC (K : PySem.W.Frag) : Bool := decide (PySem.W.kitOne K (.ref 243) (.ref 243) = some true)
def q_sfC (K : PySem.W.Frag) : Bool := decide (PySem.W.selfFirst K 243 = true)
def q_no_C_x (K : PySem.W.Frag) : Bool := decide (PySem.W.findIn K (.ref 243) "x" = some none)
def q_no_C_y (K : PySem.W.Frag) : Bool := decide (PySem.W.findIn K (.ref 243) "y" = some none)
def q_hn (K : PySem.W.Frag) : Bool := decide (PySem.W.specialIn K (.builtin "object.__class__") "__get__" = some (some (.builtin "getset_descriptor.__get__")))
def q_htk (K : PySem.W.Frag) : Bool := decide (PySem.W.takesIn K (.builtin "object.__class__") = some true)
def q_kTC (K : PySem.W.Frag) : Bool := decide (PySem.W.kitOne K (.type "tuple") (.ref 243) = some false)
def q_aW (K : PySem.W.Frag) : Bool := decide (PySem.W.nsIn K mainGlobals "is_whole" = some (some (.ref 146)))
def q_aI (K : PySem.W.Frag) : Bool := decide (PySem.W.findIn K (.ref 243) "__init__" = some (some (.ref 167)))
def q_iI (K : PySem.W.Frag) : Bool := decide (PySem.W.isFn K (.ref 167) = true)
def q_aP (K : PySem.W.Frag) : Bool := decide (PySem.W.nsIn K mainGlobals "is_point" = some (some (.ref 254)))
def q_aA (K : PySem.W.Frag) : Bool := decide (PySem.W.nsIn K mainGlobals "as_point" = some (some (.ref 261)))
def q_aO (K : PySem.W.Frag) : Bool := decide (PySem.W.nsIn K mainGlobals "operand" = some (some (.ref 268)))
def q_z_isinstance (K : PySem.W.Frag) : Bool := decide (PySem.W.nsIn K mainGlobals "isinstance" = some none)
def q_z_len (K : PySem.W.Frag) : Bool := decide (PySem.W.nsIn K mainGlobals "len" = some none)
def q_z_int (K : PySem.W.Frag) : Bool := decide (PySem.W.nsIn K mainGlobals "int" = some none)
def q_z_bool (K : PySem.W.Frag) : Bool := decide (PySem.W.nsIn K mainGlobals "bool" = some none)
def q_z_tuple (K : PySem.W.Frag) : Bool := decide (PySem.W.nsIn K mainGlobals "tuple" = some none)
def q_aCT (K : PySem.W.Frag) : Bool := decide (PySem.W.nsIn K mainGlobals "Triangle" = some (some (.ref 333)))
def q_pgCT (K : PySem.W.Frag) : Bool := decide (PySem.W.plainGet K 333 Str.empty = true)
def q_hdCT (K : PySem.W.Frag) : Bool := decide (PySem.W.hasDictIn K 333 = true)
def q_poCT (K : PySem.W.Frag) : Bool := decide (PySem.W.plainOver K 333 = true)
def q_saCT (K : PySem.W.Frag) : Bool := decide (PySem.W.findIn K (.ref 333) "__setattr__" = some (some (.builtin "object.__setattr__")))
def q_mkCT (K : PySem.W.Frag) : Bool := decide (PySem.W.makesIn K 333 = true)
def q_kcCT (K : PySem.W.Frag) : Bool := decide (PySem.W.keepIn K (.ref 333) = true)
def q_haCT (K : PySem.W.Frag) : Bool := decide (PySem.W.findIn K (.ref 333) "__class__" = some (some (.builtin "object.__class__")))
def q_hmCT (K : PySem.W.Frag) : Bool := decide (PySem.W.mroIn K 333 (.type "object") = some true)
def q_kkCT (K : PySem.W.Frag) : Bool := decide (PySem.W.kitOne K (.ref 333) (.ref 333) = some true)
def q_sfCT (K : PySem.W.Frag) : Bool := decide (PySem.W.selfFirst K 333 = true)
def q_no_CT_tips (K : PySem.W.Frag) : Bool := decide (PySem.W.findIn K (.ref 333) "tips" = some none)
def q_kLT (K : PySem.W.Frag) : Bool := decide (PySem.W.kitOne K (.type "list") (.ref 333) = some false)
def q_aS (K : PySem.W.Frag) : Bool := decide (PySem.W.nsIn K mainGlobals "side" = some (some (.ref 275)))
def q_aTI (K : PySem.W.Frag) : Bool := decide (PySem.W.findIn K (.ref 333) "__init__" = some (some (.ref 289)))
def q_iTI (K : PySem.W.Frag) : Bool := decide (PySem.W.isFn K (.ref 289) = true)
def q_aCo (K : PySem.W.Frag) : Bool := decide (PySem.W.findIn K (.ref 333) "corners" = some (some (.ref 296)))
def q_iCo (K : PySem.W.Frag) : Bool := decide (PySem.W.isFn K (.ref 296) = true)
def q_aEd (K : PySem.W.Frag) : Bool := decide (PySem.W.findIn K (.ref 333) "edges" = some (some (.ref 303)))
def q_iEd (K : PySem.W.Frag) : Bool := decide (PySem.W.isFn K (.ref 303) = true)
def q_apAr (K : PySem.W.Frag) : Bool := decide (PySem.W.findIn K (.ref 333) "area2" = some (some (.ref 311)))
def q_gpAr (K : PySem.W.Frag) : Bool := decide (PySem.W.specialIn K (.ref 311) "__get__" = some (some (.builtin "property.__get__")))
def q_tpAr (K : PySem.W.Frag) : Bool := decide (PySem.W.takesIn K (.ref 311) = some true)
def q_rpAr (K : PySem.W.Frag) : Bool := FoHd.recB K 311 "property" [.ref 310]
def q_aEq (K : PySem.W.Frag) : Bool := decide (PySem.W.findIn K (.ref 243) "__eq__" = some (some (.ref 184)))
def q_iEq (K : PySem.W.Frag) : Bool := decide (PySem.W.isFn K (.ref 184) = true)
def q_aAd (K : PySem.W.Frag) : Bool := decide (PySem.W.findIn K (.ref 243) "__add__" = some (some (.ref 191)))
def q_iAd (K : PySem.W.Frag) : Bool := decide (PySem.W.isFn K (.ref 191) = true)
def q_z_list (K : PySem.W.Frag) : Bool := decide (PySem.W.nsIn K mainGlobals "list" = some none)
def q_z_all (K : PySem.W.Frag) : Bool := decide (PySem.W.nsIn K mainGlobals "all" = some none)
def q_aCM (K : PySem.W.Frag) : Bool := decide (PySem.W.nsIn K mainGlobals "Mesh" = some (some (.ref 408)))
def q_pgCM (K : PySem.W.Frag) : Bool := decide (PySem.W.plainGet K 408 Str.empty = true)
def q_hdCM (K : PySem.W.Frag) : Bool := decide (PySem.W.hasDictIn K 408 = true)
def q_poCM (K : PySem.W.Frag) : Bool := decide (PySem.W.plainOver K 408 = true)
def q_saCM (K : PySem.W.Frag) : Bool := decide (PySem.W.findIn K (.ref 408) "__setattr__" = some (some (.builtin "object.__setattr__")))
def q_mkCM (K : PySem.W.Frag) : Bool := decide (PySem.W.makesIn K 408 = true)
def q_kcCM (K : PySem.W.Frag) : Bool := decide (PySem.W.keepIn K (.ref 408) = true)
def q_haCM (K : PySem.W.Frag) : Bool := decide (PySem.W.findIn K (.ref 408) "__class__" = some (some (.builtin "object.__class__")))
def q_hmCM (K : PySem.W.Frag) : Bool := decide (PySem.W.mroIn K 408 (.type "object") = some true)
def q_kkCM (K : PySem.W.Frag) : Bool := decide (PySem.W.kitOne K (.ref 408) (.ref 408) = some true)
def q_sfCM (K : PySem.W.Frag) : Bool := decide (PySem.W.selfFirst K 408 = true)
def q_no_CM_pieces (K : PySem.W.Frag) : Bool := decide (PySem.W.findIn K (.ref 408) "pieces" = some none)
def q_aMO (K : PySem.W.Frag) : Bool := FoHd.intB K "MOST_TRIANGLES" 60
def q_aCu (K : PySem.W.Frag) : Bool := decide (PySem.W.nsIn K mainGlobals "is_cut_off" = some (some (.ref 349)))
def q_aAp (K : PySem.W.Frag) : Bool := decide (PySem.W.nsIn K mainGlobals "apart" = some (some (.ref 344)))
def q_aMI (K : PySem.W.Frag) : Bool := decide (PySem.W.findIn K (.ref 408) "__init__" = some (some (.ref 363)))
def q_iMI (K : PySem.W.Frag) : Bool := decide (PySem.W.isFn K (.ref 363) = true)
def q_aMT (K : PySem.W.Frag) : Bool := decide (PySem.W.findIn K (.ref 408) "triangles" = some (some (.ref 370)))
def q_iMT (K : PySem.W.Frag) : Bool := decide (PySem.W.isFn K (.ref 370) = true)
def q_z_range (K : PySem.W.Frag) : Bool := decide (PySem.W.nsIn K mainGlobals "range" = some none)
def q_z_any (K : PySem.W.Frag) : Bool := decide (PySem.W.nsIn K mainGlobals "any" = some none)
def q_z_enumerate (K : PySem.W.Frag) : Bool := decide (PySem.W.nsIn K mainGlobals "enumerate" = some none)
def q_fiMG (K : PySem.W.Frag) : Bool := decide (PySem.W.fnIn K 384 = true)
def q_nsM (K : PySem.W.Frag) : Bool := decide (PySem.W.noSeq K 408 = true)
def q_neM (K : PySem.W.Frag) : Bool := decide (PySem.W.findIn K (.ref 408) "__ne__" = some (some (.builtin "object.__ne__")))
def q_ntM (K : PySem.W.Frag) : Bool := decide (PySem.W.notFirst K 408 (.type "tuple") = true)
def q_nlM (K : PySem.W.Frag) : Bool := decide (PySem.W.notFirst K 408 (.type "list") = true)
def q_kLM (K : PySem.W.Frag) : Bool := decide (PySem.W.kitOne K (.type "list") (.ref 408) = some false)
def q_kNT (K : PySem.W.Frag) : Bool := decide (PySem.W.kitOne K (.type "NoneType") (.ref 333) = some false)
def q_neT (K : PySem.W.Frag) : Bool := decide (PySem.W.findIn K (.ref 333) "__ne__" = some (some (.builtin "object.__ne__")))
def q_ntT (K : PySem.W.Frag) : Bool := decide (PySem.W.notFirst K 333 (.type "tuple") = true)
def q_aIx (K : PySem.W.Frag) : Bool := decide (PySem.W.nsIn K mainGlobals "is_index" = some (some (.ref 153)))
def q_aML (K : PySem.W.Frag) : Bool := decide (PySem.W.findIn K (.ref 408) "__len__" = some (some (.ref 377)))
def q_iML (K : PySem.W.Frag) : Bool := decide (PySem.W.isFn K (.ref 377) = true)
def q_aMG (K : PySem.W.Frag) : Bool := decide (PySem.W.findIn K (.ref 408) "__getitem__" = some (some (.ref 384)))
def q_iMG (K : PySem.W.Frag) : Bool := decide (PySem.W.isFn K (.ref 384) = true)
def q_aMW (K : PySem.W.Frag) : Bool := decide (PySem.W.findIn K (.ref 408) "__setitem__" = some (some (.ref 391)))
def q_iMW (K : PySem.W.Frag) : Bool := decide (PySem.W.isFn K (.ref 391) = true)
def q_aMQ (K : PySem.W.Frag) : Bool := decide (PySem.W.findIn K (.ref 408) "__eq__" = some (some (.ref 405)))
def q_iMQ (K : PySem.W.Frag) : Bool := decide (PySem.W.isFn K (.ref 405) = true)
def q_aTQ (K : PySem.W.Frag) : Bool := decide (PySem.W.findIn K (.ref 333) "__eq__" = some (some (.ref 330)))
def q_iTQ (K : PySem.W.Frag) : Bool := decide (PySem.W.isFn K (.ref 330) = true)
def q_aCF (K : PySem.W.Frag) : Bool := decide (PySem.W.nsIn K mainGlobals "FillError" = some (some (.ref 31)))
def q_tpI (K : PySem.W.Frag) : Bool := decide (PySem.W.nsIn K cStatics "thirdparty.any" = some none)
def q_aCEm (K : PySem.W.Frag) : Bool := decide (PySem.W.nsIn K mainGlobals "InvalidMesh" = some (some (.ref 116)))
def q_excEm (K : PySem.W.Frag) : Bool := FoHd.excB K 116
def q_saEm (K : PySem.W.Frag) : Bool := decide (PySem.W.findIn K (.ref 116) "__setattr__" = some (some (.builtin "object.__setattr__")))
def q_gaEm (K : PySem.W.Frag) : Bool := decide (PySem.W.findIn K (.ref 116) "__getattribute__" = some (some (.builtin "BaseException.__getattribute__")))
def q_ggEm (K : PySem.W.Frag) : Bool := decide (PySem.W.findIn K (.ref 116) "__getattr__" = some none)
def q_noEm (K : PySem.W.Frag) : Bool := decide (PySem.W.findIn K (.ref 116) (Str.ofString "number") = some none)
def q_inEm (K : PySem.W.Frag) : Bool := decide (PySem.W.findIn K (.ref 116) "__init__" = some (some (.ref 113)))
def q_tyEm (K : PySem.W.Frag) : Bool := decide (PySem.W.typeIn K (.ref 113) = some (.type "function"))
def q_kpEm (K : PySem.W.Frag) : Bool := decide (PySem.W.keepIn K (.ref 116) = true)
def q_exEm (K : PySem.W.Frag) : Bool := decide (PySem.W.subIn K (.ref 116) (.type "BaseException") = some true)
def q_tcEm (K : PySem.W.Frag) : Bool := decide (PySem.W.typeIn K (.ref 116) = some (.type "type"))
def q_hdEm (K : PySem.W.Frag) : Bool := decide (PySem.W.hasDictIn K 116 = true)
def q_suEm (K : PySem.W.Frag) : Bool := decide (PySem.W.ks_superIn K 116 116 "__init__" = some (some (.builtin "ValueError.__init__")))
def q_veEm (K : PySem.W.Frag) : Bool := decide (PySem.W.subIn K (.ref 116) (.type "ValueError") = some true)
def q_mrEm (K : PySem.W.Frag) : Bool := decide (PySem.W.mroIn K 116 (.ref 116) = some true)
def q_fileEm (K : PySem.W.Frag) : Bool := FoHd.fileB K 113 PySem.Challenge.pw_filledonce_k29_meshes_made.main.file
def q_cellEm (K : PySem.W.Frag) : Bool := FoHd.cellB K 101 116
def q_caEm (K : PySem.W.Frag) : Bool := decide (PySem.W.findIn K (.ref 116) "__class__" = some (some (.builtin "object.__class__")))
def q_moEm (K : PySem.W.Frag) : Bool := decide (PySem.W.mroIn K 116 (.type "object") = some true)
def q_emEm (K : PySem.W.Frag) : Bool := decide (PySem.W.exmOne K (.ref 116) (.ref 31) = some true)
def q_ksEm (K : PySem.W.Frag) : Bool := decide (PySem.W.kitOne K (.ref 116) (.ref 116) = some true)
def q_z_super (K : PySem.W.Frag) : Bool := decide (PySem.W.nsIn K mainGlobals "super" = some none)
def q_aCEo (K : PySem.W.Frag) : Bool := decide (PySem.W.nsIn K mainGlobals "Overlap" = some (some (.ref 137)))
def q_excEo (K : PySem.W.Frag) : Bool := FoHd.excB K 137
def q_saEo (K : PySem.W.Frag) : Bool := decide (PySem.W.findIn K (.ref 137) "__setattr__" = some (some (.builtin "object.__setattr__")))
def q_gaEo (K : PySem.W.Frag) : Bool := decide (PySem.W.findIn K (.ref 137) "__getattribute__" = some (some (.builtin "BaseException.__getattribute__")))
def q_ggEo (K : PySem.W.Frag) : Bool := decide (PySem.W.findIn K (.ref 137) "__getattr__" = some none)
def q_noPEo (K : PySem.W.Frag) : Bool := decide (PySem.W.findIn K (.ref 137) (Str.ofString "number") = some none)
def q_noEo (K : PySem.W.Frag) : Bool := decide (PySem.W.findIn K (.ref 137) (Str.ofString "other") = some none)
def q_inEo (K : PySem.W.Frag) : Bool := decide (PySem.W.findIn K (.ref 137) "__init__" = some (some (.ref 134)))
def q_tyEo (K : PySem.W.Frag) : Bool := decide (PySem.W.typeIn K (.ref 134) = some (.type "function"))
def q_kpEo (K : PySem.W.Frag) : Bool := decide (PySem.W.keepIn K (.ref 137) = true)
def q_exEo (K : PySem.W.Frag) : Bool := decide (PySem.W.subIn K (.ref 137) (.type "BaseException") = some true)
def q_tcEo (K : PySem.W.Frag) : Bool := decide (PySem.W.typeIn K (.ref 137) = some (.type "type"))
def q_hdEo (K : PySem.W.Frag) : Bool := decide (PySem.W.hasDictIn K 137 = true)
def q_suEo (K : PySem.W.Frag) : Bool := decide (PySem.W.ks_superIn K 137 137 "__init__" = some (some (.builtin "ValueError.__init__")))
def q_veEo (K : PySem.W.Frag) : Bool := decide (PySem.W.subIn K (.ref 137) (.type "ValueError") = some true)
def q_mrEo (K : PySem.W.Frag) : Bool := decide (PySem.W.mroIn K 137 (.ref 137) = some true)
def q_fileEo (K : PySem.W.Frag) : Bool := FoHd.fileB K 134 PySem.Challenge.pw_filledonce_k29_meshes_made.main.file
def q_cellEo (K : PySem.W.Frag) : Bool := FoHd.cellB K 122 137
def q_caEo (K : PySem.W.Frag) : Bool := decide (PySem.W.findIn K (.ref 137) "__class__" = some (some (.builtin "object.__class__")))
def q_moEo (K : PySem.W.Frag) : Bool := decide (PySem.W.mroIn K 137 (.type "object") = some true)
def q_emEo (K : PySem.W.Frag) : Bool := decide (PySem.W.exmOne K (.ref 137) (.ref 31) = some true)
def q_ksEo (K : PySem.W.Frag) : Bool := decide (PySem.W.kitOne K (.ref 137) (.ref 137) = some true)
def q_aCEn (K : PySem.W.Frag) : Bool := decide (PySem.W.nsIn K mainGlobals "InvalidNumber" = some (some (.ref 74)))
def q_excEn (K : PySem.W.Frag) : Bool := FoHd.excB K 74
def q_saEn (K : PySem.W.Frag) : Bool := decide (PySem.W.findIn K (.ref 74) "__setattr__" = some (some (.builtin "object.__setattr__")))
def q_gaEn (K : PySem.W.Frag) : Bool := decide (PySem.W.findIn K (.ref 74) "__getattribute__" = some (some (.builtin "BaseException.__getattribute__")))
def q_ggEn (K : PySem.W.Frag) : Bool := decide (PySem.W.findIn K (.ref 74) "__getattr__" = some none)
def q_noEn (K : PySem.W.Frag) : Bool := decide (PySem.W.findIn K (.ref 74) (Str.ofString "number") = some none)
def q_inEn (K : PySem.W.Frag) : Bool := decide (PySem.W.findIn K (.ref 74) "__init__" = some (some (.ref 71)))
def q_tyEn (K : PySem.W.Frag) : Bool := decide (PySem.W.typeIn K (.ref 71) = some (.type "function"))
def q_kpEn (K : PySem.W.Frag) : Bool := decide (PySem.W.keepIn K (.ref 74) = true)
def q_exEn (K : PySem.W.Frag) : Bool := decide (PySem.W.subIn K (.ref 74) (.type "BaseException") = some true)
def q_tcEn (K : PySem.W.Frag) : Bool := decide (PySem.W.typeIn K (.ref 74) = some (.type "type"))
def q_hdEn (K : PySem.W.Frag) : Bool := decide (PySem.W.hasDictIn K 74 = true)
def q_suEn (K : PySem.W.Frag) : Bool := decide (PySem.W.ks_superIn K 74 74 "__init__" = some (some (.builtin "ValueError.__init__")))
def q_veEn (K : PySem.W.Frag) : Bool := decide (PySem.W.subIn K (.ref 74) (.type "ValueError") = some true)
def q_mrEn (K : PySem.W.Frag) : Bool := decide (PySem.W.mroIn K 74 (.ref 74) = some true)
def q_fileEn (K : PySem.W.Frag) : Bool := FoHd.fileB K 71 PySem.Challenge.pw_filledonce_k29_meshes_made.main.file
def q_cellEn (K : PySem.W.Frag) : Bool := FoHd.cellB K 59 74
def q_caEn (K : PySem.W.Frag) : Bool := decide (PySem.W.findIn K (.ref 74) "__class__" = some (some (.builtin "object.__class__")))
def q_moEn (K : PySem.W.Frag) : Bool := decide (PySem.W.mroIn K 74 (.type "object") = some true)
def q_emEn (K : PySem.W.Frag) : Bool := decide (PySem.W.exmOne K (.ref 74) (.ref 31) = some true)
def q_ksEn (K : PySem.W.Frag) : Bool := decide (PySem.W.kitOne K (.ref 74) (.ref 74) = some true)
def q_kkEmEo (K : PySem.W.Frag) : Bool := decide (PySem.W.kitOne K (.ref 116) (.ref 137) = some false)
def q_kkEnEo (K : PySem.W.Frag) : Bool := decide (PySem.W.kitOne K (.ref 74) (.ref 137) = some false)
def q_kkEnEm (K : PySem.W.Frag) : Bool := decide (PySem.W.kitOne K (.ref 74) (.ref 116) = some false)
def q_z_repr (K : PySem.W.Frag) : Bool := decide (PySem.W.nsIn K mainGlobals "repr" = some none)
def q_z_max (K : PySem.W.Frag) : Bool := decide (PySem.W.nsIn K mainGlobals "max" = some none)
def q_z_min (K : PySem.W.Frag) : Bool := decide (PySem.W.nsIn K mainGlobals "min" = some none)
def q_aHd (K : PySem.W.Frag) : Bool := decide (PySem.W.nsIn K mainGlobals "_law_hand" = some (some (.ref 419)))
def q_aD (K : PySem.W.Frag) : Bool := decide (PySem.W.nsIn K mainGlobals "_law_draw" = some (some (.ref 426)))
def q_aPr (K : PySem.W.Frag) : Bool := decide (PySem.W.nsIn K mainGlobals "_law_pair" = some (some (.ref 433)))
def q_aLs (K : PySem.W.Frag) : Bool := decide (PySem.W.nsIn K mainGlobals "_law_side" = some (some (.ref 440)))
def q_aWy (K : PySem.W.Frag) : Bool := decide (PySem.W.nsIn K mainGlobals "_law_ways" = some (some (.ref 452)))
def q_aCp (K : PySem.W.Frag) : Bool := decide (PySem.W.nsIn K mainGlobals "_law_corner_points" = some (some (.ref 457)))
def q_aSpl (K : PySem.W.Frag) : Bool := decide (PySem.W.nsIn K mainGlobals "_law_split" = some (some (.ref 464)))
def q_aLm (K : PySem.W.Frag) : Bool := decide (PySem.W.nsIn K mainGlobals "_law_mesh" = some (some (.ref 469)))
def q_aLd (K : PySem.W.Frag) : Bool := decide (PySem.W.nsIn K mainGlobals "_law_laid" = some (some (.ref 474)))
def q_aLpt (K : PySem.W.Frag) : Bool := decide (PySem.W.nsIn K mainGlobals "_law_parted" = some (some (.ref 479)))
def q_aLer (K : PySem.W.Frag) : Bool := decide (PySem.W.nsIn K mainGlobals "_law_error" = some (some (.ref 486)))
def q_aLas (K : PySem.W.Frag) : Bool := decide (PySem.W.nsIn K mainGlobals "_law_asked" = some (some (.ref 493)))
def q_aLpu (K : PySem.W.Frag) : Bool := decide (PySem.W.nsIn K mainGlobals "_law_put" = some (some (.ref 500)))
def q_aLrd (K : PySem.W.Frag) : Bool := decide (PySem.W.nsIn K mainGlobals "_law_read" = some (some (.ref 524)))
def q_aLdu (K : PySem.W.Frag) : Bool := decide (PySem.W.nsIn K mainGlobals "_law_due" = some (some (.ref 507)))
def q_aLpd (K : PySem.W.Frag) : Bool := decide (PySem.W.nsIn K mainGlobals "_law_put_due" = some (some (.ref 512)))
def q_aLmv (K : PySem.W.Frag) : Bool := decide (PySem.W.nsIn K mainGlobals "_law_moved" = some (some (.ref 517)))
def q_aLfr (K : PySem.W.Frag) : Bool := decide (PySem.W.nsIn K mainGlobals "_law_from" = some (some (.ref 531)))
def q_aZ (K : PySem.W.Frag) : Bool := decide (PySem.W.nsIn K mainGlobals "law" = some (some (.ref 536)))
def fs_ : List (PySem.W.Frag → Bool) := q_aC :: q_pgC :: q_hdC :: q_poC :: q_saC :: q_mkC :: q_kcC :: q_haC :: q_hmC :: q_kkC :: q_sfC :: q_no_C_x :: q_no_C_y :: q_hn :: q_htk :: q_kTC :: q_aW :: q_aI :: q_iI :: q_aP :: q_aA :: q_aO :: q_z_isinstance :: q_z_len :: q_z_int :: q_z_bool :: q_z_tuple :: q_aCT :: q_pgCT :: q_hdCT :: q_poCT :: q_saCT :: q_mkCT :: q_kcCT :: q_haCT :: q_hmCT :: q_kkCT :: q_sfCT :: q_no_CT_tips :: q_kLT :: q_aS :: q_aTI :: q_iTI :: q_aCo :: q_iCo :: q_aEd :: q_iEd :: q_apAr :: q_gpAr :: q_tpAr :: q_rpAr :: q_aEq :: q_iEq :: q_aAd :: q_iAd :: q_z_list :: q_z_all :: q_aCM :: q_pgCM :: q_hdCM :: q_poCM :: q_saCM :: q_mkCM :: q_kcCM :: q_haCM :: q_hmCM :: q_kkCM :: q_sfCM :: q_no_CM_pieces :: q_aMO :: q_aCu :: q_aAp :: q_aMI :: q_iMI :: q_aMT :: q_iMT :: q_z_range :: q_z_any :: q_z_enumerate :: q_fiMG :: q_nsM :: q_neM :: q_ntM :: q_nlM :: q_kLM :: q_kNT :: q_neT :: q_ntT :: q_aIx :: q_aML :: q_iML :: q_aMG :: q_iMG :: q_aMW :: q_iMW :: q_aMQ :: q_iMQ :: q_aTQ :: q_iTQ :: q_aCF :: q_tpI :: q_aCEm :: q_excEm :: q_saEm :: q_gaEm :: q_ggEm :: q_noEm :: q_inEm :: q_tyEm :: q_kpEm :: q_exEm :: q_tcEm :: q_hdEm :: q_suEm :: q_veEm :: q_mrEm :: q_fileEm :: q_cellEm :: q_caEm :: q_moEm :: q_emEm :: q_ksEm :: q_z_super :: q_aCEo :: q_excEo :: q_saEo :: q_gaEo :: q_ggEo :: q_noPEo :: q_noEo :: q_inEo :: q_tyEo :: q_kpEo :: q_exEo :: q_tcEo :: q_hdEo :: q_suEo :: q_veEo :: q_mrEo :: q_fileEo :: q_cellEo :: q_caEo :: q_moEo :: q_emEo :: q_ksEo :: q_aCEn :: q_excEn :: q_saEn :: q_gaEn :: q_ggEn :: q_noEn :: q_inEn :: q_tyEn :: q_kpEn :: q_exEn :: q_tcEn :: q_hdEn :: q_suEn :: q_veEn :: q_mrEn :: q_fileEn :: q_cellEn :: q_caEn :: q_moEn :: q_emEn :: q_ksEn :: q_kkEmEo :: q_kkEnEo :: q_kkEnEm :: q_z_repr :: q_z_max :: q_z_min :: q_aHd :: q_aD :: q_aPr :: q_aLs :: q_aWy :: q_aCp :: q_aSpl :: q_aLm :: q_aLd :: q_aLpt :: q_aLer :: q_aLas :: q_aLpu :: q_aLrd :: q_aLdu :: q_aLpd :: q_aLmv :: q_aLfr :: q_aZ :: []
def fn_ : List FoHd.DefF := d_W :: d_I :: d_P :: d_A :: d_O :: d_S :: d_TI :: d_Co :: d_Ed :: d_Ar :: d_Eq :: d_Ad :: d_Cu :: d_Ap :: d_MI :: d_MT :: d_Ix :: d_ML :: d_MG :: d_MW :: d_MQ :: d_TQ :: d_gEm :: d_gEo :: d_gEn :: d_Hd :: d_D :: d_Pr :: d_Ls :: d_Wy :: d_Cp :: d_Spl :: d_Lm :: d_Ld :: d_Lpt :: d_Ler :: d_Las :: d_Lpu :: d_Lrd :: d_Ldu :: d_Lpd :: d_Lmv :: d_Lfr :: d_Z :: []
abbrev R_ : PySem.W.OpenRow := PySem.W.OpenLaw.row PySem.Challenge.rw_filledonce_k29_meshes_made
def names_ : List PySem.Str := ("_wall" : PySem.Str) :: ("FillError" : PySem.Str) :: ("InvalidPoint" : PySem.Str) :: ("InvalidNumber" : PySem.Str) :: ("Flat" : PySem.Str) :: ("InvalidMesh" : PySem.Str) :: ("Overlap" : PySem.Str) :: ("is_whole" : PySem.Str) :: ("is_index" : PySem.Str) :: ("Point" : PySem.Str) :: ("is_point" : PySem.Str) :: ("as_point" : PySem.Str) :: ("operand" : PySem.Str) :: ("side" : PySem.Str) :: ("Triangle" : PySem.Str) :: ("apart" : PySem.Str) :: ("is_cut_off" : PySem.Str) :: ("MOST_TRIANGLES" : PySem.Str) :: ("Mesh" : PySem.Str) :: ("_law_hand" : PySem.Str) :: ("_law_draw" : PySem.Str) :: ("_law_pair" : PySem.Str) :: ("_law_side" : PySem.Str) :: ("_law_corners" : PySem.Str) :: ("_law_ways" : PySem.Str) :: ("_law_corner_points" : PySem.Str) :: ("_law_split" : PySem.Str) :: ("_law_mesh" : PySem.Str) :: ("_law_laid" : PySem.Str) :: ("_law_parted" : PySem.Str) :: ("_law_error" : PySem.Str) :: ("_law_asked" : PySem.Str) :: ("_law_put" : PySem.Str) :: ("_law_due" : PySem.Str) :: ("_law_put_due" : PySem.Str) :: ("_law_moved" : PySem.Str) :: ("_law_read" : PySem.Str) :: ("_law_from" : PySem.Str) :: []
abbrev hk_ : PySem.W.Hook := FoHd.hookF as_ fs_ fn_
def ob_ (s : PySem.W.SharedT) : FoHd.AlF := FoHd.obsFG as_ fs_ fn_ (HandSHeadRun.getT s)
theorem ob_eq (s : PySem.W.SharedT) : ob_ s = hk_.obs s.abs := FoHd.obsFG_eq (HandSHeadRun.getT_eq s)
theorem run_ (w : World) : HandSHeadRun.RunEq R_ (PySem.W.view R_.prog [44]) hk_ ob_ 20000 names_ w := by
  intro os
  kernel_rfl
end Fo
set_option Elab.async false
set_option linter.all false
set_option maxRecDepth 100000
set_option maxHeartbeats 2000000
/-! != by an own __eq__, t.index of data -/
namespace FoOps
open PySem PySem.W PyProof.Rows
theorem slot_ne : Slot "object" "__ne__" "object.__ne__" :=
  .of (owner := "object") (n := "__ne__") (by rw [typeLookup_type, builtinLookup_eq_fast]; kernel_rfl) (by decide +kernel) (by decide +kernel) (by decide +kernel)
    (by first | exact .inl (by decide +kernel) | exact .inr (by decide +kernel)) (by rw [isSubtype_type]; kernel_rfl)
section
variable {prog : Program} {w : World} {A : Around} {E : Value → Shared → Prop} {s : Shared} {K : Frag} {x C f : Addr} {ox : Obj} {od : Option Obj} {b : Value}
theorem ne_entry {Q : Fin → Shared → Prop} (X : K.In s.heap) (I : InstAt s.heap x ox C od) (hu : A.units < cLine) (hs : findIn K (.ref C) "__eq__" = some (some (.ref f))) (hf : isFn K (.ref f) = true)
    (h : wpAny (model prog w) A (call (.ref f) [.ref x, b]) (fun v s' => ∃ k, v = .bool k ∧ Q (.done (.ret (.bool (!k)))) s') E s) :
    wpAny (model prog w) A (Builtin.«object.__ne__» ⟨[.ref x, b], []⟩) Q E s := by
  unfold Builtin.«object.__ne__»
  repeat (first
    | with_reducible refine wpAny_cRoomFor hu ?_
    | (refine wpAny_bind (m := callSpecialIfBound? (.ref x) (Str.ofString "__eq__") [b])
        (PySem.W.ifBound_K X I hs hf (wpAny_mono h (fun r s' hr => by
          obtain ⟨k, rfl, hq⟩ := hr
          repeat (first | exact hq | exact wpAny_pure hq | exact wpAny_truthy_bool hq | (refine wpAny_bind (m := truthy (.bool _)) (wpAny_truthy_bool ?_)) | wp_step)) fun _ _ e => e)))
    | wp_step)
theorem ne_own {Q : Value → Shared → Prop} (X : K.In s.heap) (I : InstAt s.heap x ox C od) (hb : Looks (model prog w) s.heap (typeOf b) (.ref C)) (hu : A.units + 1 < cLine)
    (hne : findIn K (.ref C) "__ne__" = some (some (.builtin "object.__ne__"))) (hs : findIn K (.ref C) "__eq__" = some (some (.ref f))) (hf : isFn K (.ref f) = true) (hm : mroIn K C (.type "object") = some true)
    (h : wpAny (model prog w) A.in1 (call (.ref f) [.ref x, b]) (fun v s' => ∃ k, v = .bool k ∧ Q (.bool (!k)) s') E s) : wpAny (model prog w) A (richCompare .NotEq (.ref x) b) Q E s := by
  have sub : Looks (model prog w) s.heap (isInstance (.ref x) (.type "object")) true := I.type.andThen (looks_mroIn X hm)
  have one : wpAny (model prog w) A (tryCompare (.ref x) "__ne__" b) (fun r s' => ∃ v, r = some v ∧ Q v s') E s := by
    unfold tryCompare
    refine wpAny_bind ?_
    simp only [callSpecialIfBound?, bindSpecialIfBound?]
    refine wpAny_holding (wpAny_bind (wpAny_bind (wpAny_bind (I.type.here ((looks_findIn X hne).here ?_)))))
    refine wpAny_bind (wpAny_askSetting (wpAny_ite ?_))
    have fin : wpAny (model prog w) A (call (.builtin "object.__ne__") [.ref x, b]) (fun v s' => ∃ k, v = .bool k ∧ Q (.bool k) s') E s := by
      refine wpAny_call (codeAny_call_builtin slot_ne.plain F.cmpEntry_ne (check_slot F.cmpKind_ne F.cmpSplit_ne sub (F.cmpArgs_ne _ _) ?_))
      refine ne_entry (A := A.in1) X I hu hs hf (wpAny_mono h (fun v s' hv => ?_) fun _ _ z => z)
      obtain ⟨k, rfl, q⟩ := hv
      exact ⟨k, rfl, !k, rfl, q⟩
    have fin2 : wpAny (model prog w) A (call (.builtin "object.__ne__") ([.ref x] ++ [b]) >>= fun v => pure (some v)) (fun a s₁ => wpAny (model prog w) A (match a with | some .notImplemented | none => pure none | some v => pure (some v)) (fun r s' => ∃ v, r = some v ∧ Q v s') E s₁) E s := by
      refine wpAny_bind (wpAny_mono fin (fun v s' hv => ?_) fun _ _ z => z)
      obtain ⟨k, rfl, q⟩ := hv
      exact wpAny_pure (wpAny_pure ⟨_, rfl, q⟩)
    have hbind : bindSpecial (.builtin "object.__ne__") (.ref x) = pure (.builtin "object.__ne__", [.ref x]) := slot_ne.bind _
    split
    · exact wpAny_bind (wpAny_of_eq hbind (wpAny_pure (by exact fin2)))
    · exact wpAny_tryCatch (wpAny_bind (wpAny_of_eq hbind (wpAny_pure (by exact fin2))))
  unfold richCompare
  simp only [oneThing_ref]
  refine wpAny_holding (wpAny_bind (wpAny_cRoomFor (by omega) ?_))
  refine wpAny_bind (I.type.here (wpAny_bind (hb.here ?_)))
  simp only [bne_self_eq_false, Bool.false_eq_true, if_false]
  refine wpAny_bind (wpAny_pure ?_)
  simp only [Bool.false_eq_true, if_false]
  refine wpAny_bind (wpAny_mono one (fun r s' z => ?_) fun _ _ e => e)
  obtain ⟨v, rfl, hq⟩ := z
  exact wpAny_pure hq
end
end FoOps
namespace L2
open PySem PySem.Spec PyProof.Rows
/-- an own class with an own __eq__ at f, and no __ne__ -/
structure OwnEqC (K : PySem.W.Frag) (C f : Addr) : Prop where
  eq : PySem.W.findIn K (.ref C) "__eq__" = some (some (.ref f))
  fn : PySem.W.isFn K (.ref f) = true
  ne : PySem.W.findIn K (.ref C) "__ne__" = some (some (.builtin "object.__ne__"))
  mo : PySem.W.mroIn K C (.type "object") = some true
  nt : PySem.W.notFirst K C (.type "tuple") = true
def rOwnEq (C : Addr) (sp : Sp) (E : XK) : R2 := fun x y H Q => ∃ a dx fs, x = .ref a ∧ H a = some (.ins C dx fs) ∧
  ((∃ b dy gs, y = .ref b ∧ H b = some (.ins C dy gs)) ∨ ∃ b xs, y = .ref b ∧ H b = some (.tup xs)) ∧ sp [x, y] H Q E
def rOwnNe (C : Addr) (sp : Sp) (E : XK) : R2 := fun x y H Q => ∃ a dx fs b dy gs, x = .ref a ∧ H a = some (.ins C dx fs) ∧ y = .ref b ∧ H b = some (.ins C dy gs) ∧
  sp [x, y] H (fun v H' => ∃ k, v = .bl k ∧ Q (.bl (!k)) H') E
section
variable {X : Cx} {CX : CXT} {k : Nat} {f C : Addr} {fd : FuncData} {ps : List Str} {sp : Sp} {E : XK}
theorem op_ownEq (O : OwnEqC X.K C f) (F : FnOk X.prog X.w X.K X.mg X.base CX k f fd ps sp) (hr : Room k X.A) (hb : Binds X.K fd ps []) (hx : Passes CX X E) :
    OpR X (compareOp .Eq) (rOwnEq C sp E) := by
  intro pins s σ H x y v u Q I rx ry h
  obtain ⟨a, dx, fs, rfl, ha, hy, q⟩ := h
  obtain rfl : v = Value.ref a := rx
  obtain ⟨mA, J, _⟩ := ins_get I.hok ha
  obtain ⟨od, J, _⟩ := J.look
  obtain ⟨m, hF⟩ := I.fr
  have run : wpAny (model X.prog X.w) X.A (call (.ref f) [.ref a, u]) (PySem.W.CmpBack (EP X pins σ Q)) X.xe s := by
    refine wpAny_mono (run_fn (us := [.ref a, u]) (vs := [.ref a, y]) F hr hb .nil hx I (.cons rfl (.cons ry .nil)) q) (fun r s' z => ?_) fun _ _ z => z
    obtain ⟨z1, H1, I1, rz, qz⟩ := z
    exact cmpBack_of (not_ni rz) ⟨z1, H1, I1, rz, qz⟩
  show wpAny (model X.prog X.w) X.A (richCompare .Eq (.ref a) u) (EP X pins σ Q) X.xe s
  rcases hy with ⟨b, dy, gs, rfl, hb'⟩ | ⟨b, xs, rfl, hb'⟩
  · obtain rfl : u = Value.ref b := ry
    obtain ⟨mB, J', _⟩ := ins_get I.hok hb'
    obtain ⟨od', J', _⟩ := J'.look
    exact PySem.W.cmp_K (op := .Eq) (tb := .ref C) hr.units0 hF I.ok.mod.kin J J'.type (by simp [PySem.W.notFirst]) O.eq O.fn run
  · obtain rfl : u = Value.ref b := ry
    obtain ⟨_, _, _, o, h1, h2, _⟩ := (show ObjOk X.prog X.w H s.heap b (.tup xs) from I.hok b _ hb')
    have lk : PySem.W.Looks (model X.prog X.w) s.heap (typeOf (.ref b)) (.type "tuple") := fun A Q E s' k q => wpAny_typeOf ⟨o, k _ _ h1, h2⟩ q
    exact PySem.W.cmp_K (op := .Eq) (tb := .type "tuple") hr.units0 hF I.ok.mod.kin J lk O.nt O.eq O.fn run
theorem op_ownNe (O : OwnEqC X.K C f) (F : FnOk X.prog X.w X.K X.mg X.base CX k f fd ps sp) (hr : Room (k + 1) X.A) (hb : Binds X.K fd ps []) (hx : Passes CX X E) :
    OpR X (compareOp .NotEq) (rOwnNe C sp E) := by
  intro pins s σ H x y v u Q I rx ry h
  obtain ⟨a, dx, fs, b, dy, gs, rfl, ha, rfl, hb', q⟩ := h
  obtain rfl : v = Value.ref a := rx
  obtain rfl : u = Value.ref b := ry
  obtain ⟨mA, J, _⟩ := ins_get I.hok ha
  obtain ⟨od, J, _⟩ := J.look
  obtain ⟨mB, J', _⟩ := ins_get I.hok hb'
  obtain ⟨od', J', _⟩ := J'.look
  show wpAny (model X.prog X.w) X.A (richCompare .NotEq (.ref a) (.ref b)) (EP X pins σ Q) X.xe s
  refine FoOps.ne_own I.kIn J J'.type (hu_of hr) O.ne O.eq O.fn O.mo ?_
  have hl := F.len _ _ _ _ q
  have r2 : Vals [V.ref a, V.ref b] [Value.ref a, Value.ref b] := .cons rfl (.cons rfl .nil)
  refine wpAny_call (codeAny_mono (F.run X.A.in1 X.stack s H ⟨[.ref a, .ref b], []⟩ [.ref a, .ref b] [.ref a, .ref b] _ E hr.in1 I.env0.in1 (by
    have := hb s [.ref a, .ref b] I.kIn (by simpa using hl)
    simpa using this) r2 q) fun r s' hq => ?_)
  cases r with
  | error e => exact hx pins σ H s e s' I hq
  | ok fl =>
    cases fl with
    | ret w =>
      obtain ⟨z, H', I', rz, kk, ez, ex⟩ := I.after hq
      subst ez
      cases rz
      exact ⟨kk, rfl, .bl (!kk), H', I', rfl, ex⟩
    | next => exact False.elim hq
    | brk => exact False.elim hq
    | cont => exact False.elim hq
/-- two lists of the very same objects -/
def rNeRefs : R2 := fun x y H Q => ∃ (a b : Addr) (rs : List Addr), x = .ref a ∧ y = .ref b ∧ H a = some (.lst (rs.map V.ref)) ∧ H b = some (.lst (rs.map V.ref)) ∧ Q (.bl false) H
theorem vals_refsC : ∀ {rs : List Addr} {us : List Value}, Vals (rs.map V.ref) us → us = rs.map Value.ref
  | [], _, h => by
    cases h
    rfl
  | r :: rs, _, h => by
    cases h with
    | cons h1 h2 =>
      have e1 := vals_refsC h2
      cases h1
      rw [e1]
      rfl
theorem op_neRefs (hu : X.A.units < cLine) : OpR X (compareOp .NotEq) rNeRefs := by
  intro pins s σ H x y v u Q I rx ry h
  obtain ⟨a, b, rs, rfl, rfl, ha, hb, q⟩ := h
  obtain rfl : v = Value.ref a := rx
  obtain rfl : u = Value.ref b := ry
  obtain ⟨_, its, n1, r1, e1⟩ := (show ObjOk X.prog X.w H s.heap a (.lst (rs.map V.ref)) from I.hok a _ ha)
  obtain ⟨_, its2, n2, r2, e2⟩ := (show ObjOk X.prog X.w H s.heap b (.lst (rs.map V.ref)) from I.hok b _ hb)
  have q1 := vals_refsC r1
  have q2 := vals_refsC r2
  subst q1
  subst q2
  have hl1 : s.heap.IsList a (rs.map Value.ref).toArray := ⟨_, e1, rfl, _, rfl⟩
  have hl2 : s.heap.IsList b (rs.map Value.ref).toArray := ⟨_, e2, rfl, _, rfl⟩
  have k := PySem.SeqAt.RcNeAt.lists (A := X.A) (s := s) (e := fun _ => true) hl1 hl2 rfl hu (fun j h1 h2 => PySem.SeqAt.EqAt.same _)
  have e : (!(List.range (rs.map Value.ref).toArray.size).all fun _ => true) = false := by simp
  rw [e] at k
  exact k X.prog X.w X.xe _ ⟨.bl false, H, I, rfl, q⟩
/-- t.index(x) of data: the first place of an equal one -/
def rTIndexD (K : PySem.W.Frag) : V → List V → Hp → VK → Prop := fun x xs H Q => ∃ (a : Addr) (y : V) (d : PyData) (ds : List PyData) (j : Nat) (z : PyData), x = V.ref a ∧ xs = [y] ∧ Dp K H (V.ref a) (.tuple ds) ∧ Dp K H y d ∧
  SeqAt.shaped (.tuple ds) = true ∧ SeqAt.shaped d = true ∧ ds[j]? = some z ∧ PyData.eqv z d = true ∧ (∀ (m : Nat) (z' : PyData), m < j → ds[m]? = some z' → PyData.eqv z' d = false) ∧ Q (.int (j : Nat)) H
theorem mt_tindexD (hu : X.A.units + 65 < cLine) : MtR X "tuple.index" (rTIndexD X.K) := by
  intro pins s σ H x xs v us Q I rx rxs h
  obtain ⟨a, y, d, ds, j, z, rfl, rfl, hl, hy, sl, sd, hz, hzj, hno, q⟩ := h
  cases rx
  cases rxs with
  | cons ry rt =>
    rename_i uy ut
    cases rt
    obtain ⟨bs, r1⟩ := Dp.reads I d y uy hy ry
    have hxs : PyData.canLayAll0 ds = true := SeqAt.canLay_of_shaped sl
    have hroom : X.A.units + 1 + min (PyData.depthAll ds) d.depth < cLine := room_in_shaped sd hu
    cases hl with
    | tup hs ha =>
      obtain ⟨its, rv, pl, hlen⟩ := I.tuple hs
      obtain ⟨⟨cls, dd, dt, sls⟩, ho, hc, n, hd⟩ := pl
      simp only at hc hd
      subst hc
      subst hd
      obtain ⟨as, h4⟩ := Dp.readsAll I ds _ its ha rv
      have hn : its.length = ds.length := SeqAt.ReadsAll.length ds its as h4
      have hmap : its.map (SeqAt.readOf s.heap) = ds := SeqAt.readsAll_map ds its as hxs h4
      obtain ⟨hjd, _⟩ := List.getElem?_eq_some_iff.mp hz
      have hjl : j < its.length := by omega
      have hj : j < its.toArray.size := by simpa using hjl
      have at_ : ∀ (m : Nat) (hm : m < its.toArray.size) (z' : PyData), ds[m]? = some z' → SeqAt.readOf s.heap its.toArray[m] = z' := by
        intro m hm z' hz'
        have hml : m < its.length := by simpa using hm
        rw [← hmap, List.getElem?_map, List.getElem?_eq_getElem hml] at hz'
        have e1 : SeqAt.readOf s.heap its[m] = z' := Option.some.inj (show some (SeqAt.readOf s.heap its[m]) = some z' from hz')
        simpa using e1
      refine call_meets PySem.F.slot_tuple_index ⟨_, ho, rfl⟩ PySem.F.entry_tuple_index (PySem.F.args_tuple_index_2 _ _)
        (TI.tuple_indexAt a its.toArray n dd sls uy (fun u => PyData.eqv (SeqAt.readOf s.heap u) d) j hj ?_ ?_) ⟨ho, SeqAt.items_eqAt (vs := its.toArray) (show ReadsAll s.heap its.toArray.toList ds as from h4) r1 hxs (SeqAt.canLay_of_shaped sd) hroom, ?_⟩
      · show PyData.eqv (SeqAt.readOf s.heap its.toArray[j]) d = true
        rw [at_ j hj z hz]
        exact hzj
      · intro m hm hmj
        have hmd : m < ds.length := by omega
        have hz' : ds[m]? = some ds[m] := List.getElem?_eq_getElem hmd
        show PyData.eqv (SeqAt.readOf s.heap its.toArray[m]) d = false
        rw [at_ m hm _ hz']
        exact hno m _ hmj hz'
      · exact ⟨.int (j : Nat), H, I.tok _, ⟨_, rfl⟩, q⟩
end
end L2
set_option Elab.async false
set_option linter.all false
set_option maxRecDepth 100000
set_option maxHeartbeats 2000000
/-! a * n by an own __mul__, n an int -/
namespace FoOps
open PySem PySem.W PyProof.Rows
theorem int_mul : fillsNumberSlot (.type "int") "mul" = pure true := by
  unfold fillsNumberSlot
  simp only [typeLookup_type, builtinLookup_eq_fast]
  kernel_rfl
theorem look_int : typeLookup (.type "int") (dunderR "mul") = pure (some (.builtin "int.__rmul__")) := by
  rw [typeLookup_type, builtinLookup_eq_fast]
  kernel_rfl
section
variable {prog : Program} {w : World} {A : Around} {E : Value → Shared → Prop} {s : Shared} {K : Frag} {x C f g : Addr} {ox : Obj} {od : Option Obj}
theorem inPython_K {M : Model} {h : Heap} {nm : String} (X : K.In h) (hs : findIn K (.ref C) (PySem.dunder nm) = some (some (.ref f))) (hr : findIn K (.ref C) (dunderR nm) = some (some (.ref g))) : Looks M h (numberSlotInPython (.ref C) nm) true := by
  intro A Q E s k q
  unfold numberSlotInPython
  refine wpAny_bind (looks_findIn X hs A _ E s k ?_)
  show wpAny M A (calledByName (.ref C) (PySem.dunder nm) (some (.ref f)) >>= _) Q E s
  refine wpAny_bind (wpAny_pure ?_)
  refine wpAny_bind (looks_findIn X hr A _ E s k ?_)
  show wpAny M A (calledByName (.ref C) (dunderR nm) (some (.ref g)) >>= _) Q E s
  refine wpAny_bind (wpAny_pure ?_)
  rw [if_pos (by rfl)]
  exact wpAny_pure q
theorem mul_KI {i : Int} {t : Tok} {Q : Value → Shared → Prop} (X : K.In s.heap) (I : InstAt s.heap x ox C od) (hc : selfFirst K C = true) (hsub : subIn K (.type "int") (.ref C) = some false)
    (hs : findIn K (.ref C) (PySem.dunder "mul") = some (some (.ref f))) (hf : isFn K (.ref f) = true) (hr : findIn K (.ref C) (dunderR "mul") = some (some (.ref g)))
    (h : wpAny (model prog w) A (call (.ref f) [.ref x, .int i t]) (PySem.W.CmpBack Q) E s) : wpAny (model prog w) A (binaryOp .Mult (.ref x) (.int i t)) Q E s := by
  obtain ⟨cd, hcd, hm⟩ := any_some hc
  obtain ⟨rest, hm⟩ : ∃ rest, cd.mro = .ref C :: rest := by
    cases q : cd.mro with
    | nil => rw [q] at hm; cases hm
    | cons a r => rw [q] at hm; exact ⟨r, by rw [List.head?_cons] at hm; cases (beq_iff_eq.mp hm); rfl⟩
  unfold binaryOp
  refine wpAny_holding (wpAny_bind ?_)
  show wpAny _ _ (binaryOp1 "mul" (.ref x) (.int i t)) _ _ _
  unfold binaryOp1
  refine wpAny_bind (I.type.here (wpAny_bind (wpAny_typeOf (T := "int") rfl (wpAny_bind ((fills_K X hcd hm hs).here ?_)))))
  have e : (Value.ref C == Value.type "int") = false := by simp
  simp only [e, Bool.false_eq_true, if_false]
  refine wpAny_bind (wpAny_of_eq int_mul ?_)
  simp only [Bool.and_self, if_true]
  refine wpAny_bind ((looks_subIn X hsub).here ?_)
  simp only [Bool.false_eq_true, if_false, Bool.not_false, Bool.and_true, if_true]
  refine wpAny_bind ((inPython_K X hs hr).here ?_)
  simp only [if_true]
  refine wpAny_bind (wpAny_of_eq (show numberSlotInPython (.type "int") "mul" = pure false from rfl) ?_)
  simp only [Bool.not_false, if_true]
  refine wpAny_bind (wpAny_of_eq look_int ?_)
  dsimp only
  refine wpAny_bind (m := tryMethod (.ref x) _ _) ?_
  unfold tryMethod
  refine wpAny_bind (special_fn X I hs (beq_iff_eq.mp hf) (wpAny_mono h (fun v s' hv => ?_) fun _ _ e => e))
  cases v <;> first | exact hv.elim | exact wpAny_pure (wpAny_pure (wpAny_pure hv))
end
end FoOps
namespace L2
open PySem PySem.Spec PyProof.Rows
structure OwnMul (K : PySem.W.Frag) (C f g : Addr) : Prop where
  sf : PySem.W.selfFirst K C = true
  at_ : PySem.W.findIn K (.ref C) "__mul__" = some (some (.ref f))
  fn : PySem.W.isFn K (.ref f) = true
  rat : PySem.W.findIn K (.ref C) "__rmul__" = some (some (.ref g))
  sb : PySem.W.subIn K (.type "int") (.ref C) = some false
def rOwnMul (C : Addr) (sp : Sp) (E : XK) : R2 := fun x y H Q => ∃ a dx fs i, x = .ref a ∧ H a = some (.ins C dx fs) ∧ y = .int i ∧ sp [x, y] H Q E
section
variable {X : Cx} {CX : CXT} {k : Nat} {f g C : Addr} {fd : FuncData} {ps : List Str} {sp : Sp} {E : XK}
theorem op_ownMul (O : OwnMul X.K C f g) (F : FnOk X.prog X.w X.K X.mg X.base CX k f fd ps sp) (hr : Room k X.A) (hb : Binds X.K fd ps []) (hx : Passes CX X E) :
    OpR X (binaryOp .Mult) (rOwnMul C sp E) := by
  intro pins s σ H x y v u Q I rx ry h
  obtain ⟨a, dx, fs, i, rfl, ha, rfl, q⟩ := h
  obtain rfl : v = Value.ref a := rx
  obtain ⟨mA, J, _⟩ := ins_get I.hok ha
  obtain ⟨od, J, _⟩ := J.look
  have run : wpAny (model X.prog X.w) X.A (call (.ref f) [.ref a, u]) (PySem.W.CmpBack (EP X pins σ Q)) X.xe s := by
    refine wpAny_mono (run_fn (us := [.ref a, u]) (vs := [.ref a, .int i]) F hr hb .nil hx I (.cons rfl (.cons ry .nil)) q) (fun r s' z => ?_) fun _ _ z => z
    obtain ⟨z1, H1, I1, rz, qz⟩ := z
    exact cmpBack_of (not_ni rz) ⟨z1, H1, I1, rz, qz⟩
  obtain ⟨t, rfl⟩ := ry
  exact FoOps.mul_KI I.kIn J O.sf O.sb O.at_ O.fn O.rat run
end
end L2
set_option Elab.async false
set_option linter.all false
set_option maxRecDepth 100000
set_option maxHeartbeats 2000000
/-! repr of data, where no guard stands -/
namespace L2
open PySem PySem.Spec PyProof.Rows
def rReprD (K : PySem.W.Frag) : List V → Hp → VK → Prop := fun xs H Q => ∃ x d, xs = [x] ∧ Dp K H x d ∧ d.showable = true ∧ d.hasDict = false ∧ d.depth ≤ 60 ∧ d.shown.length ≤ sizeLine ∧ Q (.str d.shown) H
theorem call_reprD {X : Cx} (hgd : X.A.guards = some []) (hu : X.A.units + 64 < cLine) : CallR X (.builtin "repr") (rReprD X.K) := by
  intro pins s σ H xs us Q I r h
  obtain ⟨x, d, rfl, hd, hs, hnd, hdp, hz, q⟩ := h
  obtain ⟨u, rfl, rx⟩ := vals1 r
  obtain ⟨as, rd⟩ := Dp.reads I d x u hd rx
  cases hd with
  | non =>
    obtain rfl : u = Value.none := rx
    exact PySem.P.repr_of_none ⟨.str "None", H, I.tok _, ⟨_, rfl⟩, q⟩
  | bl b =>
    obtain rfl : u = Value.bool b := rx
    exact PySem.P.repr_of_bool ⟨.str _, H, I.tok _, ⟨_, rfl⟩, q⟩
  | int i =>
    obtain ⟨t, rfl⟩ := rx
    exact PySem.P.repr_of_int (by simpa [PyData.showable] using hs) ⟨.str (toString i), H, I.tok _, ⟨_, rfl⟩, q⟩
  | str y =>
    obtain ⟨t, rfl⟩ := rx
    exact PySem.P.repr_of_str ⟨.str (reprText y), H, I.tok _, ⟨_, rfl⟩, q⟩ hz
  | @lst a ys ds h1 h2 =>
    obtain rfl : u = Value.ref a := rx
    exact repr_of_reads' rd hs (fun z => by rw [hnd] at z; cases z) hgd (by omega) (fun _ _ z => z) (fun h' v tk k => ⟨.str _, H, I.kept k, ⟨_, rfl⟩, q⟩) hz
  | @tup a ys ds h1 h2 =>
    obtain rfl : u = Value.ref a := rx
    exact repr_of_reads' rd hs (fun z => by rw [hnd] at z; cases z) hgd (by omega) (fun _ _ z => z) (fun h' v tk k => ⟨.str _, H, I.kept k, ⟨_, rfl⟩, q⟩) hz
end L2
namespace L2
open PySem PySem.Spec PyProof.Rows
/-- what an own error class says, so that isinstance asks its instances rightly -/
structure XIsC (K : PySem.W.Frag) (D : Addr) : Prop where
  hg : PySem.W.findIn K (.ref D) "__getattribute__" = some (some (.builtin "BaseException.__getattribute__"))
  hk : PySem.W.findIn K (.ref D) "__getattr__" = some none
  hs : PySem.W.subIn K (.ref D) (.type "BaseException") = some true
  hd : PySem.W.hasDictIn K D = true
  ha : PySem.W.findIn K (.ref D) "__class__" = some (some (.builtin "object.__class__"))
  hn : PySem.W.specialIn K (.builtin "object.__class__") "__get__" = some (some (.builtin "getset_descriptor.__get__"))
  ht : PySem.W.takesIn K (.builtin "object.__class__") = some true
  hm : PySem.W.mroIn K D (.type "object") = some true
end L2
namespace L2
open PySem PySem.Spec PyProof.Rows
/-- isinstance(e, c), e the error that the suite holds (at a; its class cls, its dict d) -/
def rIsX (K : PySem.W.Frag) (a : Addr) (cls : Value) (d : Option Addr) : List V → Hp → VK → Prop := fun xs H Q => ∃ (D dd : Addr) (fs : List (Str × V)) (c : V) (cv : Value) (b : Bool), xs = [.ref a, c] ∧ cls = .ref D ∧ d = some dd ∧ H dd = some (.xd fs) ∧ ClsV c cv ∧ XIsC K D ∧
  PySem.W.kitOne K (.ref D) cv = some b ∧ Q (.bl b) H
theorem call_isX {X : Cx} {a : Addr} {oe : Obj} {cls : Value} {d : Option Addr} {pn : List (Addr × Obj)} (hz : Zc cls d oe) (hf : ∃ vs, oe.data = .fields vs) : CallR (X.suite a ((a, oe) :: pn)) (.builtin "isinstance") (rIsX X.K a cls d) := by
  intro pins s σ H xs us Q I r h
  obtain ⟨D, dd, fs, c, cv, b, rfl, rfl, rfl, hdd, hcv, T, e, q⟩ := h
  obtain ⟨u1, u2, rfl, r1, r2⟩ := vals2 r
  obtain rfl : u1 = Value.ref a := r1
  obtain rfl := hcv.eq r2
  obtain ⟨ha, _⟩ := I.pin (a, oe) (List.mem_append_left _ List.mem_cons_self)
  obtain ⟨vs, hd⟩ := hf
  obtain ⟨mA, hns, _⟩ := (show ObjOk X.prog X.w H s.heap dd (.xd fs) from I.hok dd _ hdd)
  obtain ⟨od, ho, _⟩ := lookIn_ns hns
  have J : PySem.W.InstAt s.heap a oe D (some od) := ⟨ha, hz.1, by unfold PySem.W.notCls; rw [hd] <;> rfl, by rw [hz.2]; exact ho⟩
  have hcl : (PySem.W.clsIn X.K D).isSome = true := by
    obtain ⟨cd, hc, _⟩ := PySem.W.any_some T.hd
    rw [hc]
    rfl
  exact PySem.W.kia_one (PySem.W.kitx_exc hcl T.hg T.hk T.hs T.ha T.hn T.ht T.hm) I.kIn J e (fun z => nomatch z) fun tk => ⟨.bl b, H, I.kept (t' := tk) fun _ _ z => z, rfl, q⟩
end L2
set_option Elab.async false
set_option linter.all false
set_option maxRecDepth 100000
set_option maxHeartbeats 2000000
/-! an own error over ValueError (perhaps over others between), whose __init__ says super().__init__(text) and keeps one field -/
namespace FoX
open PySem PySem.W PySem.Calls PyProof.Rows PySem.HandSPX
theorem one_sz (v : Value) : [v].length ≤ sizeLine := by
  rw [sizeLine_eq]
  exact (by decide : 1 ≤ 16777216)
section
variable {prog : Program} {w : World} {A : Around} {E : Value → Shared → Prop} {h : Heap} {g : Array GenState} {d : Drawn} {t : Nat} {os : OsState}
/-- the bound built-in __init__ called -/
theorem mw_call {nm q : Str} {C N u e t0 : Addr} {bs bm : List Value} {hdct : Bool} {sn : List Str} {sub : List Value} {ab : Bool} {col : Option Bool} {dd : Option Addr} {k0 k1 k2 k3 k5 : Option Value} {rest : List Value} {Q : Value → Shared → Prop}
    (hC : h.get? C = some (excClassObj nm q C N bs bm hdct sn sub ab col dd k0 k1 k2 k3 k5 "ValueError.__new__")) (he : h.get? e = some (HandSPX.excO C t0)) (hu : h.get? u = some (kxs_mw "ValueError.__init__" e)) (hz : rest.length ≤ sizeLine)
    (hq : ∀ h' t1, (∀ b o, b ≠ e → h.get? b = some o → h'.get? b = some o) → h'.get? e = some (HandSPX.excO C t1) → Q .none ⟨h', g, d, t, os⟩) :
    wpAny (model prog w) A (call (.ref u) rest) Q E ⟨h, g, d, t, os⟩ := by
  refine wpAny_call (codeAny_of_tree ?_)
  show wpAny (model prog w) A.in1 (callAny (.ref u) ⟨rest, []⟩) _ _ _
  simp only [callAny]
  refine wpAny_bind (wpAny_load hu ?_)
  have tb : (Value.type "method-wrapper" == Value.type "method" || Value.type "method-wrapper" == Value.type "builtin_function_or_method" || Value.type "method-wrapper" == Value.type "method-wrapper") = true := by decide
  simp only [kxs_mw, tb, if_true]
  refine KFB.if_so (by decide) (wpAny_bind (check_bound_init F.excBase_ValueError.toExcCallFacts hC he rfl ?_))
  refine wpAny_bind (wpAny_pure (wpAny_pure ⟨plainId_quiet F.excBase_ValueError.init.plain _, codeAny_builtin F.excBase_ValueError.initEntry ?_⟩))
  exact exc_init_tree (cls := .ref C) (t0 := t0) (dv := none) (c2 := .none) (c3 := .none) (b4 := .bool false) he hz fun h' k e' _ => hq h' _ k e'
end
end FoX
set_option Elab.async false
set_option linter.all false
set_option maxRecDepth 100000
set_option maxHeartbeats 2000000
namespace FoX_thing
open PySem PySem.W PySem.Calls PyProof.Rows PySem.HandSPX FoX
/-- the text of such an __init__ -/
def xB (msg : Str) (a1 a2 a3 a4 a5 a6 q1 q2 q3 q4 : Pos) (j : Nat) : List Stmt :=
  [.Expr (.Call (.Attribute (.Call (.Name "super" a1) [] [] a2) "__init__" a3) [.Constant (.str msg) j a4] [] a5) a6, .Assign [.Attribute (.Name "self" q1) (Str.ofString "thing") q2] (.Name (Str.ofString "thing") q3) q4]
def xS : Scope := { kind := .function, names := [(Str.ofString "self", .local), ((Str.ofString "thing"), .local), (Str.ofString "__class__", .free), (Str.ofString "super", .globalImplicit)], isGenerator := false, isCoroutine := false, more := [] }
def xA (p1 p2 : Pos) : Arguments := { posonlyargs := [], args := [{ arg := "self", annotation := none, pos := p1 }, { arg := (Str.ofString "thing"), annotation := none, pos := p2 }], vararg := none, kwonlyargs := [], kw_defaults := [], kwarg := none, defaults := [] }
/-- what the written part says of the class at C and its __init__ at fI -/
structure XTxt (P : Program) (K : Frag) (mg : Str → Option Value) (C fI : Addr) : Prop where
  cls : ∃ nm q N bs bm sn sub ab col dd k0 k1 k2 k3 k5, K.lookup C = some (excClassObj nm q C N bs bm true sn sub ab col dd k0 k1 k2 k3 k5 "ValueError.__new__") ∧ refsVE bm = true
  sa : findIn K (.ref C) "__setattr__" = some (some (.builtin "object.__setattr__"))
  ga : findIn K (.ref C) "__getattribute__" = some (some (.builtin "BaseException.__getattribute__"))
  gg : findIn K (.ref C) "__getattr__" = some none
  noN : findIn K (.ref C) (Str.ofString "thing") = some none
  iC : findIn K (.ref C) "__init__" = some (some (.ref fI))
  tC : typeIn K (.ref fI) = some (.type "function")
  kC : keepIn K (.ref C) = true
  exC : subIn K (.ref C) (.type "BaseException") = some true
  tyC : typeIn K (.ref C) = some (.type "type")
  hdC : hasDictIn K C = true
  sup : ks_superIn K C C "__init__" = some (some (.builtin "ValueError.__init__"))
  tp : nsIn K cStatics "thirdparty.any" = some none
  zs : mg "super" = none
  ve : subIn K (.ref C) (.type "ValueError") = some true
  mr : mroIn K C (.ref C) = some true
  top : (P.main.scope.names.lookup ("super" : Str)).isSome = false
  fn : ∃ (qual msg : Str) (oc : Value) (od : Option Addr) (doc pm kV : Value) (an : Option Addr) (cc cda : Addr) (ct : Value) (osl : Array (Option Value)) (p1 p2 a1 a2 a3 a4 a5 a6 q1 q2 q3 q4 : Pos) (j : Nat) (ccl cl : Value) (cdd cld : Option Addr) (vs : Array Value) (ccs csl : Array (Option Value)) (file : Str) (tf : Tok),
    K.lookup fI = some ⟨oc, od, .func (ksFn "__init__" qual (xA p1 p2) (xB msg a1 a2 a3 a4 a5 a6 q1 q2 q3 q4 j) xS .none kV doc pm an (.ref cda) ct cc), osl⟩ ∧ codeIn K (.ref cda) qual = true ∧
    K.lookup cda = some ⟨ccl, cdd, .fields vs, ccs⟩ ∧ vs[2]? = some (.str file tf) ∧ ((P.main.file : Str) == file) = true ∧ (a3.endLine == a5.line) = true ∧ K.lookup cc = some ⟨cl, cld, .cell (some (.ref C)), csl⟩
theorem xcel : ∀ y ∈ xS.names, y.2 ≠ .cell := by decide
/-- the call of super's method, its tree -/
theorem x_tree (msg : Str) (a1 a2 a3 a4 a5 : Pos) (j : Nat) (env : Env) (hl : (a3.endLine == a5.line) = true) : eval (.Call (.Attribute (.Call (.Name "super" a1) [] [] a2) "__init__" a3) [.Constant (.str msg) j a4] [] a5) env = (do
      let ov ← attributeBase (.Call (.Name "super" a1) [] [] a2) "__init__" env (eval (.Call (.Name "super" a1) [] [] a2) env)
      standAt a3.atName
      let (f, first) ← holding [ov] (getMethod ov "__init__" (do return (← importBound (.Call (.Name "super" a1) [] [] a2) env).getD true))
      callWith a5 f first (backTo a5 (starEach [.Constant (.str msg) j a4] env)) []) := by
  rw [arm_eval_Call]
  unfold methodCall methodCallPos
  simp only [hl, Bool.or_true, if_true]
  rfl
/-- what __init__ leaves of a fresh error at x -/
structure XEnd (h h' : Heap) (x C dx : Addr) (v : Value) : Prop where
  keep : ∀ b o, b ≠ x → h.get? b = some o → h'.get? b = some o
  obj : ∃ t1 : Addr, h'.get? x = some { cls := .ref C, dict := some dx, data := .fields #[.ref t1, .none, .none, .none, .bool false, .none] }
  dbig : h.objs.size ≤ dx
  dne : dx ≠ x
  ns : h'.Ns1 dx (fun y => if y = (Str.ofString "thing") then some v else none)
section
variable {prog : Program} {w : World} {A : Around} {E : Value → Shared → Prop} {R : Result → Shared → Prop} {s : Shared} {K : Frag} {mg : Str → Option Value} {C fI : Addr}
theorem x_init (T : XTxt prog K mg C fI) {x t0 : Addr} {v : Value} (X : K.In s.heap) (hg : s.heap.Ns mainGlobals mg) (hbl : ∃ mb, s.heap.Ns builtinsNs mb ∧ ∀ y : Str, y ≠ "__name__" → mb y = bootBuiltins y) (hlim : s.heap.NoLimit)
    (hx : s.heap.get? x = some (HandSPX.excO C t0)) (hnx : K.lookup x = none) (hroom : A.depth < recursionLimit) (hq : ∀ h' tk dx, XEnd s.heap h' x C dx v → R (.ok (.ret .none)) { s with heap := h', toks := tk }) :
    codeAny (model prog w) A (.call (.ref fI) ⟨[.ref x, v], []⟩) R s := by
  obtain ⟨qual, msg, oc, od, doc, pm, kV, an, cc, cda, ct, osl, p1, p2, a1, a2, a3, a4, a5, a6, q1, q2, q3, q4, j, ccl, cl, cdd, cld, vs, ccs, csl, file, tf, ho, hcd, hcode, hvs, hfile, hline, hcell⟩ := T.fn
  obtain ⟨nm, q, N, bs, bm, sn, sub, ab, col, dd, k0, k1, k2, k3, k5, hC, hbm⟩ := T.cls
  have hcl : clsIn K C = some { name := nm, bases := bs, mro := .ref C :: bm, ns := N, qualname := q, hasDict := true, slotNames := sn, subclasses := sub, abstract := ab, collection := col, hasDel := false } := by unfold clsIn; rw [hC] <;> rfl
  obtain ⟨hp, g, d, tk, os⟩ := s
  refine ks_codeAny_call_defAt (fd := ksFn "__init__" qual (xA p1 p2) (xB msg a1 a2 a3 a4 a5 a6 q1 q2 q3 q4 j) xS .none kV doc pm an (.ref cda) ct cc) (body := xB msg a1 a2 a3 a4 a5 a6 q1 q2 q3 q4 j) (binds := [(Str.ofString "self", .ref x), ((Str.ofString "thing"), v)]) hroom (X _ _ ho) rfl hlim (codeRec_of X hcd) rfl (BindsTo.of_eq rfl) xcel ?_ (fun h₁ hns k => ?_) rfl rfl rfl
  · intro y hy
    rcases List.mem_cons.mp hy with rfl | hy
    · exact rfl
    · rcases List.mem_cons.mp hy with rfl | hy
      · exact rfl
      · cases hy
  have X₁ : K.In h₁ := X.keeps k
  have hx₁ : h₁.get? x = some (HandSPX.excO C t0) := k _ _ hx
  have I₁ : InstAt h₁ x (HandSPX.excO C t0) C none := ⟨hx₁, rfl, rfl, trivial⟩
  have vself : (fun y : Str => List.lookup y (List.reverse [((Str.ofString "self"), Value.ref x), ((Str.ofString "thing"), v)])) (Str.ofString "self") = some (.ref x) := by
    have e : ((Str.ofString "self") == (Str.ofString "thing")) = false := by decide +kernel
    simp [List.lookup, e]
  have vfld : (fun y : Str => List.lookup y (List.reverse [((Str.ofString "self"), Value.ref x), ((Str.ofString "thing"), v)])) (Str.ofString "thing") = some v := by
    simp [List.lookup]
  obtain ⟨mb, hb1, hb2⟩ := hbl
  -- super().__init__(text)
  refine ks_wpAt_execs_cons (ks_wpAt_Expr_any (ks_wpAt_MethodCall ?_ (x_tree msg a1 a2 a3 a4 a5 j _ hline)) rfl rfl)
  refine ks_wpAt_super_base (f := fI) (fd := ksFn "__init__" qual (xA p1 p2) (xB msg a1 a2 a3 a4 a5 a6 q1 q2 q3 q4 j) xS .none kV doc pm an (.ref cda) ct cc) (ar := { arg := "self", annotation := none, pos := p1 }) rfl rfl rfl rfl (X₁ _ _ ho) rfl rfl rfl (X₁ _ _ hcode) rfl hvs hfile T.top ?_
  refine ks_loadName_global rfl rfl (loadGlobal_builtin (hg.keeps k) T.zs (hb1.keeps k) ((hb2 _ (by decide +kernel)).trans (by decide +kernel)) ⟨rfl, ?_⟩)
  refine wpAny_loadName_free rfl rfl rfl ⟨_, X₁ _ _ hcell, rfl⟩ ?_
  refine wpAny_loadName_local rfl rfl hns vself ?_
  obtain ⟨oD, hD1, hD2⟩ : ∃ oD, h₁.get? C = some oD ∧ oD.data = .cls { name := nm, bases := bs, mro := .ref C :: bm, ns := N, qualname := q, hasDict := true, slotNames := sn, subclasses := sub, abstract := ab, collection := col, hasDel := false } := ⟨_, X₁ _ _ hC, rfl⟩
  refine ks_wpAny_isType_cls hD1 hD2 ⟨rfl, ?_⟩
  refine ks_wpAny_call_super hD1 hD2 hx₁ rfl (fun c e => by cases e) (looks_mroIn X₁ T.mr) (fun h₂ e₂ k₂ => ?_)
  have X₂ : K.In h₂ := X₁.keeps k₂
  have hx₂ : h₂.get? x = some (HandSPX.excO C t0) := k₂ _ _ hx₁
  have I₂ : InstAt h₂ x (HandSPX.excO C t0) C none := ⟨hx₂, rfl, rfl, trivial⟩
  have hsup := T.sup
  unfold ks_superIn at hsup
  rw [hcl] at hsup
  have hmro : Looks (model prog w) h₂ (mroOf (.ref C)) (.ref C :: bm) := (looks_clsIn X₂ hcl).andThen .now
  refine kxs_getMethod kxs_ValueError e₂ (looks_opaque X₂ T.tp) hmro rfl X₂ hsup (I₂.type.andThen (looks_subIn X₂ T.ve)) (ks_ne X₂ I₂ hcl) rfl ?_
  -- the wrapper called
  have hk₃ : ∀ b o, h₂.get? b = some o → (h₂.push (kxs_mw "ValueError.__init__" x)).get? b = some o := fun b o e => Heap.get?_push_of_some _ e
  have hu₃ : (h₂.push (kxs_mw "ValueError.__init__" x)).get? h₂.objs.size = some (kxs_mw "ValueError.__init__" x) := Heap.get?_push_at rfl rfl
  refine kxs_callWith (i := "ValueError.__init__") (x := x) rfl (evalArgs_plain (Calls.spliced_cons (Calls.Constant_str (pos := a4) (k := j) (Calls.spliced_nil ⟨hu₃, ?_⟩))))
  refine mw_call (X₂.keeps hk₃ _ _ hC) (hk₃ _ _ hx₂) hu₃ (one_sz _) (fun h₄ t1 k₄ hx₄ => ?_)
  have kall : ∀ b o, b ≠ x → hp.get? b = some o → h₄.get? b = some o := fun b o hb e => k₄ b o hb (hk₃ b o (k₂ b o (k b o e)))
  have xC : x ≠ C := ks_ne X₂ I₂ hcl
  have X₄ : K.In h₄ := fun b o e => kall b o (fun z => by rw [z, hnx] at e; cases e) (X b o e)
  have hL : hp.objs.size ≠ x := Nat.ne_of_gt (Heap.lt_size hx)
  have hns₄ : h₄.Ns hp.objs.size (fun y => List.lookup y (List.reverse [((Str.ofString "self"), Value.ref x), ((Str.ofString "thing"), v)])) := by
    obtain ⟨oL, es, ep, hoL, r⟩ := hns
    exact ⟨oL, es, ep, k₄ _ _ hL (hk₃ _ _ (k₂ _ _ hoL)), r⟩
  -- self.field = field
  refine wpAt_of_wpAny ?_
  refine wpAny_execs_cons (plainObj_wpAny_Assign_Attribute ?_)
  refine wpAny_Name (wpAny_loadName_local rfl rfl hns₄ vfld (wpAny_Name (wpAny_loadName_local rfl rfl hns₄ vself ?_) (by decide))) (by decide)
  refine set_plain X₄ (ox := HandSPX.excO C t1) (od := none) ⟨hx₄, rfl, rfl, trivial⟩ T.sa ?_
  refine exc_osa X₄ hx₄ hcl (show refsVE (.ref C :: bm) = true from hbm) rfl T.noN (fun h₅ tk₅ dx k₅ dn dne hx₅ hn₅ => ?_)
  refine wpAny_execs_nil (hq h₅ tk₅ dx ⟨fun b o hb e => k₅ b o hb (kall b o hb e), ⟨t1, hx₅⟩, ?_, dne, hn₅⟩)
  have z1 : hp.objs.size < h₄.objs.size := hns₄.lt
  exact Nat.le_of_lt (Nat.lt_of_lt_of_le z1 dn)
/-- a made error -/
structure XMade (h h' : Heap) (e C d : Addr) (v : Value) : Prop where
  keep : ∀ b o, h.get? b = some o → h'.get? b = some o
  new : h.objs.size ≤ e
  obj : ∃ oe vs, h'.get? e = some oe ∧ oe.cls = .ref C ∧ oe.dict = some d ∧ oe.data = .fields vs ∧ vs[1]? = some .none ∧ vs[2]? = some .none
  dbig : h.objs.size ≤ d
  dne : d ≠ e
  ns : h'.Ns1 d (fun y => if y = (Str.ofString "thing") then some v else none)
theorem x_made (T : XTxt prog K mg C fI) {v : Value} (X : K.In s.heap) (hg : s.heap.Ns mainGlobals mg) (hbl : ∃ mb, s.heap.Ns builtinsNs mb ∧ ∀ y : Str, y ≠ "__name__" → mb y = bootBuiltins y) (hlim : s.heap.NoLimit) (hroom : A.depth + 1 < recursionLimit)
    (hq : ∀ h' tk e d, XMade s.heap h' e C d v → R (.ok (.ret (.ref e))) { s with heap := h', toks := tk }) : codeAny (model prog w) A (.call (.ref C) ⟨[v], []⟩) R s := by
  obtain ⟨nm, q, N, bs, bm, sn, sub, ab, col, dd, k0, k1, k2, k3, k5, hC, hbm⟩ := T.cls
  obtain ⟨hp, g, dr, tk, os⟩ := s
  have k : ∀ b o, hp.get? b = some o → ((hp.push (kdv_tup [v])).push (HandSPX.excO C hp.objs.size)).get? b = some o := fun b o e => Heap.get?_push_of_some _ (Heap.get?_push_of_some _ e)
  have hget : ((hp.push (kdv_tup [v])).push (HandSPX.excO C hp.objs.size)).get? (hp.objs.size + 1) = some (HandSPX.excO C hp.objs.size) := by heap_get
  have hnx : K.lookup (hp.objs.size + 1) = none := by
    cases e : K.lookup (hp.objs.size + 1) with
    | none => rfl
    | some o => exact absurd (Nat.lt_of_succ_lt (Heap.lt_size (X _ _ e))) (Nat.lt_irrefl _)
  refine call_own F.excBase_ValueError (fun Y => refsVE_contains Y bm hbm) (X _ _ hC) (looks_findIn X T.iC) (fun self => bind_fn X self T.tC) (one_sz v) ?_
  obtain ⟨mb, hb1, hb2⟩ := hbl
  refine x_init (s := ⟨(hp.push (kdv_tup [v])).push (HandSPX.excO C hp.objs.size), g, dr, tk, os⟩) T (X.keeps k) (hg.keeps k) ⟨mb, hb1.keeps k, hb2⟩ (hlim.keeps k) hget hnx ?_ fun h' tk' dx ⟨k', ⟨t1, hx⟩, dn, dne, hns⟩ => ?_
  · show A.depth + 1 < recursionLimit
    exact hroom
  · have old : ∀ b o, hp.get? b = some o → h'.get? b = some o := fun b o e => k' b o (Nat.ne_of_lt (Nat.lt_succ_of_lt (Heap.lt_size e))) (k b o e)
    have z : hp.objs.size + 1 + 1 ≤ dx := by
      first
        | (simpa only [Heap.size_push] using dn)
        | exact dn
        | (have q := dn; rw [Heap.size_push, Heap.size_push] at q; exact q)
    exact ⟨rfl, hq h' tk' (hp.objs.size + 1) dx ⟨old, Nat.le_succ _, ⟨_, _, hx, rfl, rfl, rfl, rfl, rfl⟩, Nat.le_trans (Nat.le_trans (Nat.le_succ _) (Nat.le_succ _)) z, dne, hns⟩⟩
end
end FoX_thing
namespace L2
open PySem PySem.Spec PyProof.Rows
theorem relO_thing {v : V} {v' : Value} (r : RelV v v') (f : Str) : RelO (List.lookup f [((Str.ofString "thing"), v)]) (if f = (Str.ofString "thing") then some v' else none) := by
  by_cases hw : f = (Str.ofString "thing")
  · subst hw
    rw [if_pos rfl]
    have q : List.lookup (Str.ofString "thing") [((Str.ofString "thing"), v)] = some v := by simp [List.lookup]
    rw [q]
    exact r
  · rw [if_neg hw]
    have qw : (f == (Str.ofString "thing")) = false := by simpa using hw
    have q2 : List.lookup f [((Str.ofString "thing"), v)] = none := by simp [List.lookup, qw]
    rw [q2]
    trivial
section
variable {X : Cx} {C fI : Addr} {nm : Str}
/-- Name(e) -/
def tMkX_thing (C : Addr) (ta : TA) : St → Hp → XK → Prop := fun σ H Q => ta σ H fun vs H1 => ∃ v, vs = [v] ∧ ∀ d, H1 d = none → Q (.ref C) (some d) (upd H1 d (.xd [((Str.ofString "thing"), v)]))
theorem pmkN_thing {a : Expr} {ta : TA} {p pos : Pos} {k : Nat} (T : FoX_thing.XTxt X.prog X.K X.mg C fI) (gC : X.mg nm = some (.ref C)) (hr : Room k X.A) (ha : PA X [a] ta) (hg : Gl X nm) (hdb : (nm == ("__debug__" : Str)) = false)
    (he : starEach (a :: []) X.env = (false, eval a X.env) :: starEach [] X.env := by rfl) (hpl : (backTo pos (starEach [] X.env)).any (·.1) = false := by rfl) :
    L2N.PMk X (.Call (.Name nm p) [a] [] pos) (tMkX_thing C ta) := by
  intro pins s σ H Q I h
  refine wpAny_Call_Name_kw (ld_glob I hg gC ?_ hdb)
  refine PySem.W.callWith_K (h₀ := X.base) I.ok.mod.kin T.kC (thn (ha.run pos pins s σ H _ I h) fun us s1 hh => ?_) he hpl
  obtain ⟨vs, H1, I1, r1, v, ev, q1⟩ := hh
  subst ev
  refine ⟨I1.kIn, ?_⟩
  cases r1 with
  | cons rv rn =>
    rename_i v' us'
    cases rn
    show wpAny _ _ (call (.ref C) [v']) _ _ _
    have hlim := I1.nolimit
    have hgl : s1.heap.Ns mainGlobals X.mg := I1.mod.glob.keeps I1.bk
    obtain ⟨mb, hb1, hb2⟩ := I1.mod.blt
    have hbl : ∃ mb, s1.heap.Ns builtinsNs mb ∧ ∀ y : Str, y ≠ "__name__" → mb y = bootBuiltins y := ⟨mb, hb1.keeps I1.bk, hb2⟩
    obtain ⟨hp, g, dr, tk, os⟩ := s1
    refine wpAny_call (FoX_thing.x_made T I1.kIn hgl hbl hlim (by have := hr.dp; omega) fun h' tk' e d M => ?_)
    show L2N.MkP X pins σ Q (.ref e) ⟨h', g, dr, tk', os⟩
    obtain ⟨oe, fv, hoe, hc, hd, hdat, h1, h2⟩ := M.obj
    have hns := M.ns
    obtain ⟨G', g1, g2⟩ := restrict h' fun b => decide (b ≠ e)
    have gk : ∀ b, b ≠ e → G'.get? b = h'.get? b := fun b hb => g1 b (decide_eq_true hb)
    have ge : G'.get? e = none := g2 e (by simp)
    have old : ∀ b o, hp.get? b = some o → G'.get? b = some o := fun b o q => (gk b (Nat.ne_of_lt (Nat.lt_of_lt_of_le (Heap.lt_size q) M.new))).trans (M.keep b o q)
    have ob : ObjOk X.prog X.w (upd H1 d (.xd [((Str.ofString "thing"), v)])) G' d (.xd [((Str.ofString "thing"), v)]) :=
      ⟨_, hns.at (fun o q => (gk d M.dne).trans q), fun f => relO_thing rv f⟩
    have J : Inv X pins σ (upd H1 d (.xd [((Str.ofString "thing"), v)])) ⟨G', g, dr, tk', os⟩ := I1.laid (t' := tk') old M.dbig ob
    refine ⟨e, oe, fv, ⟨G', g, dr, tk', os⟩, _, .ref C, some d, rfl, J, fun b o q => ?_, ge, hoe, ⟨hc, hd, fun vs e => by rw [hdat] at e; cases e; exact h2⟩, hdat, h1, ?_, rfl, I1.bare, raises_own T.exC T.tyC, q1 d (I1.hok.fresh M.dbig)⟩
    · by_cases hb : b = e
      · have q' : G'.get? b = some o := q
        rw [hb, ge] at q'; cases q'
      · exact (gk b hb).symm.trans q
    · rw [upd_ne (Ne.symm M.dne)]
      exact I1.hok.fresh M.new
theorem pmk_thing {a : Expr} {ta : TA} {p pos : Pos} {k : Nat} (T : FoX_thing.XTxt X.prog X.K X.mg C fI) (gC : X.mg nm = some (.ref C)) (hr : Room k X.A) (ha : PA X [a] ta) (hg : Gl X nm) (hdb : (nm == ("__debug__" : Str)) = false)
    (he : starEach (a :: []) X.env = (false, eval a X.env) :: starEach [] X.env := by rfl) (hpl : (backTo pos (starEach [] X.env)).any (·.1) = false := by rfl) :
    PMk X (.Call (.Name nm p) [a] [] pos) (tMkX_thing C ta) := by
  intro pins s σ H Q I h
  refine wpAny_mono (pmkN_thing T gC hr ha hg hdb he hpl pins s σ H Q I h) (fun u s' z => ?_) fun _ _ x => x
  obtain ⟨e, oe, vs, sI, H', cls, d, r1, r2, r3, r4, r5, r6, r7⟩ := z
  exact ⟨e, oe, vs, sI, H', cls, d, r1, r2, r3, r4, r5, r6.zc, r7⟩
/-- raise Name(e) -/
def tRaiseX_thing (C : Addr) (W : WX) (ta : TA) : TS := fun _ σ H => tMkX_thing C ta σ H fun cls d H' => W cls d σ H'
theorem ps_raise_thing {a : Expr} {ta : TA} {W : WX} {p pos pos2 : Pos} {k : Nat} (hc : X.calm = true) (T : FoX_thing.XTxt X.prog X.K X.mg C fI) (gC : X.mg nm = some (.ref C)) (hr : Room k X.A) (tk : Takes X W) (ha : PA X [a] ta) (hg : Gl X nm := by rfl) (hdb : (nm == ("__debug__" : Str)) = false := by decide)
    (he : starEach (a :: []) X.env = (false, eval a X.env) :: starEach [] X.env := by rfl) (hpl : (backTo pos (starEach [] X.env)).any (·.1) = false := by rfl) :
    PS X (.Raise (some (.Call (.Name nm p) [a] [] pos)) none pos2) (tRaiseX_thing C W ta) := ps_raise hc tk (pmk_thing T gC hr ha hg hdb he hpl)
theorem ps_raiseN_thing {a : Expr} {ta : TA} {W : WX} {p pos pos2 : Pos} {k : Nat} (hc : X.calm = true) (T : FoX_thing.XTxt X.prog X.K X.mg C fI) (gC : X.mg nm = some (.ref C)) (hr : Room k X.A) (tk : L2N.Takes X W) (ha : PA X [a] ta) (hg : Gl X nm := by rfl) (hdb : (nm == ("__debug__" : Str)) = false := by decide)
    (he : starEach (a :: []) X.env = (false, eval a X.env) :: starEach [] X.env := by rfl) (hpl : (backTo pos (starEach [] X.env)).any (·.1) = false := by rfl) :
    PS X (.Raise (some (.Call (.Name nm p) [a] [] pos)) none pos2) (tRaiseX_thing C W ta) := L2N.ps_raise hc tk (pmkN_thing T gC hr ha hg hdb he hpl)
/-- e.field, e the error that the suite holds (at a; its class cls, its dict d) -/
def tByX_thing (C : Addr) (a : Addr) (cls : Value) (d : Option Addr) (te : TE) : TE := fun σ H Q => te σ H fun x H1 => x = .ref a ∧ cls = .ref C ∧ ∃ (dd : Addr) (v : V), d = some dd ∧ H1 dd = some (.xd [((Str.ofString "thing"), v)]) ∧ Q v H1
theorem pe_by_thing {a : Addr} {oe : Obj} {cls : Value} {d : Option Addr} {pn : List (Addr × Obj)} {e : Expr} {te : TE} {pos : Pos} (T : FoX_thing.XTxt X.prog X.K X.mg C fI) (hz : Zc cls d oe) (hf : ∃ vs, oe.data = .fields vs) (he : PE (X.suite a ((a, oe) :: pn)) e te)
    (hb : attributeBase e (Str.ofString "thing") X.env (eval e X.env) = eval e X.env := by rfl) :
    PE (X.suite a ((a, oe) :: pn)) (.Attribute e (Str.ofString "thing") pos) (tByX_thing C a cls d te) := by
  refine ⟨fun pins s σ H Q I h => ?_⟩
  refine attr_of hb (thn (he.run pins s σ H _ I h) fun u s1 hh => ?_)
  obtain ⟨x, H1, I1, rx, ex, ec, dd, v, ed, ea, q⟩ := hh
  subst ex
  obtain rfl : u = Value.ref a := rx
  subst ec
  subst ed
  obtain ⟨ha, _⟩ := I1.pin (a, oe) (List.mem_append_left _ List.mem_cons_self)
  obtain ⟨vs, hd⟩ := hf
  have hx : ObjOk X.prog X.w H1 s1.heap dd (.xd [((Str.ofString "thing"), v)]) := I1.hok dd _ ea
  obtain ⟨mA, hns, hr⟩ := hx
  obtain ⟨od, ho, hl⟩ := lookIn_ns hns
  have l : List.lookup (Str.ofString "thing") [((Str.ofString "thing"), v)] = some v := by simp [List.lookup]
  obtain ⟨u, hu, ru⟩ := RelO.some_of (v := v) (o := mA (Str.ofString "thing")) (by rw [← l]; exact hr (Str.ofString "thing"))
  have J : PySem.W.InstAt s1.heap a oe C (some od) := ⟨ha, hz.1, by unfold PySem.W.notCls; rw [hd] <;> rfl, by rw [hz.2]; exact ho⟩
  exact HandSPX.exc_get I1.kIn J T.ga T.gg T.exC (PySem.W.findObj_own T.hdC T.noN rfl (by rw [hl, hu])) (handed_of ru) ⟨v, H1, I1.tok _, ru, q⟩
end
end L2
set_option Elab.async false
set_option linter.all false
set_option maxRecDepth 100000
set_option maxHeartbeats 2000000
/-! promises joined; a def called within an except suite with the error -/
namespace L2
open PySem PySem.Spec PyProof.Rows
section
variable {P : Program} {w : World} {K : PySem.W.Frag} {mg : Str → Option Value} {base : Heap} {k j : Nat} {f : Addr} {fd : FuncData} {ps : List Str} {sp sp' : Sp}
theorem FnOk.or {CX : CXT} (a : FnOk P w K mg base CX k f fd ps sp) (b : FnOk P w K mg base CX k f fd ps sp') : FnOk P w K mg base CX k f fd ps (fun vs H Q E => sp vs H Q E ∨ sp' vs H Q E) :=
  ⟨fun vs H Q E h => h.elim (a.len vs H Q E) (b.len vs H Q E), fun A outer s H args us vs Q E hr e0 hb r h => h.elim (a.run A outer s H args us vs Q E hr e0 hb r) (b.run A outer s H args us vs Q E hr e0 hb r)⟩
theorem FnOk.up {CX : CXT} (a : FnOk P w K mg base CX0 k f fd ps sp) : FnOk P w K mg base CX k f fd ps sp :=
  ⟨a.len, fun A outer s H args us vs Q E hr e0 hb r h => codeAny_mono (a.run A outer s H args us vs Q E hr e0 hb r h) fun r s' z => by
    cases r with
    | error e => exact False.elim z
    | ok fl => cases fl <;> exact z⟩
theorem FnOk.lift {CX : CXT} (a : FnOk P w K mg base CX k f fd ps sp) (h : k ≤ j) : FnOk P w K mg base CX j f fd ps sp :=
  ⟨a.len, fun A outer s H args us vs Q E hr e0 hb r => a.run A outer s H args us vs Q E (hr.mono h) e0 hb r⟩
end
/-- what a def promises that is called within an except suite, the error (at p) among its arguments, where nothing is being shown -/
structure FnE (P : Program) (w : World) (K : PySem.W.Frag) (mg : Str → Option Value) (base : Heap) (k : Nat) (f : Addr) (fd : FuncData) (ps : List Str) (sp : Addr × Obj → Sp) : Prop where
  len : ∀ p vs H Q E, sp p vs H Q E → vs.length = ps.length
  run : ∀ (A : Around), A.guards = some [] → ∀ (outer : List Env) (s : Shared) (H : Hp) (args : Args) (us : List Value) (vs : List V) (Q : VK) (E : XK) (p : Addr × Obj), L2H.RoomH k A → L2H.PinOk outer H s p → Env0 P w K mg base A outer s H → BindsTo s fd args (ps.zip us) → Vals vs us → sp p vs H Q E →
    codeAny (model P w) A (.call (.ref f) args) (CR CX0 outer P w H s Q E) s
section
variable {P : Program} {w : World} {K : PySem.W.Frag} {mg : Str → Option Value} {base : Heap}
theorem Fun.okE {x qual : Str} {st : Stmt} {f : Addr} {fd : FuncData} {N ps : List Str} {k : Nat} {sp : Addr × Obj → Sp} (F : Fun K x qual st f fd) (S : FnScope N ps (defScope st)) (len : ∀ p vs H Q E, sp p vs H Q E → vs.length = ps.length)
    (walk : ∀ (cdv : Value) (A : Around) (outer : List Env) (s : Shared) (H : Hp) (vs : List V) (Q : VK) (E : XK) (p : Addr × Obj), A.guards = some [] → L2H.RoomH k (A.deeper (envOfC qual (defScope st) s.heap.objs.size f cdv)) → sp p vs H Q E →
      ∃ t, PSs (L2H.cxH CX0 P w K mg base N qual (defScope st) f cdv A outer s H E p).nox (defBody st) t ∧ t { nx := fun _ H' => Q .non H', rt := Q } (start N vs) H) : FnE P w K mg base (k + 1) f fd ps sp := by
  obtain ⟨oc, od, kV, doc, pm, an, cdv, ct, osl, rfl, lk, hcd⟩ := F.ex
  refine ⟨len, fun A hgd outer s H args us vs Q E p room hpin env bind rel want => ?_⟩
  have inB : ∀ b o, base.get? b = some o → s.heap.get? b = some o := fun b o z => (env.bs b o z).1
  have inK := env.mod.kin.keeps inB
  have kinds : ∀ y ∈ ps.zip us, (defScope st).names.lookup y.1 = some .local ∨ ((defScope st).names.lookup y.1 = some .cell ∧ ((cellsFrom (s.heap.objs.size + 1) (defScope st).names []).lookup y.1).isSome = true) := by
    rintro ⟨n, v⟩ hy
    exact (S.par n (List.of_mem_zip hy).1).imp id fun q => ⟨q, PySem.W.cellsFrom_some _ _ _ (.inl q)⟩
  refine codeAny_call_function room.depth (inK _ _ lk) rfl S.co S.gen rfl (PySem.W.codeRec_of inK hcd) (bind _ _ _ _ (wpAny_newFunctionEnv_cells S.kind kinds ?_))
  rintro _ rfl s1 entry
  refine ⟨(env.mod.nolimit.keeps inB).keeps entry.toInCall.keep, codeAny_func ?_⟩
  obtain ⟨t, body, told⟩ := walk cdv A outer s H vs Q E p hgd (room.deeper _) want
  have start0 : Inv (L2H.cxH CX0 P w K mg base N qual (defScope st) f cdv A outer s H E p) [] (L2.start N vs) H s1 := L2H.inv_startH S hpin env (len _ _ _ _ _ want) rel entry
  refine wpAny_mono (body.nox.run [] s1 (start N vs) H _ start0 told) ?_ fun _ _ z => z
  intro fl s' z
  cases fl with
  | ret u =>
    obtain ⟨v, σ', H', J, rv, q⟩ := z
    exact ⟨v, H', J.os, J.bare, J.base, J.hok, rv, q⟩
  | next =>
    obtain ⟨σ', H', J, q⟩ := z
    exact ⟨.non, H', J.os, J.bare, J.base, J.hok, rfl, q⟩
  | brk => exact z.elim fun _ z => z.elim fun _ z => z.2.elim
  | cont => exact z.elim fun _ z => z.elim fun _ z => z.2.elim
end
section
variable {X : Cx} {k : Nat} {f : Addr} {fd : FuncData} {ps : List Str} {sp : Addr × Obj → Sp} {x : Str} {q pos : Pos} {e : Expr} {es : List Expr} {t : TA} {p : Addr × Obj}
theorem pe_callE {sp' : Sp} (hsp : ∀ vs H Q, sp' vs H Q E0 → sp p vs H Q E0) (F : FnE X.prog X.w X.K X.mg X.base k f fd ps sp) (hgd : X.A.guards = some []) (hr : L2H.RoomH k X.A) (hp : p ∈ X.pn) (hg : Gl X x) (hm : X.mg x = some (.ref f)) (hk : PySem.W.keepIn X.K (.ref f) = true) (hb : Binds X.K fd ps [])
    (ha : PA X (e :: es) t) (hdb : (x == ("__debug__" : Str)) = false := by decide) (he : starEach (e :: es) X.env = (false, eval e X.env) :: starEach es X.env := by rfl) (hpl : (backTo pos (starEach es X.env)).any (·.1) = false := by rfl) :
    PE X (.Call (.Name x q) (e :: es) [] pos) (tCall sp' [] E0 t) := by
  constructor
  intro pins s σ H Q I h
  refine wpAny_Call_Name_kw (ld_glob I hg hm (PySem.W.callWith_K (h₀ := X.base) I.ok.mod.kin hk (thn (ha.run pos pins s σ H _ I h) ?_) he hpl) hdb)
  rintro us s1 ⟨vs, H1, I1, rel, want⟩
  refine ⟨I1.kIn, ?_⟩
  rw [List.append_nil] at want
  replace want := hsp _ _ _ want
  have ln : us.length = ps.length := rel.length.symm.trans (F.len _ _ _ _ _ want)
  have bnd := hb s1 us I1.kIn (by rw [List.append_nil]; exact ln)
  rw [List.append_nil] at bnd
  have P1 := I1.pin p (List.mem_append_left _ hp)
  have hpin : L2H.PinOk X.stack H1 s1 p := ⟨P1.1, P1.2.1, fun hm => (List.mem_cons.mp (I1.stkSub p.1 hm)).elim P1.2.2.1 P1.2.2.2.1, P1.2.2.2.2⟩
  refine wpAny_call (codeAny_mono (F.run X.A hgd X.stack s1 H1 ⟨us, []⟩ us vs Q E0 p hr hpin I1.env0 bnd rel want) ?_)
  intro r s' z
  rcases r with e | (u | _ | _ | _)
  all_goals first | exact I1.after z | exact False.elim z
end
/-- isinstance(e, c), e an error that is pinned -/
theorem call_isP {X : Cx} {a : Addr} {oe : Obj} {cls : Value} {d : Option Addr} (hp : (a, oe) ∈ X.pn) (hz : Zc cls d oe) (hf : ∃ vs, oe.data = .fields vs) : CallR X (.builtin "isinstance") (rIsX X.K a cls d) := by
  intro pins s σ H xs us Q I r h
  obtain ⟨D, dd, fs, c, cv, b, rfl, rfl, rfl, hdd, hcv, T, e, q⟩ := h
  obtain ⟨u1, u2, rfl, r1, r2⟩ := vals2 r
  obtain rfl : u1 = Value.ref a := r1
  obtain rfl := hcv.eq r2
  obtain ⟨ha, _⟩ := I.pin (a, oe) (List.mem_append_left _ hp)
  obtain ⟨vs, hd⟩ := hf
  obtain ⟨mA, hns, _⟩ := (show ObjOk X.prog X.w H s.heap dd (.xd fs) from I.hok dd _ hdd)
  obtain ⟨od, ho, _⟩ := lookIn_ns hns
  have J : PySem.W.InstAt s.heap a oe D (some od) := ⟨ha, hz.1, by unfold PySem.W.notCls; rw [hd] <;> rfl, by rw [hz.2]; exact ho⟩
  have hcl : (PySem.W.clsIn X.K D).isSome = true := by
    obtain ⟨cd, hc, _⟩ := PySem.W.any_some T.hd
    rw [hc]
    rfl
  exact PySem.W.kia_one (PySem.W.kitx_exc hcl T.hg T.hk T.hs T.ha T.hn T.ht T.hm) I.kIn J e (fun z => nomatch z) fun tk => ⟨.bl b, H, I.kept (t' := tk) fun _ _ z => z, rfl, q⟩
/-- e.thing of such a one -/
def tByP (P : Program) (K : PySem.W.Frag) (mg : Str → Option Value) (a : Addr) (cls : Value) (d : Option Addr) (te : TE) : TE := fun σ H Q => te σ H fun x H1 => x = .ref a ∧ ∃ C fI : Addr, FoX_thing.XTxt P K mg C fI ∧ cls = .ref C ∧ ∃ (dd : Addr) (v : V), d = some dd ∧ H1 dd = some (.xd [((Str.ofString "thing"), v)]) ∧ Q v H1
theorem pe_byP {X : Cx} {a : Addr} {oe : Obj} {cls : Value} {d : Option Addr} {e : Expr} {te : TE} {pos : Pos} (hp : (a, oe) ∈ X.pn) (hz : Zc cls d oe) (hf : ∃ vs, oe.data = .fields vs) (he : PE X e te)
    (hb : attributeBase e (Str.ofString "thing") X.env (eval e X.env) = eval e X.env := by rfl) :
    PE X (.Attribute e (Str.ofString "thing") pos) (tByP X.prog X.K X.mg a cls d te) := by
  refine ⟨fun pins s σ H Q I h => ?_⟩
  refine attr_of hb (thn (he.run pins s σ H _ I h) fun u s1 hh => ?_)
  obtain ⟨x, H1, I1, rx, ex, C, fI, T, ec, dd, v, ed, ea, q⟩ := hh
  subst ex
  obtain rfl : u = Value.ref a := rx
  subst ec
  subst ed
  obtain ⟨ha, _⟩ := I1.pin (a, oe) (List.mem_append_left _ hp)
  obtain ⟨vs, hd⟩ := hf
  have hx : ObjOk X.prog X.w H1 s1.heap dd (.xd [((Str.ofString "thing"), v)]) := I1.hok dd _ ea
  obtain ⟨mA, hns, hr⟩ := hx
  obtain ⟨od, ho, hl⟩ := lookIn_ns hns
  have l : List.lookup (Str.ofString "thing") [((Str.ofString "thing"), v)] = some v := by simp [List.lookup]
  obtain ⟨u, hu, ru⟩ := RelO.some_of (v := v) (o := mA (Str.ofString "thing")) (by rw [← l]; exact hr (Str.ofString "thing"))
  have J : PySem.W.InstAt s1.heap a oe C (some od) := ⟨ha, hz.1, by unfold PySem.W.notCls; rw [hd] <;> rfl, by rw [hz.2]; exact ho⟩
  exact HandSPX.exc_get I1.kIn J T.ga T.gg T.exC (PySem.W.findObj_own T.hdC T.noN rfl (by rw [hl, hu])) (handed_of ru) ⟨v, H1, I1.tok _, ru, q⟩
end L2
set_option Elab.async false
set_option linter.all false
set_option maxRecDepth 100000
set_option maxHeartbeats 2000000
/-! o(..) by an own __call__, o.f = e by a property's setter -/
namespace FoRul
open PySem PySem.Spec PySem.Calls PyProof.Rows PySem.W
section
variable {M : Model} {A : Around} {E : Value → Shared → Prop} {s : Shared} {env : Env} {pos : Pos} {x : Addr} {first : List Value} {Q : Value → Shared → Prop}
theorem callWith_inst {e : Expr} {rest : List Expr} (h : wpAny M A (spliced (backTo pos (starEach (e :: rest) env))) (fun vs s₁ => (∃ ox, s₁.heap.get? x = some ox ∧ ox.data = .plain) ∧ wpAny M A (call (.ref x) (first ++ vs)) Q E s₁) E s)
    (he : starEach (e :: rest) env = (false, eval e env) :: starEach rest env) (hpl : (backTo pos (starEach rest env)).any (·.1) = false) : wpAny M A (callWith pos (.ref x) first (backTo pos (starEach (e :: rest) env)) []) Q E s := by
  rw [he] at h ⊢
  have plain : (((backTo pos ((false, eval e env) :: starEach rest env)).any (·.1)) || ([] : List (Option Str × Sem Value)).any (·.1.isNone)) = false := by
    show ((false || (backTo pos (starEach rest env)).any (·.1)) || false) = false
    rw [hpl]
    rfl
  have ev : wpAny M A (evalArgs (.ref x) true (backTo pos ((false, eval e env) :: starEach rest env)) []) (fun a s₁ => (∃ ox, s₁.heap.get? x = some ox ∧ ox.data = .plain) ∧ wpAny M A (call (.ref x) (first ++ a.pos) a.kw) Q E s₁) E s := evalArgs_plain h
  unfold callWith
  refine wpAny_bind (wpAny_holding (wpAny_mono ev (fun a s₁ h₁ => wpAny_bind (wpAny_standAt ?_)) fun _ _ y => y))
  obtain ⟨⟨ox, at_, hd⟩, h₁⟩ := h₁
  have keeper : Looks M s₁.heap (keeperOf (.ref x)) .caller := by
    refine (Looks.ld (part := none) at_).andThen ?_
    simp only [hd]
    exact .now
  simp only [plain]
  refine wpAny_bind (keeper.here ?_)
  have last : ∀ {t : Sem Value}, wpAny M A t Q E s₁ → wpAny M A (t >>= fun r => holding [r] point >>= fun _ => pure r) Q E s₁ := fun ht => wpAny_bind (wpAny_mono ht (fun r s₂ hr => wpAny_bind (wpAny_holding (wpAny_point (wpAny_pure hr)))) fun _ _ y => y)
  exact last (wpAny_operateT h₁)
end
end FoRul
namespace L2
open PySem PySem.Spec PyProof.Rows
/-- a class with an own __call__ at f -/
structure OwnCall (K : PySem.W.Frag) (C f : Addr) : Prop where
  at_ : PySem.W.findIn K (.ref C) "__call__" = some (some (.ref f))
  fn : PySem.W.isFn K (.ref f) = true
  fi : PySem.W.fnIn K f = true
/-- x(..), x a local that holds an instance of the class at C -/
def tCallI (i : Nat) (C : Addr) (sp : Sp) (E : XK) (t : TA) : TE := fun σ H Q => ∃ a, σ[i]? = some (some (.ref a)) ∧ t σ H fun vs H1 => ∃ dx fs, H1 a = some (.ins C dx fs) ∧ sp (.ref a :: vs) H1 Q E
/-- a property at p whose setter is the def at g -/
structure PropSet (K : PySem.W.Frag) (C : Addr) (f : Str) (p g : Addr) : Prop where
  at_ : PySem.W.takerIn K C f = some (some (.ref p))
  ty : PySem.W.typeIn K (.ref p) = some (.type "property")
  rec_ : ∃ a rest, PySem.W.recIn K p "property" = some (a :: .ref g :: rest)
def sProp (C : Addr) (sp : Sp) (E : XK) (ta tv : TE) : TS := fun D σ H => tv σ H fun y H1 => ta σ H1 fun x H2 => ∃ a dx fs, x = .ref a ∧ H2 a = some (.ins C dx fs) ∧ sp [.ref a, y] H2 (fun _ H3 => D.nx σ H3) E
section
variable {X : Cx} {CX : CXT} {k i : Nat} {f C p g : Addr} {fd : FuncData} {ps : List Str} {sp : Sp} {E : XK} {x nm : Str} {e o value : Expr} {es : List Expr} {t : TA} {ta tv : TE} {q pos pos' : Pos}
theorem pe_callI (O : OwnCall X.K C f) (F : FnOk X.prog X.w X.K X.mg X.base CX k f fd ps sp) (hr : Room (k + 1) X.A) (hb : Binds X.K fd ps []) (hx : Passes CX X E) (hN : X.N[i]? = some x) (hv : Vis X.env.scope x) (ha : PA X (e :: es) t)
    (hd : (x == ("__debug__" : Str)) = false := by decide) (hcd : (x == ("__classdict__" : Str)) = false := by decide)
    (he : starEach (e :: es) X.env = (false, eval e X.env) :: starEach es X.env := by rfl) (hpl : (backTo pos (starEach es X.env)).any (·.1) = false := by rfl) : PE X (.Call (.Name x q) (e :: es) [] pos) (tCallI i C sp E t) := by
  refine ⟨fun pins s σ H Q I h => ?_⟩
  obtain ⟨a, hs, h⟩ := h
  refine wpAny_Call_Name_kw (thn ((pe_var (pos := q) (i := i) hN hv hd hcd).run pins s σ H (fun v H1 => v = .ref a ∧ H1 = H) I ⟨.ref a, hs, rfl, rfl⟩) fun u s1 hh => ?_)
  obtain ⟨v, H1, I1, r1, ev, eH⟩ := hh
  subst ev
  rw [eH] at I1
  cases r1
  refine FoRul.callWith_inst (thn (ha.run pos pins s1 σ H _ I1 h) fun us s2 hh => ?_) he hpl
  obtain ⟨vs, H2, I2, r, dx, fs, hins, q2⟩ := hh
  obtain ⟨mA, O2, _⟩ := ins_get I2.hok hins
  obtain ⟨od, J, _⟩ := O2.look
  refine ⟨⟨_, J.at_, rfl⟩, wpAny_call (PySem.W.kco_code I2.kIn J rfl O.at_ O.fn O.fi ?_)⟩
  have r2 : Vals (.ref a :: vs) (.ref a :: us) := .cons rfl r
  have hl := F.len _ _ _ _ q2
  have bnd := hb s2 (.ref a :: us) I2.kIn (by rw [List.append_nil, ← r2.length]; exact hl)
  rw [List.append_nil] at bnd
  refine codeAny_mono (F.run X.A X.stack s2 H2 ⟨.ref a :: us, []⟩ (.ref a :: us) (.ref a :: vs) Q E (hr.mono (Nat.le_succ _)) I2.env0 bnd r2 q2) fun z s' hq => ?_
  cases z with
  | error er => exact hx pins σ H2 s2 er s' I2 hq
  | ok fl =>
    cases fl with
    | ret u => exact I2.after hq
    | next => exact hq.elim
    | brk => exact hq.elim
    | cont => exact hq.elim
theorem ps_prop (ho : PE X o ta) (hw : PE X value tv) (c : Cls X.K C) (hp : PropSet X.K C nm p g) (F : FnOk X.prog X.w X.K X.mg X.base CX k g fd ps sp) (hr : Room (k + 2) X.A) (hb : Binds X.K fd ps []) (hx : Passes CX X E)
    (hs : swapsWith value (some (.Attribute o nm pos')) pos.line X.env = pure false := by rfl) : PS X (.Assign [.Attribute o nm pos'] value pos) (sProp C sp E ta tv) := by
  refine ⟨fun pins s σ H D I h => ?_⟩
  refine plainObj_wpAny_Assign_Attribute (thn (hw.run pins s σ H _ I h) fun u s1 hh => ?_) hs
  obtain ⟨y, H1, I1, ry, q1⟩ := hh
  refine thn (ho.run pins s1 σ H1 _ I1 q1) fun ov s2 hh => ?_
  obtain ⟨x, H2, I2, rx, a, dx, fs, ex, hins, q2⟩ := hh
  subst ex
  obtain rfl : ov = Value.ref a := rx
  obtain ⟨mA, O2, _⟩ := ins_get I2.hok hins
  obtain ⟨od, J, _⟩ := O2.look
  obtain ⟨m, hF⟩ := I2.fr
  obtain ⟨a0, rest, hrec⟩ := hp.rec_
  have I3 := I2.tok (s2.toks + 1)
  have r2 : Vals [.ref a, y] [.ref a, u] := .cons rfl (.cons ry .nil)
  have hl := F.len _ _ _ _ q2
  have bnd := hb { s2 with toks := s2.toks + 1 } [.ref a, u] I3.kIn (by simpa using hl)
  rw [List.append_nil] at bnd
  refine PySem.W.set_prop hF I2.ok.mod.kin J c.sa c.po hp.at_ hp.ty hrec ?_
  refine codeAny_mono (F.run X.A.in1.in1 X.stack { s2 with toks := s2.toks + 1 } H2 ⟨[.ref a, u], []⟩ [.ref a, u] [.ref a, y] _ E hr.in1.in1 I3.env0.in1.in1 bnd r2 q2) fun z s' hq => ?_
  cases z with
  | error er => exact hx pins σ H2 { s2 with toks := s2.toks + 1 } er s' I3 hq
  | ok fl =>
    cases fl with
    | ret u' =>
      obtain ⟨v, H', I4, rv, q3⟩ := I3.after hq
      exact ⟨σ, H', I4, q3⟩
    | next => exact hq.elim
    | brk => exact hq.elim
    | cont => exact hq.elim
end
end L2
set_option linter.all false
/-! ### directions: kinds, the order round, the sort by insertion -/
namespace Fo
def kd (a : Int × Int) : Nat := if 0 < a.1 then (if a.2 = 0 then 0 else if 0 < a.2 then 1 else 7) else if a.1 = 0 then (if 0 < a.2 then 2 else 6) else (if 0 < a.2 then 3 else if a.2 = 0 then 4 else 5)
def crs (a b : Int × Int) : Int := a.1 * b.2 - a.2 * b.1
def dot (a b : Int × Int) : Int := a.1 * b.1 + a.2 * b.2
def bef (a b : Int × Int) : Bool := if kd a = kd b then decide (0 < crs a b) else decide (kd a < kd b)
def Dir (a : Int × Int) : Prop := a.1 ≠ 0 ∨ a.2 ≠ 0
def qtr (a : Int × Int) : Int × Int := (-a.2, a.1)
theorem crs_swap (a b : Int × Int) : crs b a = -crs a b := by
  unfold crs
  grind
theorem bef_asym {a b : Int × Int} (h : bef a b = true) : bef b a = false := by
  unfold bef at *
  by_cases e : kd a = kd b
  · rw [if_pos e] at h
    rw [if_pos e.symm]
    have h := of_decide_eq_true h
    have := crs_swap a b
    exact decide_eq_false (by omega)
  · rw [if_neg e] at h
    rw [if_neg (fun z => e z.symm)]
    have h := of_decide_eq_true h
    exact decide_eq_false (by omega)
theorem bef_irrefl (a : Int × Int) : bef a a = false := by
  unfold bef
  rw [if_pos rfl]
  have := crs_swap a a
  exact decide_eq_false (by omega)
/-- the signs of one kind -/
theorem kd_pos {a b : Int × Int} (h : kd a = kd b) : (0 < a.1 ↔ 0 < b.1) ∧ (0 < a.2 ↔ 0 < b.2) ∨ (¬ Dir a ∨ ¬ Dir b) := by
  unfold kd at h
  unfold Dir
  repeat' (split at h)
  all_goals first | (left; omega) | (right; omega) | omega
theorem kd_sign {a b : Int × Int} (ha : Dir a) (hb : Dir b) (h : kd a = kd b) : (0 < a.1 ↔ 0 < b.1) ∧ (a.1 = 0 ↔ b.1 = 0) ∧ (0 < a.2 ↔ 0 < b.2) ∧ (a.2 = 0 ↔ b.2 = 0) := by
  unfold kd at h
  unfold Dir at *
  repeat' (split at h)
  all_goals omega
theorem crs_trans {a b c : Int × Int} (ha : Dir a) (hb : Dir b) (hc : Dir c) (h1 : kd a = kd b) (h2 : kd b = kd c) (h : 0 < crs a c) : 0 < crs a b ∨ 0 < crs b c := by
  obtain ⟨p1, z1, p2, z2⟩ := kd_sign ha hb h1
  obtain ⟨r1, y1, r2, y2⟩ := kd_sign hb hc h2
  by_cases n1 : 0 < crs a b
  · exact .inl n1
  by_cases n2 : 0 < crs b c
  · exact .inr n2
  exfalso
  have id1 : crs a c * b.1 = crs a b * c.1 + crs b c * a.1 := by
    unfold crs
    grind
  have id2 : crs a c * b.2 = crs a b * c.2 + crs b c * a.2 := by
    unfold crs
    grind
  have np : ∀ u v : Int, ¬ 0 < u → 0 < v → u * v ≤ 0 := fun u v hu hv => Int.mul_nonpos_of_nonpos_of_nonneg (by omega) (by omega)
  have nn : ∀ u v : Int, ¬ 0 < u → v < 0 → 0 ≤ u * v := fun u v hu hv => Int.mul_nonneg_of_nonpos_of_nonpos (by omega) (by omega)
  rcases Int.lt_trichotomy b.1 0 with hb1 | hb1 | hb1
  · have q1 := nn _ c.1 n1 (by omega)
    have q2 := nn _ a.1 n2 (by omega)
    have q3 : crs a c * b.1 < 0 := Int.mul_neg_of_pos_of_neg h hb1
    omega
  · -- on the axis all crosses are 0
    have a0 : a.1 = 0 := z1.mpr hb1
    have c0 : c.1 = 0 := y1.mp hb1
    have : crs a c = 0 := by
      unfold crs
      rw [a0, c0]
      omega
    omega
  · have q1 := np _ c.1 n1 (by omega)
    have q2 := np _ a.1 n2 (by omega)
    have q3 : 0 < crs a c * b.1 := Int.mul_pos h hb1
    omega
theorem bef_nt {a b c : Int × Int} (ha : Dir a) (hb : Dir b) (hc : Dir c) (h : bef a c = true) : bef a b = true ∨ bef b c = true := by
  unfold bef at *
  by_cases e1 : kd a = kd b
  · by_cases e2 : kd b = kd c
    · rw [if_pos (e1.trans e2)] at h
      rw [if_pos e1, if_pos e2]
      rcases crs_trans ha hb hc e1 e2 (of_decide_eq_true h) with r | r
      · exact .inl (decide_eq_true r)
      · exact .inr (decide_eq_true r)
    · rw [if_neg (by omega)] at h
      rw [if_neg e2]
      have h := of_decide_eq_true h
      exact .inr (decide_eq_true (by omega))
  · by_cases e2 : kd b = kd c
    · rw [if_neg (by omega)] at h
      rw [if_neg e1]
      have h := of_decide_eq_true h
      exact .inl (decide_eq_true (by omega))
    · rw [if_neg e1, if_neg e2]
      by_cases e3 : kd a = kd c
      · have : kd a < kd b ∨ kd b < kd c := by omega
        rcases this with r | r
        · exact .inl (decide_eq_true r)
        · exact .inr (decide_eq_true r)
      · rw [if_neg e3] at h
        have h := of_decide_eq_true h
        have : kd a < kd b ∨ kd b < kd c := by omega
        rcases this with r | r
        · exact .inl (decide_eq_true r)
        · exact .inr (decide_eq_true r)
/-- two that are met at once are alike -/
theorem bef_alike {a b : Int × Int} (ha : Dir a) (hb : Dir b) (h1 : bef a b = false) (h2 : bef b a = false) : crs a b = 0 ∧ 0 < dot a b := by
  unfold bef at *
  by_cases e : kd a = kd b
  · rw [if_pos e] at h1
    rw [if_pos e.symm] at h2
    have h1 := of_decide_eq_false h1
    have h2 := of_decide_eq_false h2
    have := crs_swap a b
    refine ⟨by omega, ?_⟩
    obtain ⟨p1, z1, p2, z2⟩ := kd_sign ha hb e
    unfold dot
    have key : ∀ u v : Int, (0 < u ↔ 0 < v) → (u = 0 ↔ v = 0) → 0 ≤ u * v ∧ (u ≠ 0 → 0 < u * v) := by
      intro u v p z
      rcases Int.lt_trichotomy u 0 with hu | hu | hu
      · have hv : v < 0 := by omega
        have := Int.mul_pos_of_neg_of_neg hu hv
        exact ⟨by omega, fun _ => this⟩
      · rw [hu]
        simp
      · have hv : 0 < v := p.mp hu
        have := Int.mul_pos hu hv
        exact ⟨by omega, fun _ => this⟩
    have k1 := key a.1 b.1 p1 z1
    have k2 := key a.2 b.2 p2 z2
    rcases ha with ha | ha
    · have := k1.2 ha
      omega
    · have := k2.2 ha
      omega
  · rw [if_neg e] at h1
    rw [if_neg (fun z => e z.symm)] at h2
    have h1 := of_decide_eq_false h1
    have h2 := of_decide_eq_false h2
    omega
/-! ### the sort -/
section
variable {α : Type} (f : α → Int × Int)
def insB (e : α) (l : List α) : List α := l.takeWhile (fun x => !bef (f e) (f x)) ++ e :: l.dropWhile (fun x => !bef (f e) (f x))
def sortB (l : List α) : List α := l.foldl (fun acc e => insB f e acc) []
def Srt (l : List α) : Prop := l.Pairwise fun a b => bef (f b) (f a) = false
def Dirs (l : List α) : Prop := ∀ a ∈ l, Dir (f a)
variable {f}
theorem insB_perm (e : α) (l : List α) : (insB f e l).Perm (e :: l) := by
  unfold insB
  have h : (l.takeWhile (fun x => !bef (f e) (f x)) ++ l.dropWhile (fun x => !bef (f e) (f x))) = l := List.takeWhile_append_dropWhile
  refine List.perm_middle.trans ?_
  rw [h]
theorem foldl_ins_perm (l : List α) : ∀ acc : List α, (l.foldl (fun acc e => insB f e acc) acc).Perm (acc ++ l) := by
  induction l with
  | nil =>
    intro acc
    rw [List.append_nil]
    exact List.Perm.refl _
  | cons e l ih =>
    intro acc
    refine (ih (insB f e acc)).trans ?_
    have h := (insB_perm (f := f) e acc).append_right l
    refine h.trans ?_
    exact List.perm_middle.symm
theorem sortB_perm (l : List α) : (sortB f l).Perm l := foldl_ins_perm l []
theorem mem_takeWhile_p {p : α → Bool} {l : List α} {x : α} (h : x ∈ l.takeWhile p) : p x = true := by
  induction l with
  | nil => simp at h
  | cons a l ih =>
    rw [List.takeWhile_cons] at h
    by_cases c : p a = true
    · rw [if_pos c] at h
      rcases List.mem_cons.mp h with h | h
      · rw [h]
        exact c
      · exact ih h
    · rw [if_neg c] at h
      simp at h
/-- all from the first that e comes before on -/
theorem drop_bef {e : α} {l : List α} (hs : Srt f l) (hd : Dirs f l) (he : Dir (f e)) : ∀ x ∈ l.dropWhile (fun x => !bef (f e) (f x)), bef (f e) (f x) = true := by
  induction l with
  | nil =>
    intro x hx
    simp at hx
  | cons a l ih =>
    intro x hx
    have hs' := List.pairwise_cons.mp hs
    rw [List.dropWhile_cons] at hx
    by_cases c : (!bef (f e) (f a)) = true
    · rw [if_pos c] at hx
      exact ih hs'.2 (fun b hb => hd b (List.mem_cons_of_mem _ hb)) x hx
    · rw [if_neg c] at hx
      have c' : bef (f e) (f a) = true := by
        cases h : bef (f e) (f a) with
        | true => rfl
        | false => rw [h] at c; exact absurd rfl c
      rcases List.mem_cons.mp hx with hx | hx
      · rw [hx]
        exact c'
      · rcases bef_nt (b := f x) he (hd x (List.mem_cons_of_mem _ hx)) (hd a List.mem_cons_self) c' with r | r
        · exact r
        · rw [hs'.1 x hx] at r
          cases r
theorem insB_srt {e : α} {l : List α} (hs : Srt f l) (hd : Dirs f l) (he : Dir (f e)) : Srt f (insB f e l) := by
  have hdrop := drop_bef hs hd he
  have hl : (l.takeWhile (fun x => !bef (f e) (f x)) ++ l.dropWhile (fun x => !bef (f e) (f x))) = l := List.takeWhile_append_dropWhile
  have hs2 : Srt f (l.takeWhile (fun x => !bef (f e) (f x)) ++ l.dropWhile (fun x => !bef (f e) (f x))) := by
    rw [hl]
    exact hs
  have h3 := List.pairwise_append.mp hs2
  unfold insB Srt
  refine List.pairwise_append.mpr ⟨h3.1, List.pairwise_cons.mpr ⟨fun x hx => bef_asym (hdrop x hx), h3.2.1⟩, fun x hx y hy => ?_⟩
  rcases List.mem_cons.mp hy with hy | hy
  · rw [hy]
    have := mem_takeWhile_p hx
    simpa using this
  · exact h3.2.2 x hx y hy
theorem insB_dirs {e : α} {l : List α} (hd : Dirs f l) (he : Dir (f e)) : Dirs f (insB f e l) := fun a ha => by
  rcases List.mem_cons.mp ((insB_perm e l).mem_iff.mp ha) with h | h
  · rw [h]
    exact he
  · exact hd a h
theorem foldl_srt (l : List α) : ∀ acc : List α, Srt f acc → Dirs f acc → Dirs f l → Srt f (l.foldl (fun acc e => insB f e acc) acc) := by
  induction l with
  | nil =>
    intro acc h _ _
    exact h
  | cons e l ih =>
    intro acc h1 h2 h3
    have he := h3 e List.mem_cons_self
    exact ih _ (insB_srt h1 h2 he) (insB_dirs h2 he) fun a ha => h3 a (List.mem_cons_of_mem _ ha)
theorem sortB_srt {l : List α} (hd : Dirs f l) : Srt f (sortB f l) := foldl_srt l [] List.Pairwise.nil (fun a ha => by simp at ha) hd
theorem sortB_dirs {l : List α} (hd : Dirs f l) : Dirs f (sortB f l) := fun a ha => hd a ((sortB_perm l).mem_iff.mp ha)
theorem sortB_length (l : List α) : (sortB f l).length = l.length := (sortB_perm l).length_eq
theorem takeWhile_all {p : α → Bool} {l : List α} (h : ∀ x ∈ l, p x = true) : l.takeWhile p = l ∧ l.dropWhile p = [] := by
  induction l with
  | nil => exact ⟨rfl, rfl⟩
  | cons a l ih =>
    have h1 := h a List.mem_cons_self
    have h2 := ih fun x hx => h x (List.mem_cons_of_mem _ hx)
    rw [List.takeWhile_cons, if_pos h1, List.dropWhile_cons, if_pos h1, h2.1, h2.2]
    exact ⟨rfl, rfl⟩
theorem insB_end {e : α} {l : List α} (h : ∀ x ∈ l, bef (f e) (f x) = false) : insB f e l = l ++ [e] := by
  unfold insB
  have := takeWhile_all (p := fun x => !bef (f e) (f x)) (l := l) fun x hx => by
    show (!bef (f e) (f x)) = true
    rw [h x hx]
    rfl
  rw [this.1, this.2]
theorem insB_front {e : α} {l : List α} (h : ∀ x ∈ l, bef (f e) (f x) = true) : insB f e l = e :: l := by
  unfold insB
  cases l with
  | nil => rfl
  | cons a l =>
    have ha := h a List.mem_cons_self
    rw [List.takeWhile_cons, List.dropWhile_cons, ha]
    rfl
theorem foldl_fix (l : List α) : ∀ acc : List α, Srt f (acc ++ l) → l.foldl (fun acc e => insB f e acc) acc = acc ++ l := by
  induction l with
  | nil =>
    intro acc _
    rw [List.append_nil]
    rfl
  | cons e l ih =>
    intro acc h
    have h3 := List.pairwise_append.mp h
    show l.foldl (fun acc e => insB f e acc) (insB f e acc) = acc ++ e :: l
    rw [insB_end (fun x hx => h3.2.2 x hx e List.mem_cons_self)]
    have e2 : acc ++ e :: l = (acc ++ [e]) ++ l := by simp
    rw [e2] at h ⊢
    exact ih _ h
theorem sortB_fix {l : List α} (h : Srt f l) : sortB f l = l := foldl_fix l [] h
/-- strictly in order -/
def Str' (f : α → Int × Int) (l : List α) : Prop := l.Pairwise fun a b => bef (f a) (f b) = true
theorem sortB_rev {l : List α} (h : Str' f l) : sortB f l.reverse = l := by
  induction l with
  | nil => rfl
  | cons a l ih =>
    have h3 := List.pairwise_cons.mp h
    unfold sortB
    rw [List.reverse_cons, List.foldl_append]
    show insB f a (sortB f l.reverse) = a :: l
    rw [ih h3.2]
    exact insB_front h3.1
theorem srt_of_str {l : List α} (h : Str' f l) : Srt f l := List.Pairwise.imp (fun h => bef_asym h) h
theorem str_unique : ∀ {l m : List α}, Str' f l → Str' f m → l.Perm m → l = m
  | [], m, _, _, p => by
    have := p.length_eq
    cases m with
    | nil => rfl
    | cons b m => simp at this
  | a :: l, [], _, _, p => by
    have := p.length_eq
    simp at this
  | a :: l, b :: m, hl, hm, p => by
    have hl3 := List.pairwise_cons.mp hl
    have hm3 := List.pairwise_cons.mp hm
    have eab : a = b := by
      have h1 : a ∈ b :: m := p.mem_iff.mp List.mem_cons_self
      have h2 : b ∈ a :: l := p.mem_iff.mpr List.mem_cons_self
      rcases List.mem_cons.mp h1 with h1 | h1
      · exact h1
      · rcases List.mem_cons.mp h2 with h2 | h2
        · exact h2.symm
        · have q1 := hm3.1 a h1
          have q2 := hl3.1 b h2
          rw [bef_asym q1] at q2
          cases q2
    subst eab
    rw [str_unique hl3.2 hm3.2 (List.Perm.cons_inv p)]
/-- the place: all ahead of it are not behind e, all from it on are -/
theorem insB_place {e : α} : ∀ {l : List α} {i : Nat}, (∀ j (h : j < l.length), j < i → bef (f e) (f l[j]) = false) → (∀ j (h : j < l.length), i ≤ j → bef (f e) (f l[j]) = true) → l.take i ++ [e] ++ l.drop i = insB f e l
  | [], i, _, _ => by simp [insB]
  | a :: l, 0, _, h2 => by
    have : ∀ x ∈ a :: l, bef (f e) (f x) = true := fun x hx => by
      obtain ⟨j, hj, rfl⟩ := List.getElem_of_mem hx
      exact h2 j hj (Nat.zero_le _)
    rw [insB_front this]
    rfl
  | a :: l, i + 1, h1, h2 => by
    have ha : bef (f e) (f a) = false := h1 0 (Nat.succ_pos _) (Nat.succ_pos _)
    have ih := insB_place (e := e) (l := l) (i := i) (fun j h hj => h1 (j + 1) (Nat.succ_lt_succ h) (Nat.succ_lt_succ hj)) (fun j h hj => h2 (j + 1) (Nat.succ_lt_succ h) (Nat.succ_le_succ hj))
    have e1 : insB f e (a :: l) = a :: insB f e l := by
      unfold insB
      rw [List.takeWhile_cons, List.dropWhile_cons, ha]
      rfl
    rw [e1, ← ih]
    simp
end
end Fo
set_option linter.all false
namespace Fo
theorem kd_lt (a : Int × Int) : kd a < 8 := by
  unfold kd
  repeat' split
  all_goals omega
theorem kd_qtr {a : Int × Int} (h : Dir a) : kd (qtr a) = (kd a + 2) % 8 := by
  obtain ⟨x, y⟩ := a
  unfold Dir at h
  unfold kd qtr
  simp only at *
  repeat' split
  all_goals omega
theorem kd_neg {a : Int × Int} (h : Dir a) : kd (-a.1, -a.2) = (kd a + 4) % 8 := by
  obtain ⟨x, y⟩ := a
  unfold Dir at h
  unfold kd
  simp only at *
  repeat' split
  all_goals omega
theorem mul_sign {x m : Int} (hm : 0 < m) : (0 < x * m ↔ 0 < x) ∧ (x * m = 0 ↔ x = 0) := by
  rcases Int.lt_trichotomy x 0 with h | h | h
  · have := Int.mul_neg_of_neg_of_pos h hm
    omega
  · rw [h]
    simp
  · have := Int.mul_pos h hm
    omega
theorem kd_mul (a : Int × Int) {m : Int} (hm : 0 < m) : kd (a.1 * m, a.2 * m) = kd a := by
  obtain ⟨x, y⟩ := a
  have h1 := mul_sign (x := x) hm
  have h2 := mul_sign (x := y) hm
  unfold kd
  simp only at *
  simp only [h1.1, h2.1, h1.2, h2.2]
theorem crs_qtr (a b : Int × Int) : crs (qtr a) (qtr b) = crs a b := by
  unfold crs qtr
  grind
theorem sq_pos {x : Int} (h : x ≠ 0) : 0 < x * x := by
  rcases Int.lt_trichotomy x 0 with h1 | h1 | h1
  · exact Int.mul_pos_of_neg_of_neg h1 h1
  · exact absurd h1 h
  · exact Int.mul_pos h1 h1
theorem sq_nn (x : Int) : 0 ≤ x * x := by
  by_cases h : x = 0
  · rw [h]
    decide
  · exact Int.le_of_lt (sq_pos h)
theorem crs_self_qtr {a : Int × Int} (h : Dir a) : 0 < crs a (qtr a) := by
  have e : crs a (qtr a) = a.1 * a.1 + a.2 * a.2 := by
    unfold crs qtr
    grind
  rw [e]
  have h1 := sq_nn a.1
  have h2 := sq_nn a.2
  rcases h with h | h
  · have := sq_pos h
    omega
  · have := sq_pos h
    omega
theorem dir_qtr {a : Int × Int} (h : Dir a) : Dir (qtr a) := by
  unfold Dir qtr at *
  simp only
  omega
theorem dir_mul {a : Int × Int} {m : Int} (h : Dir a) (hm : 0 < m) : Dir (a.1 * m, a.2 * m) := by
  have h1 := (mul_sign (x := a.1) hm).2
  have h2 := (mul_sign (x := a.2) hm).2
  unfold Dir at *
  simp only
  omega
/-- turned, both below kind 6 or both from 6 on -/
theorem bef_qtr {a b : Int × Int} (ha : Dir a) (hb : Dir b) (h : kd a < 6 ↔ kd b < 6) : bef (qtr a) (qtr b) = bef a b := by
  have la := kd_lt a
  have lb := kd_lt b
  unfold bef
  rw [kd_qtr ha, kd_qtr hb, crs_qtr]
  by_cases e : kd a = kd b
  · rw [if_pos e, if_pos (by omega)]
  · rw [if_neg e, if_neg (by omega)]
    by_cases c : kd a < kd b
    · rw [decide_eq_true c, decide_eq_true (by omega)]
    · rw [decide_eq_false c, decide_eq_false (by omega)]
theorem bef_turned {a b : Int × Int} (ha : Dir a) (hb : Dir b) (h1 : kd a < 6) (h2 : ¬ kd b < 6) : bef (qtr b) (qtr a) = true := by
  have la := kd_lt a
  have lb := kd_lt b
  unfold bef
  rw [kd_qtr ha, kd_qtr hb, if_neg (by omega)]
  exact decide_eq_true (by omega)
section
variable {α : Type} {f : α → Int × Int}
/-- no two alike -/
def Apart (f : α → Int × Int) (l : List α) : Prop := l.Pairwise fun a b => ¬ (crs (f a) (f b) = 0 ∧ 0 < dot (f a) (f b))
theorem alike_symm {a b : Int × Int} (h : ¬ (crs a b = 0 ∧ 0 < dot a b)) : ¬ (crs b a = 0 ∧ 0 < dot b a) := by
  intro z
  apply h
  have e1 := crs_swap a b
  have e2 : dot b a = dot a b := by
    unfold dot
    grind
  omega
theorem apart_perm {l m : List α} (h : Apart f l) (p : l.Perm m) : Apart f m := (p.pairwise_iff fun h => alike_symm h).mp h
theorem str_of {l : List α} (hs : Srt f l) (hd : Dirs f l) (ha : Apart f l) : Str' f l := by
  induction l with
  | nil => exact List.Pairwise.nil
  | cons a l ih =>
    have s := List.pairwise_cons.mp hs
    have t := List.pairwise_cons.mp ha
    refine List.pairwise_cons.mpr ⟨fun b hb => ?_, ih s.2 (fun x hx => hd x (List.mem_cons_of_mem _ hx)) t.2⟩
    cases h : bef (f a) (f b) with
    | true => rfl
    | false => exact absurd (bef_alike (hd a List.mem_cons_self) (hd b (List.mem_cons_of_mem _ hb)) h (s.1 b hb)) (t.1 b hb)
theorem sortB_str {l : List α} (hd : Dirs f l) (ha : Apart f l) : Str' f (sortB f l) := str_of (sortB_srt hd) (sortB_dirs hd) (apart_perm ha (sortB_perm l).symm)
end
/-- below kind 6 stands first -/
theorem split6 : ∀ {l : List (Int × Int)}, Srt id l → ∃ n, n ≤ l.length ∧ (∀ x ∈ l.take n, kd x < 6) ∧ ∀ x ∈ l.drop n, ¬ kd x < 6
  | [], _ => ⟨0, Nat.le_refl _, fun x hx => by simp at hx, fun x hx => by simp at hx⟩
  | a :: l, h => by
    have s := List.pairwise_cons.mp h
    by_cases c : kd a < 6
    · obtain ⟨n, hn, h1, h2⟩ := split6 s.2
      refine ⟨n + 1, Nat.succ_le_succ hn, fun x hx => ?_, h2⟩
      rw [List.take_succ_cons] at hx
      rcases List.mem_cons.mp hx with hx | hx
      · rw [hx]
        exact c
      · exact h1 x hx
    · refine ⟨0, Nat.zero_le _, fun x hx => by simp at hx, fun x hx => ?_⟩
      rw [List.drop_zero] at hx
      rcases List.mem_cons.mp hx with hx | hx
      · rw [hx]
        exact c
      · have h3 := s.1 x hx
        unfold bef at h3
        simp only [id] at h3
        by_cases e : kd x = kd a
        · omega
        · rw [if_neg e] at h3
          have h3 := of_decide_eq_false h3
          omega
/-- the turned directions in order are those in order, turned, begun elsewhere -/
theorem turned_round {l : List (Int × Int)} (hd : Dirs id l) (ha : Apart id l) : ∃ n, n ≤ l.length ∧
    sortB id (l.map qtr) = ((sortB id l).map qtr).drop n ++ ((sortB id l).map qtr).take n := by
  have hs := sortB_srt hd
  have hst := sortB_str hd ha
  have hds := sortB_dirs hd
  obtain ⟨n, hn, h1, h2⟩ := split6 hs
  rw [sortB_length] at hn
  refine ⟨n, hn, ?_⟩
  have hsd : Dirs id (l.map qtr) := fun x hx => by
    obtain ⟨y, hy, rfl⟩ := List.mem_map.mp hx
    exact dir_qtr (hd y hy)
  have hap : Apart id (l.map qtr) := by
    refine List.pairwise_map.mpr (List.Pairwise.imp ?_ ha)
    intro a b h z
    apply h
    have e2 : dot (qtr a) (qtr b) = dot a b := by
      unfold dot qtr
      grind
    have e1 := crs_qtr a b
    simp only [id] at *
    omega
  refine str_unique (f := id) (sortB_str hsd hap) ?_ ?_
  · rw [← List.map_drop, ← List.map_take]
    have hdl : ∀ x ∈ (sortB id l).drop n, Dir x := fun x hx => hds x (List.mem_of_mem_drop hx)
    have htl : ∀ x ∈ (sortB id l).take n, Dir x := fun x hx => hds x (List.mem_of_mem_take hx)
    refine List.pairwise_append.mpr ⟨?_, ?_, ?_⟩
    · refine List.pairwise_map.mpr ?_
      have p : ((sortB id l).drop n).Pairwise fun a b => bef a b = true := List.Pairwise.drop hst
      refine List.Pairwise.imp_of_mem ?_ p
      intro a b ma mb h
      have k1 := h2 a ma
      have k2 := h2 b mb
      simp only [id]
      rw [bef_qtr (hdl a ma) (hdl b mb) (by omega)]
      exact h
    · refine List.pairwise_map.mpr ?_
      have p : ((sortB id l).take n).Pairwise fun a b => bef a b = true := List.Pairwise.take hst
      refine List.Pairwise.imp_of_mem ?_ p
      intro a b ma mb h
      have k1 := h1 a ma
      have k2 := h1 b mb
      simp only [id]
      rw [bef_qtr (htl a ma) (htl b mb) (by omega)]
      exact h
    · intro x hx y hy
      obtain ⟨u, hu, rfl⟩ := List.mem_map.mp hx
      obtain ⟨v, hv, rfl⟩ := List.mem_map.mp hy
      exact bef_turned (htl v hv) (hdl u hu) (h1 v hv) (h2 u hu)
  · refine (sortB_perm _).trans ?_
    have p1 : (((sortB id l).map qtr).drop n ++ ((sortB id l).map qtr).take n).Perm (((sortB id l).map qtr).take n ++ ((sortB id l).map qtr).drop n) := List.perm_append_comm
    rw [List.take_append_drop] at p1
    exact (p1.trans ((sortB_perm l).map qtr)).symm
/-! ### the shortest -/
def gcI (a : Int × Int) : Int := (Int.gcd a.1 a.2 : Int)
def low (a : Int × Int) : Int × Int := (a.1 / gcI a, a.2 / gcI a)
theorem gcI_pos {a : Int × Int} (h : Dir a) : 0 < gcI a := by
  unfold gcI
  have : Int.gcd a.1 a.2 ≠ 0 := by
    intro z
    have := Int.gcd_eq_zero_iff.mp z
    rcases h with h | h
    · exact h this.1
    · exact h this.2
  omega
theorem gcI_dvd1 (a : Int × Int) : gcI a ∣ a.1 := Int.gcd_dvd_left ..
theorem gcI_dvd2 (a : Int × Int) : gcI a ∣ a.2 := Int.gcd_dvd_right ..
theorem low_mul {a : Int × Int} (h : Dir a) {m : Int} (hm : 0 < m) : low (a.1 * m, a.2 * m) = low a := by
  have e : gcI (a.1 * m, a.2 * m) = gcI a * m := by
    unfold gcI
    simp only
    rw [Int.gcd_mul_right]
    rw [Int.natCast_mul]
    congr 1
    omega
  unfold low
  rw [e]
  simp only
  rw [Int.mul_ediv_mul_of_pos_left _ _ hm, Int.mul_ediv_mul_of_pos_left _ _ hm]
theorem low_qtr {a : Int × Int} : low (qtr a) = qtr (low a) := by
  have e : gcI (qtr a) = gcI a := by
    unfold gcI qtr
    simp only
    rw [Int.neg_gcd, Int.gcd_comm]
  unfold low
  rw [e]
  unfold qtr
  simp only
  rw [Int.neg_ediv_of_dvd (gcI_dvd2 a)]
end Fo
set_option linter.all false
namespace Fo
theorem mmmc (a b c d : Int) : a * b * (c * d) = a * c * (b * d) := by
  rw [Int.mul_assoc, Int.mul_left_comm b c d, ← Int.mul_assoc]
theorem low_mul_gc {a : Int × Int} : (low a).1 * gcI a = a.1 ∧ (low a).2 * gcI a = a.2 := ⟨Int.ediv_mul_cancel (gcI_dvd1 a), Int.ediv_mul_cancel (gcI_dvd2 a)⟩
theorem low_dir {a : Int × Int} (h : Dir a) : Dir (low a) := by
  obtain ⟨h1, h2⟩ := low_mul_gc (a := a)
  rcases h with h | h
  · refine .inl fun z => h ?_
    rw [← h1, z, Int.zero_mul]
  · refine .inr fun z => h ?_
    rw [← h2, z, Int.zero_mul]
theorem low_low {a : Int × Int} (h : Dir a) : low (low a) = low a := by
  have e := low_mul (low_dir h) (gcI_pos h)
  obtain ⟨h1, h2⟩ := low_mul_gc (a := a)
  rw [h1, h2] at e
  exact e.symm
theorem low_prime {a : Int × Int} (h : Dir a) {m : Int} (hm : 2 ≤ m) : ¬ ((low a).1 % m = 0 ∧ (low a).2 % m = 0) := by
  rintro ⟨h1, h2⟩
  have g : Int.gcd (low a).1 (low a).2 = 1 := by
    have p := gcI_pos h
    unfold gcI at p
    exact Int.gcd_ediv_gcd_ediv_gcd (by omega)
  have d := Int.dvd_coe_gcd (Int.dvd_of_emod_eq_zero h1) (Int.dvd_of_emod_eq_zero h2)
  rw [g] at d
  have := Int.le_of_dvd (by decide) d
  omega
def sw (a b : Int × Int) : Bool := decide (a.1 * b.2 = a.2 * b.1) && decide (0 < a.1 * b.1 + a.2 * b.2)
theorem nn_pos {a : Int × Int} (h : Dir a) : 0 < a.1 * a.1 + a.2 * a.2 := by
  have h1 := sq_nn a.1
  have h2 := sq_nn a.2
  rcases h with h | h
  · have := sq_pos h
    omega
  · have := sq_pos h
    omega
theorem sw_low {a : Int × Int} (h : Dir a) : sw (low a) a = true := by
  obtain ⟨h1, h2⟩ := low_mul_gc (a := a)
  have p := gcI_pos h
  have n := nn_pos (low_dir h)
  generalize low a = b at *
  generalize gcI a = g at *
  obtain ⟨x, y⟩ := b
  obtain ⟨u, v⟩ := a
  unfold sw
  simp only at *
  subst h1
  subst h2
  have e1 : x * (y * g) = y * (x * g) := by
    rw [← Int.mul_assoc, ← Int.mul_assoc, Int.mul_comm x y]
  have e2 : x * (x * g) + y * (y * g) = (x * x + y * y) * g := by
    rw [Int.add_mul, Int.mul_assoc, Int.mul_assoc]
  rw [decide_eq_true e1, e2, decide_eq_true (Int.mul_pos n p)]
  rfl
/-- alike ones are multiples -/
theorem sw_mul {a c : Int × Int} (h : sw a c = true) : ∃ D : Int, 0 < D ∧ a.1 * (c.1 * c.1 + c.2 * c.2) = c.1 * D ∧ a.2 * (c.1 * c.1 + c.2 * c.2) = c.2 * D := by
  unfold sw at h
  rw [Bool.and_eq_true] at h
  have h1 := of_decide_eq_true h.1
  have h2 := of_decide_eq_true h.2
  obtain ⟨x, y⟩ := a
  obtain ⟨u, v⟩ := c
  simp only at *
  refine ⟨x * u + y * v, h2, ?_, ?_⟩
  · have e : x * (v * v) = u * (y * v) := by
      rw [← Int.mul_assoc, h1, Int.mul_assoc, Int.mul_left_comm]
    rw [Int.mul_add, Int.mul_add, e, Int.mul_left_comm x u u]
  · have e : y * (u * u) = v * (x * u) := by
      rw [← Int.mul_assoc, ← h1, Int.mul_assoc, Int.mul_left_comm]
    rw [Int.mul_add, Int.mul_add, e, Int.mul_left_comm y v v]
theorem sw_bef {a b c : Int × Int} (hc : Dir c) (h1 : sw a c = true) (h2 : sw b c = true) : bef a b = false := by
  obtain ⟨D1, p1, e1, e2⟩ := sw_mul h1
  obtain ⟨D2, p2, e3, e4⟩ := sw_mul h2
  have n := nn_pos hc
  generalize c.1 * c.1 + c.2 * c.2 = N at *
  have k1 : kd a = kd c := by
    have r1 := kd_mul a n
    have r2 := kd_mul c p1
    rw [e1, e2] at r1
    rw [← r1, r2]
  have k2 : kd b = kd c := by
    have r1 := kd_mul b n
    have r2 := kd_mul c p2
    rw [e3, e4] at r1
    rw [← r1, r2]
  have z : crs a b = 0 := by
    have q : crs a b * (N * N) = 0 := by
      unfold crs
      have q1 : (a.1 * b.2 - a.2 * b.1) * (N * N) = (a.1 * N) * (b.2 * N) - (a.2 * N) * (b.1 * N) := by
        rw [Int.sub_mul]
        congr 1
        · rw [mmmc]
        · rw [mmmc]
      rw [q1, e1, e2, e3, e4]
      have q2 : c.1 * D1 * (c.2 * D2) = c.2 * D1 * (c.1 * D2) := by
        rw [mmmc, mmmc c.2, Int.mul_comm c.1 c.2]
      rw [q2]
      exact Int.sub_self _
    have nn : N * N ≠ 0 := Int.ne_of_gt (Int.mul_pos n n)
    rcases Int.mul_eq_zero.mp q with q | q
    · exact q
    · exact absurd q nn
  unfold bef
  rw [if_pos (k1.trans k2.symm), z]
  rfl
theorem ins_filter {e c : Int × Int} {l : List (Int × Int)} (hs : Srt id l) (hd : Dirs id l) (he : Dir e) (hc : Dir c) : (insB id e l).filter (fun x => sw x c) = l.filter (fun x => sw x c) ++ [e].filter (fun x => sw x c) := by
  have hl : (l.takeWhile (fun x => !bef (id e) (id x)) ++ l.dropWhile (fun x => !bef (id e) (id x))) = l := List.takeWhile_append_dropWhile
  have hdrop := drop_bef (f := id) hs hd he
  unfold insB
  conv => rhs; rw [← hl]
  generalize l.takeWhile (fun x => !bef (id e) (id x)) = A at *
  generalize l.dropWhile (fun x => !bef (id e) (id x)) = B at *
  rw [List.filter_append, List.filter_append, List.append_assoc]
  congr 1
  rw [show e :: B = [e] ++ B from rfl, List.filter_append]
  by_cases q : sw e c = true
  · have hB : B.filter (fun x => sw x c) = [] := by
      rw [List.filter_eq_nil_iff]
      intro x hx hq
      have r := hdrop x hx
      have r2 := sw_bef hc q hq
      simp only [id] at r
      rw [r2] at r
      cases r
    rw [hB, List.nil_append, List.append_nil]
  · have he' : [e].filter (fun x => sw x c) = [] := by
      rw [List.filter_eq_nil_iff]
      intro x hx
      rw [List.mem_singleton] at hx
      rw [hx]
      exact q
    rw [he', List.nil_append, List.append_nil]
theorem foldl_filter {c : Int × Int} (hc : Dir c) (l : List (Int × Int)) : ∀ acc : List (Int × Int), Srt id acc → Dirs id acc → Dirs id l → (l.foldl (fun acc e => insB id e acc) acc).filter (fun x => sw x c) = acc.filter (fun x => sw x c) ++ l.filter (fun x => sw x c) := by
  induction l with
  | nil =>
    intro acc _ _ _
    simp
  | cons e l ih =>
    intro acc hs hd hl
    have he : Dir e := hl e List.mem_cons_self
    rw [List.foldl_cons, ih _ (insB_srt hs hd he) (insB_dirs hd he) (fun x hx => hl x (List.mem_cons_of_mem _ hx)), ins_filter hs hd he hc, List.append_assoc, ← List.filter_append]
    rfl
theorem sort_filter {c : Int × Int} (hc : Dir c) {l : List (Int × Int)} (hl : Dirs id l) : (sortB id l).filter (fun x => sw x c) = l.filter (fun x => sw x c) := by
  have := foldl_filter hc l [] List.Pairwise.nil (fun a ha => by simp at ha) hl
  unfold sortB
  simpa using this
theorem srt_next {l : List (Int × Int)} (h : Srt id l) {i : Nat} (h1 : i + 1 < l.length) : bef l[i + 1] l[i] = false := List.pairwise_iff_getElem.mp h i (i + 1) (by omega) h1 (by omega)
end Fo
set_option Elab.async false
set_option linter.all false
set_option maxRecDepth 100000
set_option maxHeartbeats 2000000
/-! xs != [] of any items; loops over enumerate(xs) -/
namespace L2
open PySem PySem.Spec PyProof.Rows
section
variable {X : Cx}
def rNeNil : R2 := fun x y H Q => ∃ (a b : Addr) (xs : List V), x = .ref a ∧ y = .ref b ∧ H a = some (.lst xs) ∧ H b = some (.lst []) ∧ Q (.bl (!xs.isEmpty)) H
theorem op_neNil (hu : X.A.units < cLine) : OpR X (compareOp .NotEq) rNeNil := by
  intro pins s σ H x y v u Q I rx ry h
  obtain ⟨a, b, xs, rfl, rfl, ha, hb, q⟩ := h
  obtain rfl : v = Value.ref a := rx
  obtain rfl : u = Value.ref b := ry
  obtain ⟨_, its, n1, r1, e1⟩ := (show ObjOk X.prog X.w H s.heap a (.lst xs) from I.hok a _ ha)
  obtain ⟨_, its2, n2, r2, e2⟩ := (show ObjOk X.prog X.w H s.heap b (.lst []) from I.hok b _ hb)
  have l1 := r1.length
  have l2 := r2.length
  have hl1 : s.heap.IsList a its.toArray := ⟨_, e1, rfl, _, rfl⟩
  have hl2 : s.heap.IsList b its2.toArray := ⟨_, e2, rfl, _, rfl⟩
  have z2 : its2.length = 0 := by rw [← l2]; rfl
  cases xs with
  | nil =>
    have z1 : its.length = 0 := by rw [← l1]; rfl
    have k := PySem.SeqAt.RcNeAt.lists (A := X.A) (s := s) (e := fun _ => true) hl1 hl2 (by simp [z1, z2]) hu (fun j h1 h2 => by simp [z1] at h1)
    have e : (!(List.range its.toArray.size).all fun _ => true) = false := by simp
    rw [e] at k
    exact k X.prog X.w X.xe _ ⟨.bl false, H, I, rfl, q⟩
  | cons y ys =>
    have z1 : its.length = ys.length + 1 := by rw [← l1]; rfl
    have k := PySem.SeqAt.RcNeAt.lists_lengths (A := X.A) (s := s) hl1 hl2 (by simp [z1, z2]) hu
    exact k X.prog X.w X.xe _ ⟨.bl true, H, I, rfl, q⟩
end
/-- a loop over enumerate of a list -/
theorem for_enumL {K : PySem.W.Frag} {a : Addr} {xs : List V} {g : TG} {tb : TS} {D : Ends} {σ : L2.St} {H : Hp} (Pv : Nat → L2.St → Hp → Prop) (h0 : Pv 0 σ H) (hq : ∀ i σ H, Pv i σ H → SqL K H a xs)
    (hs : ∀ (i : Nat) (x : V) (T : Addr) (σ : L2.St) (H : Hp), xs[i]? = some x → Pv i σ H → H T = none → g (.ref T) σ (upd H T (.tup [.int (i : Nat), x])) fun σ2 H2 => tb { D with nx := Pv (i + 1), ct := Pv (i + 1), bk := D.nx } σ2 H2) (hd : ∀ σ H, Pv xs.length σ H → D.nx σ H) :
    ∃ W : Nat → Nat → L2.St → Hp → Prop, (∃ m, W 0 m σ H) ∧ ∀ i m σ H, W i m σ H →
      ((Ite K a).stop i H ∧ D.nx σ H) ∨ ((Ite K a).go i H ∧ ∃ N : L2.St → Hp → Prop, (∀ σ' H', N σ' H' → ∃ m', m' < m ∧ W (i + 1) m' σ' H') ∧ ∀ v H', (Ite K a).yld i H v H' → g v σ H' fun σ2 H2 => tb { D with nx := N, ct := N, bk := D.nx } σ2 H2) := by
  refine ⟨fun i m σ H => m = xs.length - i ∧ i ≤ xs.length ∧ Pv i σ H, ⟨xs.length, rfl, Nat.zero_le _, h0⟩, ?_⟩
  rintro i m σ H ⟨rfl, hi, p⟩
  have qx := hq i σ H p
  by_cases hlt : i < xs.length
  · have hx : xs[i]? = some xs[i] := List.getElem?_eq_getElem hlt
    refine .inr ⟨⟨xs, _, qx, hx⟩, Pv (i + 1), fun σ' H' p' => ⟨xs.length - (i + 1), by omega, rfl, hlt, p'⟩, fun v H' y => ?_⟩
    obtain ⟨T, x', rfl, hT, rfl, f1⟩ := y
    exact hs i x' T σ H (f1 xs qx) p hT
  · have e : i = xs.length := by omega
    subst e
    exact .inl ⟨⟨xs, qx, Nat.le_refl _⟩, hd σ H p⟩
end L2
set_option Elab.async false
set_option linter.all false
set_option maxRecDepth 100000
set_option maxHeartbeats 2000000
namespace FoX_number
open PySem PySem.W PySem.Calls PyProof.Rows PySem.HandSPX FoX
/-- the text of such an __init__ -/
def xB (msg : Str) (a1 a2 a3 a4 a5 a6 q1 q2 q3 q4 : Pos) (j : Nat) : List Stmt :=
  [.Expr (.Call (.Attribute (.Call (.Name "super" a1) [] [] a2) "__init__" a3) [.Constant (.str msg) j a4] [] a5) a6, .Assign [.Attribute (.Name "self" q1) (Str.ofString "number") q2] (.Name (Str.ofString "number") q3) q4]
def xS : Scope := { kind := .function, names := [(Str.ofString "self", .local), ((Str.ofString "number"), .local), (Str.ofString "__class__", .free), (Str.ofString "super", .globalImplicit)], isGenerator := false, isCoroutine := false, more := [] }
def xA (p1 p2 : Pos) : Arguments := { posonlyargs := [], args := [{ arg := "self", annotation := none, pos := p1 }, { arg := (Str.ofString "number"), annotation := none, pos := p2 }], vararg := none, kwonlyargs := [], kw_defaults := [], kwarg := none, defaults := [] }
/-- what the written part says of the class at C and its __init__ at fI -/
structure XTxt (P : Program) (K : Frag) (mg : Str → Option Value) (C fI : Addr) : Prop where
  cls : ∃ nm q N bs bm sn sub ab col dd k0 k1 k2 k3 k5, K.lookup C = some (excClassObj nm q C N bs bm true sn sub ab col dd k0 k1 k2 k3 k5 "ValueError.__new__") ∧ refsVE bm = true
  sa : findIn K (.ref C) "__setattr__" = some (some (.builtin "object.__setattr__"))
  ga : findIn K (.ref C) "__getattribute__" = some (some (.builtin "BaseException.__getattribute__"))
  gg : findIn K (.ref C) "__getattr__" = some none
  noN : findIn K (.ref C) (Str.ofString "number") = some none
  iC : findIn K (.ref C) "__init__" = some (some (.ref fI))
  tC : typeIn K (.ref fI) = some (.type "function")
  kC : keepIn K (.ref C) = true
  exC : subIn K (.ref C) (.type "BaseException") = some true
  tyC : typeIn K (.ref C) = some (.type "type")
  hdC : hasDictIn K C = true
  sup : ks_superIn K C C "__init__" = some (some (.builtin "ValueError.__init__"))
  tp : nsIn K cStatics "thirdparty.any" = some none
  zs : mg "super" = none
  ve : subIn K (.ref C) (.type "ValueError") = some true
  mr : mroIn K C (.ref C) = some true
  top : (P.main.scope.names.lookup ("super" : Str)).isSome = false
  fn : ∃ (qual msg : Str) (oc : Value) (od : Option Addr) (doc pm kV : Value) (an : Option Addr) (cc cda : Addr) (ct : Value) (osl : Array (Option Value)) (p1 p2 a1 a2 a3 a4 a5 a6 q1 q2 q3 q4 : Pos) (j : Nat) (ccl cl : Value) (cdd cld : Option Addr) (vs : Array Value) (ccs csl : Array (Option Value)) (file : Str) (tf : Tok),
    K.lookup fI = some ⟨oc, od, .func (ksFn "__init__" qual (xA p1 p2) (xB msg a1 a2 a3 a4 a5 a6 q1 q2 q3 q4 j) xS .none kV doc pm an (.ref cda) ct cc), osl⟩ ∧ codeIn K (.ref cda) qual = true ∧
    K.lookup cda = some ⟨ccl, cdd, .fields vs, ccs⟩ ∧ vs[2]? = some (.str file tf) ∧ ((P.main.file : Str) == file) = true ∧ (a3.endLine == a5.line) = true ∧ K.lookup cc = some ⟨cl, cld, .cell (some (.ref C)), csl⟩
theorem xcel : ∀ y ∈ xS.names, y.2 ≠ .cell := by decide
/-- the call of super's method, its tree -/
theorem x_tree (msg : Str) (a1 a2 a3 a4 a5 : Pos) (j : Nat) (env : Env) (hl : (a3.endLine == a5.line) = true) : eval (.Call (.Attribute (.Call (.Name "super" a1) [] [] a2) "__init__" a3) [.Constant (.str msg) j a4] [] a5) env = (do
      let ov ← attributeBase (.Call (.Name "super" a1) [] [] a2) "__init__" env (eval (.Call (.Name "super" a1) [] [] a2) env)
      standAt a3.atName
      let (f, first) ← holding [ov] (getMethod ov "__init__" (do return (← importBound (.Call (.Name "super" a1) [] [] a2) env).getD true))
      callWith a5 f first (backTo a5 (starEach [.Constant (.str msg) j a4] env)) []) := by
  rw [arm_eval_Call]
  unfold methodCall methodCallPos
  simp only [hl, Bool.or_true, if_true]
  rfl
/-- what __init__ leaves of a fresh error at x -/
structure XEnd (h h' : Heap) (x C dx : Addr) (v : Value) : Prop where
  keep : ∀ b o, b ≠ x → h.get? b = some o → h'.get? b = some o
  obj : ∃ t1 : Addr, h'.get? x = some { cls := .ref C, dict := some dx, data := .fields #[.ref t1, .none, .none, .none, .bool false, .none] }
  dbig : h.objs.size ≤ dx
  dne : dx ≠ x
  ns : h'.Ns1 dx (fun y => if y = (Str.ofString "number") then some v else none)
section
variable {prog : Program} {w : World} {A : Around} {E : Value → Shared → Prop} {R : Result → Shared → Prop} {s : Shared} {K : Frag} {mg : Str → Option Value} {C fI : Addr}
theorem x_init (T : XTxt prog K mg C fI) {x t0 : Addr} {v : Value} (X : K.In s.heap) (hg : s.heap.Ns mainGlobals mg) (hbl : ∃ mb, s.heap.Ns builtinsNs mb ∧ ∀ y : Str, y ≠ "__name__" → mb y = bootBuiltins y) (hlim : s.heap.NoLimit)
    (hx : s.heap.get? x = some (HandSPX.excO C t0)) (hnx : K.lookup x = none) (hroom : A.depth < recursionLimit) (hq : ∀ h' tk dx, XEnd s.heap h' x C dx v → R (.ok (.ret .none)) { s with heap := h', toks := tk }) :
    codeAny (model prog w) A (.call (.ref fI) ⟨[.ref x, v], []⟩) R s := by
  obtain ⟨qual, msg, oc, od, doc, pm, kV, an, cc, cda, ct, osl, p1, p2, a1, a2, a3, a4, a5, a6, q1, q2, q3, q4, j, ccl, cl, cdd, cld, vs, ccs, csl, file, tf, ho, hcd, hcode, hvs, hfile, hline, hcell⟩ := T.fn
  obtain ⟨nm, q, N, bs, bm, sn, sub, ab, col, dd, k0, k1, k2, k3, k5, hC, hbm⟩ := T.cls
  have hcl : clsIn K C = some { name := nm, bases := bs, mro := .ref C :: bm, ns := N, qualname := q, hasDict := true, slotNames := sn, subclasses := sub, abstract := ab, collection := col, hasDel := false } := by unfold clsIn; rw [hC] <;> rfl
  obtain ⟨hp, g, d, tk, os⟩ := s
  refine ks_codeAny_call_defAt (fd := ksFn "__init__" qual (xA p1 p2) (xB msg a1 a2 a3 a4 a5 a6 q1 q2 q3 q4 j) xS .none kV doc pm an (.ref cda) ct cc) (body := xB msg a1 a2 a3 a4 a5 a6 q1 q2 q3 q4 j) (binds := [(Str.ofString "self", .ref x), ((Str.ofString "number"), v)]) hroom (X _ _ ho) rfl hlim (codeRec_of X hcd) rfl (BindsTo.of_eq rfl) xcel ?_ (fun h₁ hns k => ?_) rfl rfl rfl
  · intro y hy
    rcases List.mem_cons.mp hy with rfl | hy
    · exact rfl
    · rcases List.mem_cons.mp hy with rfl | hy
      · exact rfl
      · cases hy
  have X₁ : K.In h₁ := X.keeps k
  have hx₁ : h₁.get? x = some (HandSPX.excO C t0) := k _ _ hx
  have I₁ : InstAt h₁ x (HandSPX.excO C t0) C none := ⟨hx₁, rfl, rfl, trivial⟩
  have vself : (fun y : Str => List.lookup y (List.reverse [((Str.ofString "self"), Value.ref x), ((Str.ofString "number"), v)])) (Str.ofString "self") = some (.ref x) := by
    have e : ((Str.ofString "self") == (Str.ofString "number")) = false := by decide +kernel
    simp [List.lookup, e]
  have vfld : (fun y : Str => List.lookup y (List.reverse [((Str.ofString "self"), Value.ref x), ((Str.ofString "number"), v)])) (Str.ofString "number") = some v := by
    simp [List.lookup]
  obtain ⟨mb, hb1, hb2⟩ := hbl
  -- super().__init__(text)
  refine ks_wpAt_execs_cons (ks_wpAt_Expr_any (ks_wpAt_MethodCall ?_ (x_tree msg a1 a2 a3 a4 a5 j _ hline)) rfl rfl)
  refine ks_wpAt_super_base (f := fI) (fd := ksFn "__init__" qual (xA p1 p2) (xB msg a1 a2 a3 a4 a5 a6 q1 q2 q3 q4 j) xS .none kV doc pm an (.ref cda) ct cc) (ar := { arg := "self", annotation := none, pos := p1 }) rfl rfl rfl rfl (X₁ _ _ ho) rfl rfl rfl (X₁ _ _ hcode) rfl hvs hfile T.top ?_
  refine ks_loadName_global rfl rfl (loadGlobal_builtin (hg.keeps k) T.zs (hb1.keeps k) ((hb2 _ (by decide +kernel)).trans (by decide +kernel)) ⟨rfl, ?_⟩)
  refine wpAny_loadName_free rfl rfl rfl ⟨_, X₁ _ _ hcell, rfl⟩ ?_
  refine wpAny_loadName_local rfl rfl hns vself ?_
  obtain ⟨oD, hD1, hD2⟩ : ∃ oD, h₁.get? C = some oD ∧ oD.data = .cls { name := nm, bases := bs, mro := .ref C :: bm, ns := N, qualname := q, hasDict := true, slotNames := sn, subclasses := sub, abstract := ab, collection := col, hasDel := false } := ⟨_, X₁ _ _ hC, rfl⟩
  refine ks_wpAny_isType_cls hD1 hD2 ⟨rfl, ?_⟩
  refine ks_wpAny_call_super hD1 hD2 hx₁ rfl (fun c e => by cases e) (looks_mroIn X₁ T.mr) (fun h₂ e₂ k₂ => ?_)
  have X₂ : K.In h₂ := X₁.keeps k₂
  have hx₂ : h₂.get? x = some (HandSPX.excO C t0) := k₂ _ _ hx₁
  have I₂ : InstAt h₂ x (HandSPX.excO C t0) C none := ⟨hx₂, rfl, rfl, trivial⟩
  have hsup := T.sup
  unfold ks_superIn at hsup
  rw [hcl] at hsup
  have hmro : Looks (model prog w) h₂ (mroOf (.ref C)) (.ref C :: bm) := (looks_clsIn X₂ hcl).andThen .now
  refine kxs_getMethod kxs_ValueError e₂ (looks_opaque X₂ T.tp) hmro rfl X₂ hsup (I₂.type.andThen (looks_subIn X₂ T.ve)) (ks_ne X₂ I₂ hcl) rfl ?_
  -- the wrapper called
  have hk₃ : ∀ b o, h₂.get? b = some o → (h₂.push (kxs_mw "ValueError.__init__" x)).get? b = some o := fun b o e => Heap.get?_push_of_some _ e
  have hu₃ : (h₂.push (kxs_mw "ValueError.__init__" x)).get? h₂.objs.size = some (kxs_mw "ValueError.__init__" x) := Heap.get?_push_at rfl rfl
  refine kxs_callWith (i := "ValueError.__init__") (x := x) rfl (evalArgs_plain (Calls.spliced_cons (Calls.Constant_str (pos := a4) (k := j) (Calls.spliced_nil ⟨hu₃, ?_⟩))))
  refine mw_call (X₂.keeps hk₃ _ _ hC) (hk₃ _ _ hx₂) hu₃ (one_sz _) (fun h₄ t1 k₄ hx₄ => ?_)
  have kall : ∀ b o, b ≠ x → hp.get? b = some o → h₄.get? b = some o := fun b o hb e => k₄ b o hb (hk₃ b o (k₂ b o (k b o e)))
  have xC : x ≠ C := ks_ne X₂ I₂ hcl
  have X₄ : K.In h₄ := fun b o e => kall b o (fun z => by rw [z, hnx] at e; cases e) (X b o e)
  have hL : hp.objs.size ≠ x := Nat.ne_of_gt (Heap.lt_size hx)
  have hns₄ : h₄.Ns hp.objs.size (fun y => List.lookup y (List.reverse [((Str.ofString "self"), Value.ref x), ((Str.ofString "number"), v)])) := by
    obtain ⟨oL, es, ep, hoL, r⟩ := hns
    exact ⟨oL, es, ep, k₄ _ _ hL (hk₃ _ _ (k₂ _ _ hoL)), r⟩
  -- self.field = field
  refine wpAt_of_wpAny ?_
  refine wpAny_execs_cons (plainObj_wpAny_Assign_Attribute ?_)
  refine wpAny_Name (wpAny_loadName_local rfl rfl hns₄ vfld (wpAny_Name (wpAny_loadName_local rfl rfl hns₄ vself ?_) (by decide))) (by decide)
  refine set_plain X₄ (ox := HandSPX.excO C t1) (od := none) ⟨hx₄, rfl, rfl, trivial⟩ T.sa ?_
  refine exc_osa X₄ hx₄ hcl (show refsVE (.ref C :: bm) = true from hbm) rfl T.noN (fun h₅ tk₅ dx k₅ dn dne hx₅ hn₅ => ?_)
  refine wpAny_execs_nil (hq h₅ tk₅ dx ⟨fun b o hb e => k₅ b o hb (kall b o hb e), ⟨t1, hx₅⟩, ?_, dne, hn₅⟩)
  have z1 : hp.objs.size < h₄.objs.size := hns₄.lt
  exact Nat.le_of_lt (Nat.lt_of_lt_of_le z1 dn)
/-- a made error -/
structure XMade (h h' : Heap) (e C d : Addr) (v : Value) : Prop where
  keep : ∀ b o, h.get? b = some o → h'.get? b = some o
  new : h.objs.size ≤ e
  obj : ∃ oe vs, h'.get? e = some oe ∧ oe.cls = .ref C ∧ oe.dict = some d ∧ oe.data = .fields vs ∧ vs[1]? = some .none ∧ vs[2]? = some .none
  dbig : h.objs.size ≤ d
  dne : d ≠ e
  ns : h'.Ns1 d (fun y => if y = (Str.ofString "number") then some v else none)
theorem x_made (T : XTxt prog K mg C fI) {v : Value} (X : K.In s.heap) (hg : s.heap.Ns mainGlobals mg) (hbl : ∃ mb, s.heap.Ns builtinsNs mb ∧ ∀ y : Str, y ≠ "__name__" → mb y = bootBuiltins y) (hlim : s.heap.NoLimit) (hroom : A.depth + 1 < recursionLimit)
    (hq : ∀ h' tk e d, XMade s.heap h' e C d v → R (.ok (.ret (.ref e))) { s with heap := h', toks := tk }) : codeAny (model prog w) A (.call (.ref C) ⟨[v], []⟩) R s := by
  obtain ⟨nm, q, N, bs, bm, sn, sub, ab, col, dd, k0, k1, k2, k3, k5, hC, hbm⟩ := T.cls
  obtain ⟨hp, g, dr, tk, os⟩ := s
  have k : ∀ b o, hp.get? b = some o → ((hp.push (kdv_tup [v])).push (HandSPX.excO C hp.objs.size)).get? b = some o := fun b o e => Heap.get?_push_of_some _ (Heap.get?_push_of_some _ e)
  have hget : ((hp.push (kdv_tup [v])).push (HandSPX.excO C hp.objs.size)).get? (hp.objs.size + 1) = some (HandSPX.excO C hp.objs.size) := by heap_get
  have hnx : K.lookup (hp.objs.size + 1) = none := by
    cases e : K.lookup (hp.objs.size + 1) with
    | none => rfl
    | some o => exact absurd (Nat.lt_of_succ_lt (Heap.lt_size (X _ _ e))) (Nat.lt_irrefl _)
  refine call_own F.excBase_ValueError (fun Y => refsVE_contains Y bm hbm) (X _ _ hC) (looks_findIn X T.iC) (fun self => bind_fn X self T.tC) (one_sz v) ?_
  obtain ⟨mb, hb1, hb2⟩ := hbl
  refine x_init (s := ⟨(hp.push (kdv_tup [v])).push (HandSPX.excO C hp.objs.size), g, dr, tk, os⟩) T (X.keeps k) (hg.keeps k) ⟨mb, hb1.keeps k, hb2⟩ (hlim.keeps k) hget hnx ?_ fun h' tk' dx ⟨k', ⟨t1, hx⟩, dn, dne, hns⟩ => ?_
  · show A.depth + 1 < recursionLimit
    exact hroom
  · have old : ∀ b o, hp.get? b = some o → h'.get? b = some o := fun b o e => k' b o (Nat.ne_of_lt (Nat.lt_succ_of_lt (Heap.lt_size e))) (k b o e)
    have z : hp.objs.size + 1 + 1 ≤ dx := by
      first
        | (simpa only [Heap.size_push] using dn)
        | exact dn
        | (have q := dn; rw [Heap.size_push, Heap.size_push] at q; exact q)
    exact ⟨rfl, hq h' tk' (hp.objs.size + 1) dx ⟨old, Nat.le_succ _, ⟨_, _, hx, rfl, rfl, rfl, rfl, rfl⟩, Nat.le_trans (Nat.le_trans (Nat.le_succ _) (Nat.le_succ _)) z, dne, hns⟩⟩
end
end FoX_number
namespace L2
open PySem PySem.Spec PyProof.Rows
theorem relO_number {v : V} {v' : Value} (r : RelV v v') (f : Str) : RelO (List.lookup f [((Str.ofString "number"), v)]) (if f = (Str.ofString "number") then some v' else none) := by
  by_cases hw : f = (Str.ofString "number")
  · subst hw
    rw [if_pos rfl]
    have q : List.lookup (Str.ofString "number") [((Str.ofString "number"), v)] = some v := by simp [List.lookup]
    rw [q]
    exact r
  · rw [if_neg hw]
    have qw : (f == (Str.ofString "number")) = false := by simpa using hw
    have q2 : List.lookup f [((Str.ofString "number"), v)] = none := by simp [List.lookup, qw]
    rw [q2]
    trivial
section
variable {X : Cx} {C fI : Addr} {nm : Str}
/-- Name(e) -/
def tMkX_number (C : Addr) (ta : TA) : St → Hp → XK → Prop := fun σ H Q => ta σ H fun vs H1 => ∃ v, vs = [v] ∧ ∀ d, H1 d = none → Q (.ref C) (some d) (upd H1 d (.xd [((Str.ofString "number"), v)]))
theorem pmkN_number {a : Expr} {ta : TA} {p pos : Pos} {k : Nat} (T : FoX_number.XTxt X.prog X.K X.mg C fI) (gC : X.mg nm = some (.ref C)) (hr : Room k X.A) (ha : PA X [a] ta) (hg : Gl X nm) (hdb : (nm == ("__debug__" : Str)) = false)
    (he : starEach (a :: []) X.env = (false, eval a X.env) :: starEach [] X.env := by rfl) (hpl : (backTo pos (starEach [] X.env)).any (·.1) = false := by rfl) :
    L2N.PMk X (.Call (.Name nm p) [a] [] pos) (tMkX_number C ta) := by
  intro pins s σ H Q I h
  refine wpAny_Call_Name_kw (ld_glob I hg gC ?_ hdb)
  refine PySem.W.callWith_K (h₀ := X.base) I.ok.mod.kin T.kC (thn (ha.run pos pins s σ H _ I h) fun us s1 hh => ?_) he hpl
  obtain ⟨vs, H1, I1, r1, v, ev, q1⟩ := hh
  subst ev
  refine ⟨I1.kIn, ?_⟩
  cases r1 with
  | cons rv rn =>
    rename_i v' us'
    cases rn
    show wpAny _ _ (call (.ref C) [v']) _ _ _
    have hlim := I1.nolimit
    have hgl : s1.heap.Ns mainGlobals X.mg := I1.mod.glob.keeps I1.bk
    obtain ⟨mb, hb1, hb2⟩ := I1.mod.blt
    have hbl : ∃ mb, s1.heap.Ns builtinsNs mb ∧ ∀ y : Str, y ≠ "__name__" → mb y = bootBuiltins y := ⟨mb, hb1.keeps I1.bk, hb2⟩
    obtain ⟨hp, g, dr, tk, os⟩ := s1
    refine wpAny_call (FoX_number.x_made T I1.kIn hgl hbl hlim (by have := hr.dp; omega) fun h' tk' e d M => ?_)
    show L2N.MkP X pins σ Q (.ref e) ⟨h', g, dr, tk', os⟩
    obtain ⟨oe, fv, hoe, hc, hd, hdat, h1, h2⟩ := M.obj
    have hns := M.ns
    obtain ⟨G', g1, g2⟩ := restrict h' fun b => decide (b ≠ e)
    have gk : ∀ b, b ≠ e → G'.get? b = h'.get? b := fun b hb => g1 b (decide_eq_true hb)
    have ge : G'.get? e = none := g2 e (by simp)
    have old : ∀ b o, hp.get? b = some o → G'.get? b = some o := fun b o q => (gk b (Nat.ne_of_lt (Nat.lt_of_lt_of_le (Heap.lt_size q) M.new))).trans (M.keep b o q)
    have ob : ObjOk X.prog X.w (upd H1 d (.xd [((Str.ofString "number"), v)])) G' d (.xd [((Str.ofString "number"), v)]) :=
      ⟨_, hns.at (fun o q => (gk d M.dne).trans q), fun f => relO_number rv f⟩
    have J : Inv X pins σ (upd H1 d (.xd [((Str.ofString "number"), v)])) ⟨G', g, dr, tk', os⟩ := I1.laid (t' := tk') old M.dbig ob
    refine ⟨e, oe, fv, ⟨G', g, dr, tk', os⟩, _, .ref C, some d, rfl, J, fun b o q => ?_, ge, hoe, ⟨hc, hd, fun vs e => by rw [hdat] at e; cases e; exact h2⟩, hdat, h1, ?_, rfl, I1.bare, raises_own T.exC T.tyC, q1 d (I1.hok.fresh M.dbig)⟩
    · by_cases hb : b = e
      · have q' : G'.get? b = some o := q
        rw [hb, ge] at q'; cases q'
      · exact (gk b hb).symm.trans q
    · rw [upd_ne (Ne.symm M.dne)]
      exact I1.hok.fresh M.new
theorem pmk_number {a : Expr} {ta : TA} {p pos : Pos} {k : Nat} (T : FoX_number.XTxt X.prog X.K X.mg C fI) (gC : X.mg nm = some (.ref C)) (hr : Room k X.A) (ha : PA X [a] ta) (hg : Gl X nm) (hdb : (nm == ("__debug__" : Str)) = false)
    (he : starEach (a :: []) X.env = (false, eval a X.env) :: starEach [] X.env := by rfl) (hpl : (backTo pos (starEach [] X.env)).any (·.1) = false := by rfl) :
    PMk X (.Call (.Name nm p) [a] [] pos) (tMkX_number C ta) := by
  intro pins s σ H Q I h
  refine wpAny_mono (pmkN_number T gC hr ha hg hdb he hpl pins s σ H Q I h) (fun u s' z => ?_) fun _ _ x => x
  obtain ⟨e, oe, vs, sI, H', cls, d, r1, r2, r3, r4, r5, r6, r7⟩ := z
  exact ⟨e, oe, vs, sI, H', cls, d, r1, r2, r3, r4, r5, r6.zc, r7⟩
/-- raise Name(e) -/
def tRaiseX_number (C : Addr) (W : WX) (ta : TA) : TS := fun _ σ H => tMkX_number C ta σ H fun cls d H' => W cls d σ H'
theorem ps_raise_number {a : Expr} {ta : TA} {W : WX} {p pos pos2 : Pos} {k : Nat} (hc : X.calm = true) (T : FoX_number.XTxt X.prog X.K X.mg C fI) (gC : X.mg nm = some (.ref C)) (hr : Room k X.A) (tk : Takes X W) (ha : PA X [a] ta) (hg : Gl X nm := by rfl) (hdb : (nm == ("__debug__" : Str)) = false := by decide)
    (he : starEach (a :: []) X.env = (false, eval a X.env) :: starEach [] X.env := by rfl) (hpl : (backTo pos (starEach [] X.env)).any (·.1) = false := by rfl) :
    PS X (.Raise (some (.Call (.Name nm p) [a] [] pos)) none pos2) (tRaiseX_number C W ta) := ps_raise hc tk (pmk_number T gC hr ha hg hdb he hpl)
theorem ps_raiseN_number {a : Expr} {ta : TA} {W : WX} {p pos pos2 : Pos} {k : Nat} (hc : X.calm = true) (T : FoX_number.XTxt X.prog X.K X.mg C fI) (gC : X.mg nm = some (.ref C)) (hr : Room k X.A) (tk : L2N.Takes X W) (ha : PA X [a] ta) (hg : Gl X nm := by rfl) (hdb : (nm == ("__debug__" : Str)) = false := by decide)
    (he : starEach (a :: []) X.env = (false, eval a X.env) :: starEach [] X.env := by rfl) (hpl : (backTo pos (starEach [] X.env)).any (·.1) = false := by rfl) :
    PS X (.Raise (some (.Call (.Name nm p) [a] [] pos)) none pos2) (tRaiseX_number C W ta) := L2N.ps_raise hc tk (pmkN_number T gC hr ha hg hdb he hpl)
/-- e.field, e the error that the suite holds (at a; its class cls, its dict d) -/
def tByX_number (C : Addr) (a : Addr) (cls : Value) (d : Option Addr) (te : TE) : TE := fun σ H Q => te σ H fun x H1 => x = .ref a ∧ cls = .ref C ∧ ∃ (dd : Addr) (v : V), d = some dd ∧ H1 dd = some (.xd [((Str.ofString "number"), v)]) ∧ Q v H1
theorem pe_by_number {a : Addr} {oe : Obj} {cls : Value} {d : Option Addr} {pn : List (Addr × Obj)} {e : Expr} {te : TE} {pos : Pos} (T : FoX_number.XTxt X.prog X.K X.mg C fI) (hz : Zc cls d oe) (hf : ∃ vs, oe.data = .fields vs) (he : PE (X.suite a ((a, oe) :: pn)) e te)
    (hb : attributeBase e (Str.ofString "number") X.env (eval e X.env) = eval e X.env := by rfl) :
    PE (X.suite a ((a, oe) :: pn)) (.Attribute e (Str.ofString "number") pos) (tByX_number C a cls d te) := by
  refine ⟨fun pins s σ H Q I h => ?_⟩
  refine attr_of hb (thn (he.run pins s σ H _ I h) fun u s1 hh => ?_)
  obtain ⟨x, H1, I1, rx, ex, ec, dd, v, ed, ea, q⟩ := hh
  subst ex
  obtain rfl : u = Value.ref a := rx
  subst ec
  subst ed
  obtain ⟨ha, _⟩ := I1.pin (a, oe) (List.mem_append_left _ List.mem_cons_self)
  obtain ⟨vs, hd⟩ := hf
  have hx : ObjOk X.prog X.w H1 s1.heap dd (.xd [((Str.ofString "number"), v)]) := I1.hok dd _ ea
  obtain ⟨mA, hns, hr⟩ := hx
  obtain ⟨od, ho, hl⟩ := lookIn_ns hns
  have l : List.lookup (Str.ofString "number") [((Str.ofString "number"), v)] = some v := by simp [List.lookup]
  obtain ⟨u, hu, ru⟩ := RelO.some_of (v := v) (o := mA (Str.ofString "number")) (by rw [← l]; exact hr (Str.ofString "number"))
  have J : PySem.W.InstAt s1.heap a oe C (some od) := ⟨ha, hz.1, by unfold PySem.W.notCls; rw [hd] <;> rfl, by rw [hz.2]; exact ho⟩
  exact HandSPX.exc_get I1.kIn J T.ga T.gg T.exC (PySem.W.findObj_own T.hdC T.noN rfl (by rw [hl, hu])) (handed_of ru) ⟨v, H1, I1.tok _, ru, q⟩
end
end L2
set_option Elab.async false
set_option linter.all false
set_option maxRecDepth 100000
set_option maxHeartbeats 2000000
/-! x in o by an own __contains__; == both ways of own objects, of pairs of them, such a pair in a list -/
namespace L2
open PySem PySem.Spec PyProof.Rows
structure OwnIn (K : PySem.W.Frag) (C f : Addr) : Prop where
  at_ : PySem.W.findIn K (.ref C) "__contains__" = some (some (.ref f))
  fn : PySem.W.isFn K (.ref f) = true
def rOwnIn (C : Addr) (sp : Sp) (E : XK) (neg : Bool) : R2 := fun x y H Q => ∃ a dx fs, y = .ref a ∧ H a = some (.ins C dx fs) ∧
  sp [y, x] H (fun v H' => ∃ k, v = .bl k ∧ Q (.bl (if neg then !k else k)) H') E
section
variable {X : Cx} {CX : CXT} {k : Nat} {f C : Addr} {fd : FuncData} {ps : List Str} {sp : Sp} {E : XK}
theorem op_ownIn (O : OwnIn X.K C f) (F : FnOk X.prog X.w X.K X.mg X.base CX k f fd ps sp) (hr : Room k X.A) (hb : Binds X.K fd ps []) (hx : Passes CX X E) : OpR X (compareOp .In) (rOwnIn C sp E false) := by
  intro pins s σ H x y v u Q I rx ry h
  obtain ⟨a, dx, fs, rfl, ha, q⟩ := h
  obtain rfl : u = Value.ref a := ry
  obtain ⟨mA, J, _⟩ := ins_get I.hok ha
  obtain ⟨od, J, _⟩ := J.look
  obtain ⟨m, hF⟩ := I.fr
  refine PySem.W.in_K hF I.ok.mod.kin J O.at_ O.fn ?_
  refine wpAny_mono (run_fn (us := [.ref a, v]) (vs := [.ref a, x]) F hr hb .nil hx I (.cons rfl (.cons rx .nil)) q) (fun r s' z => ?_) fun _ _ z => z
  obtain ⟨z1, H1, I1, rz, kk, rfl, qz⟩ := z
  cases rz
  exact wpAny_truthy_bool ⟨.bl kk, H1, I1, rfl, qz⟩
theorem op_ownNotIn (O : OwnIn X.K C f) (F : FnOk X.prog X.w X.K X.mg X.base CX k f fd ps sp) (hr : Room k X.A) (hb : Binds X.K fd ps []) (hx : Passes CX X E) : OpR X (compareOp .NotIn) (rOwnIn C sp E true) := by
  intro pins s σ H x y v u Q I rx ry h
  obtain ⟨a, dx, fs, rfl, ha, q⟩ := h
  obtain rfl : u = Value.ref a := ry
  obtain ⟨mA, J, _⟩ := ins_get I.hok ha
  obtain ⟨od, J, _⟩ := J.look
  obtain ⟨m, hF⟩ := I.fr
  refine PySem.W.notIn_K hF I.ok.mod.kin J O.at_ O.fn ?_
  refine wpAny_mono (run_fn (us := [.ref a, v]) (vs := [.ref a, x]) F hr hb .nil hx I (.cons rfl (.cons rx .nil)) q) (fun r s' z => ?_) fun _ _ z => z
  obtain ⟨z1, H1, I1, rz, kk, rfl, qz⟩ := z
  cases rz
  exact wpAny_truthy_bool ⟨.bl (!kk), H1, I1, rfl, qz⟩
end
abbrev EqvB := V → V → Bool → Hp → Prop
def MonB (D : EqvB) : Prop := ∀ x y b H H', Ext H H' → D x y b H → D x y b H'
/-- == of two values inside a builtin -/
def EqB (X : Cx) (n : Nat) (D : EqvB) : Prop :=
  ∀ (A : Around) (pins : List (Addr × Obj)) (s : Shared) (σ : St) (H : Hp) (x y : V) (u v : Value) (b : Bool), Sub X n A → Inv X pins σ H s → RelV x u → RelV y v → D x y b H →
    wpAny (model X.prog X.w) A (eqBool u v) (fun r s' => r = b ∧ ∃ H', Inv X pins σ H' s' ∧ Ext H H') X.xe s
/-- two instances of the class at C, by the own == -/
def DOwn (C : Addr) (sp : Sp) (E : XK) : EqvB := fun x y b H => ∃ a c dx dy fs gs, x = .ref a ∧ y = .ref c ∧ H a = some (.ins C dx fs) ∧ H c = some (.ins C dy gs) ∧ (a = c → b = true) ∧
  sp [x, y] H (fun v H' => v = .bl b ∧ Ext H H') E
/-- two pairs -/
def DPair (K : PySem.W.Frag) (D : EqvB) : EqvB := fun x y b H => ∃ p q x1 x2 y1 y2 b1 b2, x = .ref p ∧ y = .ref q ∧ SqT K H p [x1, x2] ∧ SqT K H q [y1, y2] ∧ (p = q → b = true) ∧ D x1 y1 b1 H ∧ D x2 y2 b2 H ∧ b = (b1 && b2)
section
variable {X : Cx} {n : Nat} {D : EqvB}
theorem eqB_own {CX : CXT} {f C : Addr} {fd : FuncData} {ps : List Str} {sp : Sp} {E : XK} (F : FnOk X.prog X.w X.K X.mg X.base CX n f fd ps sp) (hs : PySem.W.findIn X.K (.ref C) "__eq__" = some (some (.ref f))) (hf : PySem.W.isFn X.K (.ref f) = true)
    (hb : Binds X.K fd ps []) (hx : Passes CX X E) : EqB X n (DOwn C sp E) := by
  intro A pins s σ H x y u v b sb I rx ry d
  obtain ⟨a, c, dx, dy, fs, gs, rfl, rfl, ha, hc, hac, hsp⟩ := d
  cases rx
  cases ry
  by_cases hq : a = c
  · rw [hac hq]
    subst hq
    exact SeqAt.EqAt.same (A := A) (s := s) (.ref a) X.prog X.w X.xe _ ⟨rfl, H, I, Ext.rfl'⟩
  refine GQ.eqBool_refG hq ?_
  obtain ⟨mA, J, _⟩ := ins_get I.hok ha
  obtain ⟨mB, J', _⟩ := ins_get I.hok hc
  obtain ⟨od, J, _⟩ := J.look
  obtain ⟨od', J', _⟩ := J'.look
  obtain ⟨m, hF⟩ := I.fr
  refine PySem.W.cmp_K (op := .Eq) (tb := .ref C) sb.room.units0 hF I.ok.mod.kin J J'.type (by simp [PySem.W.notFirst]) hs hf ?_
  have e0 : Env0 X.prog X.w X.K X.mg X.base A X.stack s H := by
    obtain ⟨g1, g2, g3, g4, g5, g6, g7, g8⟩ := I.env0
    exact ⟨by rw [sb.fr]; exact g1, g2, g3, g4, g5, g6, g7, g8⟩
  have hl := F.len _ _ _ _ hsp
  have bnd := hb s [.ref a, .ref c] I.kIn (by simpa using hl)
  refine wpAny_call (codeAny_mono (F.run A X.stack s H ⟨[.ref a, .ref c], []⟩ [.ref a, .ref c] [.ref a, .ref c] _ E sb.room e0 (by simpa using bnd) (.cons rfl (.cons rfl .nil)) hsp) fun r s' hr => ?_)
  cases r with
  | error e => exact hx pins σ H s e s' I hr
  | ok fl =>
    cases fl with
    | ret w =>
      obtain ⟨z, H', I', rz, ez, ex⟩ := I.after hr
      subst ez
      cases rz
      exact ⟨b, rfl, rfl, H', I', ex⟩
    | next => exact hr.elim
    | brk => exact hr.elim
    | cont => exact hr.elim
end
end L2
namespace L2
open PySem PySem.Spec PyProof.Rows
/-- a == l, a an instance of the class at C with its own ==, l a list -/
def rOwnEqL (C : Addr) (sp : Sp) (E : XK) : R2 := fun x y H Q => ∃ a dx fs b xs, x = .ref a ∧ H a = some (.ins C dx fs) ∧ y = .ref b ∧ H b = some (.lst xs) ∧ sp [x, y] H Q E
theorem op_ownEqL {X : Cx} {CX : CXT} {k : Nat} {f C : Addr} {fd : FuncData} {ps : List Str} {sp : Sp} {E : XK} (hs : PySem.W.findIn X.K (.ref C) "__eq__" = some (some (.ref f))) (hf : PySem.W.isFn X.K (.ref f) = true) (nl : PySem.W.notFirst X.K C (.type "list") = true)
    (F : FnOk X.prog X.w X.K X.mg X.base CX k f fd ps sp) (hr : Room k X.A) (hb : Binds X.K fd ps []) (hx : Passes CX X E) : OpR X (compareOp .Eq) (rOwnEqL C sp E) := by
  intro pins s σ H x y v u Q I rx ry h
  obtain ⟨a, dx, fs, b, xs, rfl, ha, rfl, hl, q⟩ := h
  obtain rfl : v = Value.ref a := rx
  obtain rfl : u = Value.ref b := ry
  obtain ⟨mA, J, _⟩ := ins_get I.hok ha
  obtain ⟨od, J, _⟩ := J.look
  obtain ⟨m, hF⟩ := I.fr
  obtain ⟨_, _, _, _, e⟩ := (show ObjOk X.prog X.w H s.heap b (.lst xs) from I.hok b _ hl)
  have lk : PySem.W.Looks (model X.prog X.w) s.heap (typeOf (.ref b)) (.type "list") := fun A Q E s' k q => wpAny_typeOf ⟨_, k _ _ e, rfl⟩ q
  refine PySem.W.cmp_K (op := .Eq) (tb := .type "list") hr.units0 hF I.ok.mod.kin J lk nl hs hf ?_
  refine wpAny_mono (run_fn (us := [.ref a, .ref b]) (vs := [.ref a, .ref b]) F hr hb .nil hx I (.cons rfl (.cons rfl .nil)) q) (fun r s' z => ?_) fun _ _ z => z
  obtain ⟨z1, H1, I1, rz, qz⟩ := z
  exact cmpBack_of (not_ni rz) ⟨z1, H1, I1, rz, qz⟩
end L2
set_option Elab.async false
set_option linter.all false
set_option maxRecDepth 100000
set_option maxHeartbeats 2000000
namespace FoT
open PySem PySem.Spec PyProof.Rows MeetsSeq MeetsSeq2 MeetsSeq3 SeqRoads2 GQ
open AutoSeq1 (wpAny_loadPart')
section
variable {prog : Program} {w : World} {A : Around} {R : Result → Shared → Prop}
theorem tuple_eq2 (l b : Addr) (a1 a2 b1 b2 : Value) (n n2 : Nat) (dd dd2 : Option Addr) (sl sl2 : Array (Option Value)) {s : Shared}
    (hl1 : s.heap.get? l = some { cls := .type "tuple", dict := dd, data := .seq #[a1, a2] n, slots := sl }) (hb1 : s.heap.get? b = some { cls := .type "tuple", dict := dd2, data := .seq #[b1, b2] n2, slots := sl2 })
    (h : wpAny (model prog w) A.in1 (eqBool a1 b1) (fun r s' => if r = true then wpAny (model prog w) A.in1 (eqBool a2 b2) (fun r2 s2 => R (.ok (.ret (.bool r2))) s2) (fun e s' => R (.error e) s') s' else R (.ok (.ret (.bool false))) s') (fun e s' => R (.error e) s') s) :
    wpAny (model prog w) A.in1 (Builtin.«tuple.__eq__» ⟨[.ref l, .ref b], []⟩) (FinOf prog w A R) (fun e s' => R (.error e) s') s := by
  have f2 := AutoSeq1.sub_tuple_tuple
  have h0 := h
  obtain ⟨hp, g, d, tk, os⟩ := s
  wp_walk using wpAny_loadPart' hl1, wpAny_loadPart' hb1, wpAny_forIn_list _ (fun rest st s' => st.1 = none ∧ ((rest = [(a1, b1), (a2, b2)] ∧ wpAny (model prog w) A.in1 (eqBool a1 b1) (fun r s' => if r = true then wpAny (model prog w) A.in1 (eqBool a2 b2) (fun r2 s2 => R (.ok (.ret (.bool r2))) s2) (fun e s' => R (.error e) s') s' else R (.ok (.ret (.bool false))) s') (fun e s' => R (.error e) s') s') ∨
    (rest = [(a2, b2)] ∧ wpAny (model prog w) A.in1 (eqBool a2 b2) (fun r2 s2 => R (.ok (.ret (.bool r2))) s2) (fun e s' => R (.error e) s') s') ∨ (rest = [] ∧ R (.ok (.ret (.bool true))) s'))) _
  case turn =>
    rintro ⟨y, x⟩ rest st s' ⟨hb', hz⟩
    rcases hz with ⟨hz, hq⟩ | ⟨hz, hq⟩ | ⟨hz, hq⟩
    · injection hz with h1 h2
      cases h1
      refine wpAny_bind (wpAny_mono hq (fun r s2 q2 => ?_) fun _ _ x => x)
      cases r with
      | true =>
        rw [if_pos rfl] at q2
        wp_walk
        exact ⟨rfl, .inr (.inl ⟨h2, q2⟩)⟩
      | false =>
        rw [if_neg (by decide)] at q2
        wp_walk
        exact q2
    · injection hz with h1 h2
      cases h1
      refine wpAny_bind (wpAny_mono hq (fun r s2 q2 => ?_) fun _ _ x => x)
      cases r with
      | true =>
        wp_walk
        exact ⟨rfl, .inr (.inr ⟨h2, q2⟩)⟩
      | false =>
        wp_walk
        exact q2
    · cases hz
  case fin =>
    rintro ⟨st1, st2⟩ s' ⟨hb', hz⟩
    simp only at hb'
    subst hb'
    rcases hz with ⟨hz, hq⟩ | ⟨hz, hq⟩ | ⟨hz, hq⟩
    · cases hz
    · cases hz
    · wp_walk
      simpa [Builtin.Tuple.tupleCompareSizes] using hq
  case h =>
    exact ⟨rfl, .inl ⟨rfl, h0⟩⟩
/-- the loop of x in l -/
theorem contains_loopG (l : Addr) (x : Value) (N : Nat) (B : Nat → Bool) (I : Nat → Shared → Prop)
    (hl : ∀ i s, I i s → ∃ (items : Array Value) (n : Nat), s.heap.get? l = some { cls := .type "list", data := .seq items n } ∧ items.size = N ∧
      ∀ h : i < items.size, wpAny (model prog w) A.in1 (eqBool items[i] x) (fun r s' => r = B i ∧ I (i + 1) s') (fun e s' => R (.error e) s') s)
    (finT : ∀ i s, i < N → B i = true → (∀ j, j < i → B j = false) → I (i + 1) s → R (.ok (.ret (.bool true))) s) (finF : ∀ s, (∀ j, j < N → B j = false) → I N s → R (.ok (.ret (.bool false))) s) (k : Nat) :
    ∀ i : Nat, N - i = k → i ≤ N → (∀ j, j < i → B j = false) → ∀ s, I i s →
      wpAny (model prog w) A.in1 (Builtin.«list.__contains__.loop» ⟨[.ref l, x, rawInt i], []⟩) (FinOf prog w A R) (fun e s' => R (.error e) s') s := by
  induction k with
  | zero =>
    intro i hk hi hB s h
    obtain ⟨items, n, hl1, hs1, _⟩ := hl _ _ h
    have hi' : i = N := by omega
    subst hi'
    have hR := finF s hB h
    obtain ⟨hp, g, d, tk, os⟩ := s
    wp_walk using wpAny_loadPart' hl1
    have hi1 : items[((i : Nat) : Int).toNat]? = none := by simp; omega
    rw [hi1]
    wp_walk
    exact hR
  | succ k ih =>
    intro i hk hi hB s h
    obtain ⟨items, n, hl1, hs1, turn⟩ := hl _ _ h
    have hlt : i < items.size := by omega
    have ht := turn hlt
    obtain ⟨hp, g, d, tk, os⟩ := s
    wp_walk using wpAny_loadPart' hl1
    have hi1 : items[((i : Nat) : Int).toNat]? = some items[i] := by simp [hlt]
    have hc : ((i : Int) + 1) = ((i + 1 : Nat) : Int) := by omega
    rw [hi1]
    refine wpAny_bind (wpAny_mono ht (fun r s2 h2 => ?_) fun _ _ x => x)
    obtain ⟨hr, h2⟩ := h2
    cases r with
    | true =>
      have q := finT i s2 (by omega) hr.symm hB h2
      obtain ⟨hp2, g2, d2, tk2, os2⟩ := s2
      wp_walk
      exact q
    | false =>
      have hB2 : ∀ j, j < i + 1 → B j = false := fun j hj => by
        by_cases hq : j = i
        · rw [hq]; exact hr.symm
        · exact hB j (by omega)
      have hrec := ih (i + 1) (by omega) (by omega) hB2 s2 h2
      obtain ⟨hp2, g2, d2, tk2, os2⟩ := s2
      wp_walk
      rw [hc]
      exact ⟨plainId_quiet plain_contains_loop _, codeAny_builtin entry_contains_loop (by
        rw [Around.under_plainId plain_contains_loop _]
        exact hrec)⟩
end
section
variable {prog : Program} {w : World} {A : Around} {E : Value → Shared → Prop} {s : Shared}
theorem in_listG {l : Addr} {x : Value} {N : Nat} {B : Nat → Bool} {Q : Value → Shared → Prop} (I : Nat → Shared → Prop)
    (hl : ∀ i s, I i s → ∃ (items : Array Value) (n : Nat), s.heap.get? l = some { cls := .type "list", data := .seq items n } ∧ items.size = N ∧
      ∀ h : i < items.size, wpAny (model prog w) A.in1 (eqBool items[i] x) (fun r s' => r = B i ∧ I (i + 1) s') E s)
    (finT : ∀ i s, i < N → B i = true → (∀ j, j < i → B j = false) → I (i + 1) s → Q (.bool true) s) (finF : ∀ s, (∀ j, j < N → B j = false) → I N s → Q (.bool false) s) (h : I 0 s) :
    wpAny (model prog w) A (compareOp .In x (.ref l)) Q E s := by
  obtain ⟨items, n, hl1, hs1, _⟩ := hl _ _ h
  show wpAny _ A (do return .bool (← contains (.ref l) x)) Q E s
  have loop := contains_loopG (A := A) (R := wants (fun v s' => wpAny (model prog w) A (truthy v) (fun b s2 => Q (.bool b) s2) E s') E) l x N B I hl (fun i s' h1 h2 h3 h4 => wpAny_truthy_bool (finT i s' h1 h2 h3 h4)) (fun s' h1 h2 => wpAny_truthy_bool (finF s' h1 h2)) _ 0 rfl (Nat.zero_le _) (fun j hj => absurd hj (Nat.not_lt_zero _)) s h
  refine wpAny_bind (wpAny_contains_slot ⟨_, hl1, rfl⟩ F.slot_list_contains (wpAny_mono (call_here F.slot_list_contains ⟨_, hl1, rfl⟩ F.entry_list_contains (F.args_list_contains_2 _ _) ?_) (fun v s' hv => wpAny_mono hv (fun b s2 z => wpAny_pure z) fun _ _ e => e) fun _ _ e => e))
  obtain ⟨hp, g, d, tk, os⟩ := s
  wp_walk using wpAny_loadPart' hl1
  exact ⟨plainId_quiet plain_contains_loop _, codeAny_builtin entry_contains_loop (by
    rw [Around.under_plainId plain_contains_loop _]
    exact loop)⟩
theorem rc_tup2 {l b : Addr} {a1 a2 b1 b2 : Value} {Q : Value → Shared → Prop} (hu : A.units < cLine) (hl : s.heap.IsTuple l #[a1, a2]) (hb : s.heap.IsTuple b #[b1, b2])
    (h : wpAny (model prog w) A.in1 (eqBool a1 b1) (fun r s' => if r = true then wpAny (model prog w) A.in1 (eqBool a2 b2) (fun r2 s2 => Q (.bool r2) s2) E s' else Q (.bool false) s') E s) : wpAny (model prog w) A (richCompare .Eq (.ref l) (.ref b)) Q E s := by
  obtain ⟨⟨cls, dd, data, sl⟩, ho, hc, n, hd⟩ := id hl
  obtain ⟨⟨cls2, dd2, data2, sl2⟩, ho2, hc2, n2, hd2⟩ := id hb
  simp only at hc hd hc2 hd2
  subst hc hd hc2 hd2
  refine wpAny_richCompare_same_room (op := .Eq) ⟨_, ho, rfl⟩ ⟨_, ho2, rfl⟩ F.slot_tuple_eq (call_here F.slot_tuple_eq ⟨_, ho, rfl⟩ F.entry_tuple_eq (F.args_tuple_eq_2 _ _) ?_) hu
  refine tuple_eq2 (R := wants (fun v s' => v ≠ .notImplemented ∧ Q v s') E) l b a1 a2 b1 b2 n n2 dd dd2 sl sl2 ho ho2 (wpAny_mono h (fun r s' z => ?_) fun _ _ e => e)
  cases r with
  | true =>
    rw [if_pos rfl] at z ⊢
    exact wpAny_mono z (fun _ _ z => ⟨(fun x => nomatch x), z⟩) fun _ _ e => e
  | false =>
    rw [if_neg (by decide)] at z ⊢
    exact ⟨(fun x => nomatch x), z⟩
end
end FoT
namespace L2
open PySem PySem.Spec PyProof.Rows
/-- x in l, l a list, each item against x by D -/
def rInG (D : EqvB) : R2 := fun x y H Q => ∃ (l : Addr) (xs : List V) (bs : List Bool), y = .ref l ∧ H l = some (.lst xs) ∧ xs.length = bs.length ∧ (∀ (i : Nat) z b, xs[i]? = some z → bs[i]? = some b → D z x b H) ∧ ∀ H', Ext H H' → Q (.bl (bs.any id)) H'
section
variable {X : Cx} {n : Nat} {D : EqvB}
theorem eqB_pair (hD : MonB D) (h : EqB X n D) : EqB X (n + 1) (DPair X.K D) := by
  intro A pins s σ H x y u v b sb I rx ry d
  obtain ⟨p, q, x1, x2, y1, y2, b1, b2, rfl, rfl, hp, hq, hpq, d1, d2, hb⟩ := d
  cases rx
  cases ry
  by_cases e : p = q
  · rw [hpq e]
    subst e
    exact SeqAt.EqAt.same (A := A) (s := s) (.ref p) X.prog X.w X.xe _ ⟨rfl, H, I, Ext.rfl'⟩
  obtain ⟨its, r, e1, _⟩ := I.tuple hp
  obtain ⟨its2, r2, e2, _⟩ := I.tuple hq
  cases r with
  | cons ru1 r => cases r with
    | cons ru2 r =>
      cases r
      cases r2 with
      | cons rv1 r2 => cases r2 with
        | cons rv2 r2 =>
          cases r2
          refine GQ.eqBool_refG e (FoT.rc_tup2 sb.room.units0 e1 e2 ?_)
          refine wpAny_mono (h A.in1 pins s σ H x1 y1 _ _ b1 sb.in1 I ru1 rv1 d1) (fun t s1 z => ?_) fun _ _ x => x
          obtain ⟨rfl, H1, I1, g1⟩ := z
          cases t with
          | false =>
            rw [if_neg (by decide)]
            exact ⟨false, rfl, by rw [hb]; rfl, H1, I1, g1⟩
          | true =>
            rw [if_pos rfl]
            refine wpAny_mono (h A.in1 pins s1 σ H1 x2 y2 _ _ b2 sb.in1 I1 ru2 rv2 (hD _ _ _ _ _ g1 d2)) (fun t s2 z => ?_) fun _ _ x => x
            obtain ⟨rfl, H2, I2, g2⟩ := z
            exact ⟨t, rfl, by rw [hb]; rfl, H2, I2, g1.trans g2⟩
theorem monB_pair {K : PySem.W.Frag} (hD : MonB D) : MonB (DPair K D) := fun x y b H H' e d => by
  obtain ⟨p, q, x1, x2, y1, y2, b1, b2, h1, h2, hp, hq, hpq, d1, d2, hb⟩ := d
  exact ⟨p, q, x1, x2, y1, y2, b1, b2, h1, h2, hp.ext e, hq.ext e, hpq, hD _ _ _ _ _ e d1, hD _ _ _ _ _ e d2, hb⟩
theorem op_inG (hD : MonB D) (h : EqB X n D) (hr : Room (n + 1) X.A) : OpR X (compareOp .In) (rInG D) := by
  intro pins s σ H x y v u Q I rx ry hq
  obtain ⟨l, xs, bs, rfl, hl, hlen, hd, q⟩ := hq
  obtain rfl : u = Value.ref l := ry
  have sb : Sub X (n + 1) X.A := ⟨hr, rfl⟩
  refine FoT.in_listG (N := xs.length) (B := fun i => (bs[i]?).getD false) (fun _ s' => LoopI X pins σ H s') (fun i s' z => ?_) (fun i s' hi hB hn z => ?_) (fun s' hn z => ?_) ⟨H, I, Ext.rfl'⟩
  · obtain ⟨H1, I1, e1⟩ := id z
    obtain ⟨zz, its, k, r, e⟩ := I1.hok l _ (e1 _ _ hl)
    refine ⟨its.toArray, k, e, by rw [List.size_toArray, ← r.length], fun hlt => ?_⟩
    have h1' : i < its.length := by simpa using hlt
    have k1 : i < xs.length := by rw [r.length]; exact h1'
    have k2 : i < bs.length := by omega
    obtain ⟨w, hw, rw'⟩ := r.get (List.getElem?_eq_getElem k1)
    have g1 : its[i]? = some its.toArray[i] := by
      rw [List.getElem?_eq_getElem h1']
      simp
    rw [g1] at hw
    rw [Option.some.inj hw]
    have eb : (bs[i]?).getD false = bs[i] := by rw [List.getElem?_eq_getElem k2]; rfl
    refine wpAny_mono (h X.A.in1 pins s' σ H1 _ _ w v bs[i] sb.in1 I1 rw' rx (hD _ _ _ _ _ e1 (hd i _ _ (List.getElem?_eq_getElem k1) (List.getElem?_eq_getElem k2)))) (fun t s2 q2 => ?_) fun _ _ x => x
    obtain ⟨rfl, H2, I2, e2⟩ := q2
    exact ⟨eb.symm, H2, I2, e1.trans e2⟩
  · obtain ⟨H1, I1, e1⟩ := z
    have : bs.any id = true := by
      rw [List.any_eq_true]
      have k2 : i < bs.length := by omega
      have eb : (bs[i]?).getD false = bs[i] := by rw [List.getElem?_eq_getElem k2]; rfl
      exact ⟨bs[i], List.getElem_mem k2, by rw [← eb]; exact hB⟩
    refine ⟨.bl true, H1, I1, rfl, ?_⟩
    have q1 := q H1 e1
    rw [this] at q1
    exact q1
  · obtain ⟨H1, I1, e1⟩ := z
    have : bs.any id = false := by
      rw [List.any_eq_false]
      intro b hb
      obtain ⟨i, hi, rfl⟩ := List.getElem_of_mem hb
      have eb : (bs[i]?).getD false = bs[i] := by rw [List.getElem?_eq_getElem hi]; rfl
      have hz : (bs[i]?).getD false = false := hn i (by omega)
      rw [eb] at hz
      simp [hz]
    refine ⟨.bl false, H1, I1, rfl, ?_⟩
    have q1 := q H1 e1
    rw [this] at q1
    exact q1
end
end L2
set_option Elab.async false
set_option linter.all false
set_option maxRecDepth 100000
set_option maxHeartbeats 2000000
namespace Fo
open PySem PySem.Spec PyProof.Rows L2
abbrev TK := List L2.Key
/-! ### dicts with tuples for keys: d[k] = v in a comprehension -/
theorem dT_set {X : Cx} {pins : List (Addr × Obj)} {σ : L2.St} {H : Hp} {s : Shared} {E : Value → Shared → Prop} {D b : Addr} {kvs : List (TK × V)} {k : TK} {v : V} {r : Value} {Q : Unit → Shared → Prop} (hu : X.A.units < cLine) (I : Inv X pins σ H s)
    (e : H D = some (.dT kvs)) (l : kvs.length < sizeLine) (eb : H b = some (.tup (k.map kV))) (rv : RelV v r) (h : ∀ s', Inv X pins σ (upd H D (.dT (putK kvs k v))) s' → Q () s') :
    wpAny (model X.prog X.w) X.A (dictSet D (.ref b) r) Q E s := by
  obtain ⟨z, nd, xs, kt, dd⟩ := dt_of I.hok e
  have z1 : xs.length ≤ sizeLine := by rw [← Paired.length kt]; exact z
  have z2 : (putK kvs k v).length ≤ sizeLine := by have := length_putK kvs k v; omega
  refine wpAny_dictSet_heap (knd := tupleKind (mixKind X.prog X.w)) (hsz := z1) hu (key_of I.hok eb) dd fun h' dn sb => h _ ?_
  obtain ⟨q, es, ep, q1, q2, q3, q4, _, q5⟩ := dn
  refine d_write I (by rw [e]; exact True.intro) sb ⟨q, q1⟩ ⟨z2, nd, _, (kt.put k eb rv).keeps fun c ys ec => ?_, q, es, ep, q1, q2, q3, q4, q5⟩
  rw [upd_ne (ne_of ec e (fun z => nomatch z))]; exact ec
/-! ### == of two such dicts whose values are all True -/
section
variable {prog : Program} {w : World} {K : Type} [DecidableEq K] {knd : HeapKind prog w K} {A : Around} {E : Value → Shared → Prop} {s : Shared}
abbrev allIn (ys xs : List (K × Addr × Value)) : Bool := xs.all fun x => (atKey ys x.1).isSome
theorem true_eqAt {A : Around} {s : Shared} : SeqAt.EqAt A s (.bool true) (.bool true) true := SeqAt.EqAt.same _
theorem same_pairsH {nm : String} {a b : Addr} {xs ys : List (K × Addr × Value)} {Q : Bool → Shared → Prop} (hu : knd.room A) (na : (a == sysModules) = false) (nb : (b == sysModules) = false)
    (da : s.heap.DictOfH knd a xs) (db : s.heap.DictOfH knd b ys) (tx : ∀ x ∈ xs, x.2.2 = .bool true) (ty : ∀ y ∈ ys, y.2.2 = .bool true) (h : Q (xs.length == ys.length && allIn ys xs) s) :
    wpAny (model prog w) A (Builtin.Dict.samePairs nm a b) Q E s := by
  obtain ⟨oa, es, ep, ga, _, pa, ea, ia, ka⟩ := da
  obtain ⟨ob, et, eq, gb, _, pb, eb, ib, kb⟩ := db
  have la : es.size = xs.length := size_of_entries ea
  have lb : et.size = ys.length := size_of_entries eb
  unfold Builtin.Dict.samePairs Builtin.Dict.showsAll
  rw [if_neg (show ¬ (a == sysModules) = true by rw [na]; decide), if_neg (show ¬ (b == sysModules) = true by rw [nb]; decide)]
  refine wpAny_bind (wpAny_pure (wpAny_bind (wpAny_pure (wpAny_bind (wpAny_dictEntries ga pa ?_)))))
  dsimp only
  refine wpAny_bind (wpAny_dictEntries gb pb ?_)
  by_cases sz : es.size = et.size
  case neg =>
    have f : (xs.length == ys.length) = false := by rw [← la, ← lb]; simpa using sz
    rw [f, Bool.false_and] at h
    rw [if_pos (by simpa using sz)]
    exact wpAny_bind (wpAny_rule (wpAny_pure h))
  case pos =>
    have f : (xs.length == ys.length) = true := by rw [← la, ← lb]; simpa using sz
    rw [f, Bool.true_and] at h
    rw [if_neg (by rw [sz]; simp)]
    refine wpAny_bind (wpAny_dictEpoch ga pa (wpAny_bind ?_))
    rw [Std.Legacy.Range.forIn_eq_forIn_range']
    simp only [Std.Legacy.Range.size, Nat.sub_zero, Nat.add_sub_cancel, Nat.div_one]
    refine wpAny_forIn_list _ (fun rest q s' => s' = s ∧ q = (none, ()) ∧ ∃ i, rest = List.range' i (es.size - i) ∧ i ≤ es.size ∧ allIn ys (xs.drop i) = allIn ys xs) _ ?_ ?_ _ _ ⟨rfl, rfl, 0, by simp, Nat.zero_le _, rfl⟩
    · rintro n rest q s' ⟨rfl, rfl, i, hr, hi, inv⟩
      have lt : i < es.size := by
        rcases Nat.lt_or_ge i es.size with h | h
        · exact h
        · rw [Nat.sub_eq_zero_of_le h] at hr; simp at hr
      obtain ⟨rfl, hrest⟩ : n = i ∧ rest = List.range' (i + 1) (es.size - (i + 1)) := by
        rw [show es.size - i = (es.size - (i + 1)) + 1 by omega, List.range'_succ] at hr
        injection hr with h1 h2
        exact ⟨h1, h2⟩
      refine wpAny_bind (wpAny_dictEntries ga pa ?_)
      have lx : n < xs.length := by rw [← la]; exact lt
      have gx : es[n]? = some (entryOfKey knd xs[n]) := by rw [entry_at ea n, List.getElem?_eq_getElem lx]; rfl
      have mx : xs[n] ∈ xs := List.getElem_mem lx
      rw [gx]
      rw [List.drop_eq_getElem_cons lx] at inv
      show wpAny _ _ (holding [Value.ref xs[n].2.1, xs[n].2.2] _ >>= _) _ _ _
      refine wpAny_bind (wpAny_holding (wpAny_bind (wpAny_dictFind_heap (k := xs[n].1) hu (ia _ mx) gb pb eb ib kb (fun no => ?_) fun j p hj => ?_)))
      · have nn : atKey ys xs[n].1 = none := atKey_none_of_get no
        have iv : allIn ys xs = false := by rw [← inv]; show ((atKey ys xs[n].1).isSome && _) = false; rw [nn]; rfl
        rw [iv] at h
        refine wpAny_pure ?_
        show wpAny _ _ (if (!false) = true then _ else _) _ _ _
        rw [if_pos (by decide)]
        exact wpAny_pure (wpAny_pure h)
      · have nn : atKey ys xs[n].1 = some p := atKey_of_get kb hj
        have iv : allIn ys xs = allIn ys (xs.drop (n + 1)) := by rw [← inv]; show ((atKey ys xs[n].1).isSome && _) = _; rw [nn]; rfl
        refine wpAny_bind (wpAny_dictEntries gb pb ?_)
        rw [entry_at eb j, hj]
        have v1 : xs[n].2.2 = .bool true := tx _ mx
        have v2 : p.2 = .bool true := ty _ (List.mem_of_getElem? hj)
        refine wpAny_holding ?_
        show wpAny _ _ (eqBool xs[n].2.2 p.2) _ _ _
        rw [v1, v2]
        refine true_eqAt prog w _ _ ?_
        show wpAny _ _ (if (!true) = true then _ else _) _ _ _
        rw [if_neg (by decide)]
        refine wpAny_bind (wpAny_dictEpoch ga pa ?_)
        rw [if_neg (by simp)]
        exact wpAny_pure ⟨rfl, rfl, n + 1, hrest, lt, iv.symm⟩
    · rintro q s' ⟨rfl, rfl, i, hr, hi, inv⟩
      have e : i = es.size := by
        rcases Nat.lt_or_ge i es.size with h | h
        · rw [show es.size - i = (es.size - (i + 1)) + 1 by omega, List.range'_succ] at hr; exact nomatch hr
        · exact Nat.le_antisymm hi h
      rw [e, la, List.drop_length] at inv
      rw [← inv] at h
      exact wpAny_pure h
theorem dictsH_eq {a b : Addr} {xs ys : List (K × Addr × Value)} {Q : Value → Shared → Prop} (hu : knd.room A.in1) (hv : A.units < cLine) (na : (a == sysModules) = false) (nb : (b == sysModules) = false)
    (da : s.heap.DictOfH knd a xs) (db : s.heap.DictOfH knd b ys) (tx : ∀ x ∈ xs, x.2.2 = .bool true) (ty : ∀ y ∈ ys, y.2.2 = .bool true) (h : Q (.bool (xs.length == ys.length && allIn ys xs)) s) :
    wpAny (model prog w) A (compareOp .Eq (.ref a) (.ref b)) Q E s := by
  refine wpAny_richCompare_same_room (op := .Eq) da.typeIs db.typeIs PySem.F.slot_dict_eq (wpAny_call_entry PySem.F.slot_dict_eq da.typeIs PySem.F.entry_dict_eq ?_ (PySem.F.args_dict_eq_2 _ _)) hv
  show wpAny _ _ (Builtin.Dict.dictSlotArgs "__eq__" (⟨[.ref a, .ref b], []⟩ : Args) >>= _) _ _ s
  unfold Builtin.Dict.dictSlotArgs
  refine wpAny_bind (wpAny_bind (wpAny_notOrdered_dict da.typeIs ?_))
  show wpAny _ _ (pure ((Value.ref a, Value.ref b) : Value × Value)) _ _ s
  refine wpAny_pure (wpAny_bind (wpAny_isInstance (T := "dict") db.typeIs PySem.F.sub_dict_dict ?_))
  simp only [Bool.not_true, Bool.false_eq_true, if_false]
  refine wpAny_bind (wpAny_pure (wpAny_bind (wpAny_pure (wpAny_bind (same_pairsH hu na nb da db tx ty (wpAny_pure ⟨_, rfl, ?_, ?_⟩))))))
  · exact fun x => nomatch x
  · simpa using h
theorem dictsH_ne {a b : Addr} {xs ys : List (K × Addr × Value)} {Q : Value → Shared → Prop} (hu : knd.room A.in1) (hv : A.units < cLine) (na : (a == sysModules) = false) (nb : (b == sysModules) = false)
    (da : s.heap.DictOfH knd a xs) (db : s.heap.DictOfH knd b ys) (tx : ∀ x ∈ xs, x.2.2 = .bool true) (ty : ∀ y ∈ ys, y.2.2 = .bool true) (h : Q (.bool (!(xs.length == ys.length && allIn ys xs))) s) :
    wpAny (model prog w) A (compareOp .NotEq (.ref a) (.ref b)) Q E s := by
  refine wpAny_richCompare_same_room (op := .NotEq) da.typeIs db.typeIs PySem.F.slot_dict_ne (wpAny_call_entry PySem.F.slot_dict_ne da.typeIs PySem.F.entry_dict_ne ?_ (PySem.F.args_dict_ne_2 _ _)) hv
  show wpAny _ _ (Builtin.Dict.dictSlotArgs "__ne__" (⟨[.ref a, .ref b], []⟩ : Args) >>= _) _ _ s
  unfold Builtin.Dict.dictSlotArgs
  refine wpAny_bind (wpAny_bind (wpAny_notOrdered_dict da.typeIs ?_))
  show wpAny _ _ (pure ((Value.ref a, Value.ref b) : Value × Value)) _ _ s
  refine wpAny_pure (wpAny_bind (wpAny_isInstance (T := "dict") db.typeIs PySem.F.sub_dict_dict ?_))
  simp only [Bool.not_true, Bool.false_eq_true, if_false]
  refine wpAny_bind (wpAny_pure (wpAny_bind (wpAny_pure (wpAny_bind (same_pairsH hu na nb da db tx ty (wpAny_pure ⟨_, rfl, ?_, ?_⟩))))))
  · exact fun x => nomatch x
  · simpa using h
end
/-- every key True -/
abbrev trueD (ks : List TK) : List (TK × V) := ks.map fun k => (k, V.bl true)
theorem kt_keys {H : Hp} : ∀ {ks : List TK} {xs : List (TK × Addr × Value)}, KT H (trueD ks) xs → xs.map (·.1) = ks ∧ ∀ x ∈ xs, x.2.2 = Value.bool true
  | [], _, h => by
    cases h
    exact ⟨rfl, fun x hx => by cases hx⟩
  | k :: ks, _, h => by
    cases h with
    | cons h t =>
      obtain ⟨h1, _, h3⟩ := h
      obtain ⟨i1, i2⟩ := kt_keys (ks := ks) t
      refine ⟨by rw [List.map_cons, i1, ← h1], fun x hx => ?_⟩
      rcases List.mem_cons.mp hx with rfl | hx
      · exact h3
      · exact i2 x hx
theorem atKey_keys {K : Type} [DecidableEq K] {k : K} : ∀ {ys : List (K × Addr × Value)}, (atKey ys k).isSome = (ys.map (·.1)).any fun l => decide (l = k)
  | [] => rfl
  | y :: ys => by
    by_cases h : y.1 = k
    · have e : atKey (y :: ys) k = some y.2 := by unfold atKey; rw [List.find?_cons, decide_eq_true h]; rfl
      rw [e, List.map_cons, List.any_cons, decide_eq_true h]
      rfl
    · have e : atKey (y :: ys) k = atKey ys k := by unfold atKey; rw [List.find?_cons, decide_eq_false h]
      rw [e, List.map_cons, List.any_cons, decide_eq_false h, atKey_keys (ys := ys), Bool.false_or]
section
variable {X : Cx}
def hasK (ls : List TK) (k : TK) : Bool := ls.any fun l => decide (l = k)
theorem hasK_iff {ls : List TK} {k : TK} : hasK ls k = true ↔ k ∈ ls := by
  unfold hasK
  rw [List.any_eq_true]
  exact ⟨fun ⟨x, h1, h2⟩ => of_decide_eq_true h2 ▸ h1, fun h => ⟨k, h, decide_eq_true rfl⟩⟩
def eqSets (ks ls : List TK) : Bool := ks.length == ls.length && ks.all (hasK ls)
def rEqT : R2 := fun x y H Q => ∃ (a b : Addr) (ks ls : List TK), x = .ref a ∧ y = .ref b ∧ H a = some (.dT (trueD ks)) ∧ H b = some (.dT (trueD ls)) ∧ Q (.bl (eqSets ks ls)) H
def rNeT : R2 := fun x y H Q => ∃ (a b : Addr) (ks ls : List TK), x = .ref a ∧ y = .ref b ∧ H a = some (.dT (trueD ks)) ∧ H b = some (.dT (trueD ls)) ∧ Q (.bl (!eqSets ks ls)) H
theorem eqSets_of {H : Hp} {ks ls : List TK} {xs ys : List (TK × Addr × Value)} (hx : KT H (trueD ks) xs) (hy : KT H (trueD ls) ys) : (xs.length == ys.length && allIn ys xs) = eqSets ks ls := by
  obtain ⟨x1, _⟩ := kt_keys hx
  obtain ⟨y1, _⟩ := kt_keys hy
  unfold eqSets
  have e1 : xs.length = ks.length := by rw [← x1, List.length_map]
  have e2 : ys.length = ls.length := by rw [← y1, List.length_map]
  rw [e1, e2, ← x1, List.all_map]
  congr 1
  show xs.all _ = xs.all _
  congr 1
  funext x
  show _ = hasK ls x.1
  rw [atKey_keys, y1]
  rfl
theorem op_eqT (hu : X.A.units + 1 < cLine) : OpR X (compareOp .Eq) rEqT := by
  intro pins s σ H x y v u Q I rx ry h
  obtain ⟨a, b, ks, ls, rfl, rfl, ha, hb, q⟩ := h
  cases rx; cases ry
  obtain ⟨_, na, xs, kx, dx⟩ := dt_of I.hok ha
  obtain ⟨_, nb, ys, ky, dy⟩ := dt_of I.hok hb
  exact dictsH_eq (tupleKind_room_in1 hu) (by omega) na nb dx dy (kt_keys kx).2 (kt_keys ky).2 (fin_bl I q (by rw [eqSets_of kx ky]))
theorem op_neT (hu : X.A.units + 1 < cLine) : OpR X (compareOp .NotEq) rNeT := by
  intro pins s σ H x y v u Q I rx ry h
  obtain ⟨a, b, ks, ls, rfl, rfl, ha, hb, q⟩ := h
  cases rx; cases ry
  obtain ⟨_, na, xs, kx, dx⟩ := dt_of I.hok ha
  obtain ⟨_, nb, ys, ky, dy⟩ := dt_of I.hok hb
  exact dictsH_ne (tupleKind_room_in1 hu) (by omega) na nb dx dy (kt_keys kx).2 (kt_keys ky).2 (fin_bl I q (by rw [eqSets_of kx ky]))
end
/-! ### *d of such a dict -/
section
variable {prog : Program} {w : World} {A : Around} {E : Value → Shared → Prop} {s : Shared} {T : String} {r d : Addr} {n : Nat} {P : Nat → Value → Prop} {OK : Heap → Prop}
theorem iadd_src {R : Result → Shared → Prop} (S : PySem.W.KdlSrc prog w T r d n P OK) (hh : A.handled = none) (hok : OK s.heap) (hn : n ≤ sizeLine) {L : Addr} (nr : L ≠ r) (nd : L ≠ d) (hS : s.heap.get? L = some { cls := .type "list", data := .seq #[] })
    (hR : ∀ h' tk acc' c', (∀ b o, b ≠ L → s.heap.get? b = some o → h'.get? b = some o) → h'.get? L = some { cls := .type "list", dict := none, data := .seq acc' c', slots := #[] } → ItemsOf P acc' n → R (.ok (.ret (.ref L))) { s with heap := h', toks := tk }) :
    codeAny (model prog w) A (.builtin "list.__iadd__" ⟨[.ref L, .ref r], []⟩) R s := by
  refine codeAny_builtin F.entry_list_iadd ?_
  rw [Around.under_plainId (F.plain_list_iadd) _]
  exact PySem.W.kdl_extend S hh hok L nr nd (.ref L) 0 hS hR hn
theorem collect_src {Q : List Value → Shared → Prop} (S : PySem.W.KdlSrc prog w T r d n P OK) (hh : A.handled = none) (hok : OK s.heap) (hn : n ≤ sizeLine)
    (hQ : ∀ h' tk acc, (∀ b o, s.heap.get? b = some o → h'.get? b = some o) → ItemsOf P acc n → Q acc.toList { s with heap := h', toks := tk }) : wpAny (model prog w) A (collect (.ref r)) Q E s := by
  unfold collect; refine wpAny_bind (wpAny_runValue (codeAny_builtin F.entry_proto_collect ?_)); rw [Around.under_plainId F.plain_proto_collect _]
  show wpAny _ A.in1 (newList [] >>= fun l => again (.builtin "list.__iadd__" (⟨[l, .ref r], []⟩ : Args))) _ _ s
  have lt := S.there _ hok
  refine wpAny_bind (wpAny_newObj_type (wpAny_pure ⟨plainId_quiet F.plain_list_iadd _, iadd_src S hh (S.keep _ _ hok fun b _ o e => Heap.get?_push_of_some _ e) hn (Nat.ne_of_gt lt.1) (Nat.ne_of_gt lt.2) (Heap.get?_push_size _ rfl) fun h' tk acc' c' hk hS' hacc => ?_⟩))
  exact wpAny_bind (wpAny_load hS' (wpAny_pure (hQ h' tk acc' (fun b o e => hk b o (Nat.ne_of_lt (Heap.lt_size e)) (Heap.get?_push_of_some _ e)) hacc)))
end
/-- [*d, ..] -/
def tStarD (te : TE) (t : TA) : TA := fun σ H Q => te σ H fun x H1 => ∃ (d : Addr) (kvs : List (TK × V)), x = V.ref d ∧ Rd H1 d (.dT kvs) ∧ ∀ bs, IsKeys H1 kvs bs → t σ H1 fun ys H2 => Q (bs.map V.ref ++ ys) H2
section
variable {X : Cx}
theorem star_dT {pins : List (Addr × Obj)} {σ : L2.St} {H : Hp} {s : Shared} {d : Addr} {kvs : List (TK × V)} {E : Value → Shared → Prop} {Q : List Value → Shared → Prop} (hc : X.calm = true) (I : Inv X pins σ H s) (hd : Rd H d (.dT kvs))
    (hQ : ∀ bs us s', Inv X pins σ H s' → IsKeys H kvs bs → Vals (bs.map V.ref) us → Q us s') : PySem.W.StarOf (model X.prog X.w) X.A E (.ref d) Q s := by
  obtain ⟨z, hs, ks, pr, o, es, ep, ho, hx, hdt, he, hn⟩ := (show ObjOk X.prog X.w H s.heap d (.dT kvs) from hd.ok I.hok)
  have l1 : es.size = ks.length := size_of_entries he
  have l2 : kvs.length = ks.length := Paired.length pr
  have hT : s.TypeIs (.ref d) "dict" := ⟨o, ho, hx.1⟩
  have col : wpAny (model X.prog X.w) X.A (collect (.ref d)) Q E s := by
    refine collect_src (kdl_raw hs hx hdt) (I.ok.hd hc) ho (by omega) fun h' tk acc kp it => ?_
    have ea : acc.toList = (ks.map fun x => x.2.1).map Value.ref := by
      apply List.ext_getElem?
      intro j
      rw [List.getElem?_map, List.getElem?_map]
      have hl : acc.toList.length = ks.length := by rw [Array.length_toList, it.1]; exact l1
      cases hj : acc.toList[j]? with
      | none =>
        have := List.getElem?_eq_none_iff.mp hj
        rw [List.getElem?_eq_none (by omega)]
        rfl
      | some v =>
        obtain ⟨en, hen, hv⟩ := it.2 j v (by rw [← Array.getElem?_toList]; exact hj)
        have qe := entry_at he j
        rw [hen] at qe
        cases hb : ks[j]? with
        | none => rw [hb] at qe; exact nomatch qe
        | some b =>
          rw [hb] at qe
          have e2 : en = entryOfKey (tupleKind (mixKind X.prog X.w)) b := Option.some.inj qe
          rw [hv, e2]
          rfl
    exact hQ _ _ _ (I.kept (t' := tk) kp) (isKeys_of pr) (by rw [ea]; exact vals_refs _)
  unfold PySem.W.StarOf notIterableAtAll
  exact wpAny_bind (wpAny_specialOf hT PySem.F.slot_dict_iter.lookup (wpAny_pure ⟨rfl, col⟩))
theorem pa_starD {e : Expr} {p : Pos} {es : List Expr} {te : TE} {t : TA} (hc : X.calm = true) (he : PE X e te) (hr : PA X es t) (hs : starEach (.Starred e p :: es) X.env = (true, eval e X.env) :: starEach es X.env := by rfl) : PA X (.Starred e p :: es) (tStarD te t) := by
  refine ⟨fun pos pins s σ H Q I h => PySem.W.items_star (thn (he.run pins s σ H _ I h) fun v s1 hx => ?_) hs⟩
  obtain ⟨y, H1, I1, ry, d, kvs, rfl, hd, q⟩ := hx
  cases ry
  refine star_dT hc I1 hd fun bs us s2 I2 ik rv => ?_
  exact thn (hr.run pos pins s2 σ H1 _ I2 (q bs ik)) fun ws s3 ⟨vs, H3, I3, r3, q3⟩ => ⟨bs.map V.ref ++ vs, H3, I3, rv.append r3, q3⟩
end
end Fo
set_option Elab.async false
set_option linter.all false
set_option maxRecDepth 100000
set_option maxHeartbeats 2000000
namespace Fo
open PySem PySem.Spec PyProof.Rows L2
/-! ### a dict comprehension whose keys are tuples; T the new dict -/
def tDcT (wi : TI) (g : TG) (tt : TT) (tk tv : TE) (vs : List Nat) : TE := fun σ H Q => wi σ H fun J H1 => ∀ T, H1 T = none → ∃ W : Nat → Nat → Hp → Prop, (∃ m, W 0 m (upd H1 T (.dT []))) ∧ ∀ i m H2, W i m H2 →
  (J.stop i H2 ∧ Q (.ref T) H2) ∨ (J.go i H2 ∧ ∃ Nx : Hp → Prop, (∀ H', Nx H' → ∃ m', m' < m ∧ W (i + 1) m' H') ∧ ∀ x H', J.yld i H2 x H' → g x (wipe σ vs) H' fun σ2 H3 => wipe σ2 vs = wipe σ vs ∧ tt σ2 H3 fun b H4 =>
    if b = true then tk σ2 H4 fun y H5 => tv σ2 H5 fun z H6 => ∃ (kvs : List (TK × V)) (k : TK) (q : Addr), y = .ref q ∧ H6 q = some (.tup (k.map kV)) ∧ H6 T = some (.dT kvs) ∧ kvs.length < sizeLine ∧ Nx (upd H6 T (.dT (putK kvs k z))) else Nx H4)
section
variable {X : Cx}
abbrev Cx.inB (X : Cx) (s : Shared) (H : Hp) (scope : Scope) (C : Addr) (cl : List (Str × Addr)) (fp : List Addr) : Cx := X.blk s H scope (compEnvC scope cl C X.env) fp
theorem pe_dcT {kx vx tg iter : Expr} {ifs : List Expr} {scope : Scope} {own : List (Str × Nat)} {pos : Pos} {wi : TI} {g : TG} {tt : TT} {tk tv : TE} (hu : X.A.units < cLine) (hc : X.calm = true) (hN : X.N.Nodup) (hi : PI X tg iter wi) (ok : BlkOk X.N X.env.scope scope own)
    (hg : ∀ (s : Shared) (H : Hp) (C : Addr) (cl : List (Str × Addr)) (fp : List Addr), PG (Cx.inB X s H scope C cl fp) tg g) (ht : ∀ (s : Shared) (H : Hp) (C : Addr) (cl : List (Str × Addr)) (fp : List Addr), PTs (Cx.inB X s H scope C cl fp) ifs tt)
    (hk : ∀ (s : Shared) (H : Hp) (C : Addr) (cl : List (Str × Addr)) (fp : List Addr), PE (Cx.inB X s H scope C cl fp) kx tk) (he : ∀ (s : Shared) (H : Hp) (C : Addr) (cl : List (Str × Addr)) (fp : List Addr), PE (Cx.inB X s H scope C cl fp) vx tv)
    (hs : ∀ x, foldedSetIterable iter X.env x = pure x := by intro _; rfl) : PE X (.DictComp kx vx [⟨tg, iter, ifs, 0⟩] scope pos) (tDcT wi g tt tk tv (own.map (·.2))) := by
  refine ⟨fun pins s σ H Q I h => ?_⟩
  rw [arm_eval_DictComp]
  have fr : ∀ y ∈ scope.names, y.2 = .free → ∃ c, X.env.cells.lookup y.1 = some c := fun y hy e => (ok.free y hy e).elim (fun k => I.ok.has _ (.inl k)) fun k => I.ok.has _ (.inr k)
  refine wpAny_comprehension_free rfl hs (closure_ok fr) ok.kind (fun y hy e => by rw [ok.uniq y hy, e]) (thn (hi.run pins s σ H _ I h) fun xv s1 hx => thn hx fun itv s2 z2 => ?_)
  obtain ⟨it, fp, tn, J, H2, rfl, I2, T, st2, f2, q⟩ := z2
  refine wpAny_newObj_type (newEnv_comp ?_)
  generalize eD : s2.heap.objs.size = D
  have nD : H2 D = none := I2.hok.fresh (Nat.le_of_eq eD)
  obtain ⟨W, ⟨m0, w0⟩, turn⟩ := q D nD
  generalize e3 : ({ s2 with heap := s2.heap.push { cls := .type "dict", data := .dict #[] } } : Shared) = s3
  have I3 : Inv X pins σ (upd H2 D (.dT [])) s3 := by
    rw [← e3]
    refine I2.laid (t' := s2.toks) (fun b o e => Heap.get?_push_of_some _ e) (Nat.le_of_eq eD) (by rw [← eD]; exact dt_empty s2.heap I2.big)
  have up3 : ∀ b o, s2.heap.get? b = some o → s3.heap.get? b = some o := fun b o e => by rw [← e3]; exact Heap.get?_push_of_some _ e
  have ltF : ∀ b ∈ fp, b < s2.heap.objs.size := fun b hb => (T.obj _ _ st2 b hb).elim fun o e => Heap.lt_size e.1
  have f3 : ∀ b ∈ fp, FpOk X pins (upd H2 D (.dT [])) b ∧ b < s3.heap.objs.size := fun b hb => by
    obtain ⟨o, e, _⟩ := T.obj _ _ st2 b hb
    refine ⟨⟨?_, (f2 b hb).2⟩, Heap.lt_size (up3 _ _ e)⟩
    rw [upd_ne (by rw [← eD]; exact Nat.ne_of_lt (ltF b hb))]
    exact (f2 b hb).1
  have st3 : tn 0 s3.heap := T.keep _ _ _ st2 fun b _ o e => up3 b o e
  have I4 := block_start I3 ok hN f3
  have cL : (compEnvC scope (cellsFrom (s3.heap.objs.size + 1) scope.names (cloFrom X.env.cells scope.names [])) s3.heap.objs.size X.env).locals = s3.heap.objs.size := rfl
  have pg := hg s3 (upd H2 D (.dT [])) s3.heap.objs.size (cellsFrom (s3.heap.objs.size + 1) scope.names (cloFrom X.env.cells scope.names [])) fp
  have pt := ht s3 (upd H2 D (.dT [])) s3.heap.objs.size (cellsFrom (s3.heap.objs.size + 1) scope.names (cloFrom X.env.cells scope.names [])) fp
  have pk := hk s3 (upd H2 D (.dT [])) s3.heap.objs.size (cellsFrom (s3.heap.objs.size + 1) scope.names (cloFrom X.env.cells scope.names [])) fp
  have pe := he s3 (upd H2 D (.dT [])) s3.heap.objs.size (cellsFrom (s3.heap.objs.size + 1) scope.names (cloFrom X.env.cells scope.names [])) fp
  unfold Cx.inB at pg pt pk pe
  have keepC : ∀ b o, s3.heap.get? b = some o → (pushCells (s3.heap.push { cls := .type "dict", data := .dict #[] }) scope.names).get? b = some o := fun b o e => pushCells_keeps _ _ _ _ (Heap.get?_push_of_some _ e)
  show codeAny _ _ (.compStart (.DictComp kx vx [⟨tg, iter, ifs, 0⟩] scope pos) 0 (.ref it) (.ref D) (compEnvC scope (cellsFrom (s3.heap.objs.size + 1) scope.names (cloFrom X.env.cells scope.names [])) s3.heap.objs.size X.env)) (compPost (model X.prog X.w) X.A X.xe none (EP X pins σ Q) (.ref D) s3.heap.objs.size) { s3 with heap := pushCells (s3.heap.push { cls := .type "dict", data := .dict #[] }) scope.names }
  generalize ece : compEnvC scope (cellsFrom (s3.heap.objs.size + 1) scope.names (cloFrom X.env.cells scope.names [])) s3.heap.objs.size X.env = ce at I4 pg pt pk pe cL ⊢
  generalize eH3 : upd H2 D (.dT []) = H3 at I3 I4 pg pt pk pe w0 f3
  generalize e4 : ({ s3 with heap := pushCells (s3.heap.push { cls := .type "dict", data := .dict #[] }) scope.names } : Shared) = s4 at I4 ⊢
  have st4 : tn 0 s4.heap := T.keep _ _ _ st3 fun b _ o e => by rw [← e4]; exact keepC b o e
  have fpB : ∀ {σ' : L2.St} {H' : Hp} {s' : Shared}, Inv (X.blk s3 H3 scope ce fp) [] σ' H' s' → (∀ b ∈ fp, H' b = none) → ∀ b ∈ fp, FpOk (X.blk s3 H3 scope ce fp) [] H' b := fun {σ' H' s'} B hn b hb =>
    ⟨hn b hb, (B.ok.exf b hb).1, B.ok.exfs b hb, .inl hb, (B.ok.exf b hb).2, fun p hp => by
      have : p ∈ ([] : List (Addr × Obj)) ++ [] := hp
      simp at this⟩
  have loop : codeAny (model X.prog X.w) X.A (.compLoop (.DictComp kx vx [⟨tg, iter, ifs, 0⟩] scope pos) 0 (.ref it) (.ref D) ce) (compPost (model X.prog X.w) X.A X.xe none (EP X pins σ Q) (.ref D) s3.heap.objs.size) s4 := by
    refine compLoop_anyD (fun n s' => ∃ i H', Inv (X.blk s3 H3 scope ce fp) [] (wipe σ (own.map (·.2))) H' s' ∧ tn i s'.heap ∧ (∀ b ∈ fp, H' b = none) ∧ W i n H') ?_ m0 ⟨0, H3, I4, st4, fun b hb => (f3 b hb).1.1, w0⟩
    rintro n s5 ⟨i, H5, I5, st5, n5, w5⟩
    rcases turn i n H5 w5 with ⟨stop, fin⟩ | ⟨go, Nx, nxt, step⟩
    · refine thnF (T.done (X.blk s3 H3 scope ce fp) rfl rfl rfl hc i [] s5 _ H5 (fun _ _ => False) I5 (fpB I5 n5) st5 stop) fun r s6 z6 => ?_
      obtain ⟨rfl, I6⟩ := z6
      have I7 : Inv X pins σ H5 s6 := I3.call' (ch := fp) I6.os I6.base I6.hok I6.bare fun b hb => ⟨(f3 b hb).1.2.2.2.1, (f3 b hb).1.2.1, (f3 b hb).1.2.2.2.2.1, (f3 b hb).1.2.2.2.2.2⟩
      have nC : H5 s3.heap.objs.size = none := by
        have z : H5 ce.locals = none := I6.free
        rwa [cL] at z
      obtain ⟨m, ns, _⟩ := I6.loc
      have ns : s6.heap.Ns ce.locals m := ns
      rw [cL] at ns
      obtain ⟨c0, c1, _, c3, c4, c5⟩ := I3.fpOk (Nat.le_refl _) nC
      exact ⟨m, ns, fun h'' sb => ⟨.ref D, H5, I7.turned (t' := s6.toks) (fun b o hb e => (sb.2 b hb).trans e) c0 c1 c3 c4 c5, rfl, fin⟩⟩
    · refine thnF (T.item (X.blk s3 H3 scope ce fp) rfl rfl rfl hc i [] s5 _ H5 (fun _ _ => False) I5 (fpB I5 n5) st5 go) fun r s6 z6 => ?_
      obtain ⟨u, rfl, h6⟩ := z6
      refine thnF h6 fun _ s7 z7 => ?_
      obtain ⟨x, H7, I7, r7, y7, st7, n7⟩ := z7
      have P7 := I7.pinned (fpB I7 n7) (T.obj _ _ st7)
      refine thnF (pg.run _ s7 _ H7 x u _ P7 r7 (step x H7 y7)) fun _ s8 z8 => ?_
      obtain ⟨σ8, H8, I8, w8, q8⟩ := z8
      refine thnF (pt.run _ s8 σ8 H8 _ I8 q8) fun b s9 z9 => ?_
      obtain ⟨H9, I9, q9⟩ := z9
      have over : ∀ {s' : Shared} {H' : Hp}, Inv (X.blk s3 H3 scope ce fp) ([] ++ pinsAt fp s7.heap) σ8 H' s' → Nx H' → ∃ m, m < n ∧ ∃ i H', Inv (X.blk s3 H3 scope ce fp) [] (wipe σ (own.map (·.2))) H' s' ∧ tn i s'.heap ∧ (∀ b ∈ fp, H' b = none) ∧ W i m H' := fun {s' H'} B nx => by
        obtain ⟨m', lt, w'⟩ := nxt H' nx
        have pin : ∀ b ∈ fp, ∀ o, s7.heap.get? b = some o → s'.heap.get? b = some o ∧ H' b = none := fun b hb o e => by
          have z := B.pin (b, o) (List.mem_append_right _ (List.mem_append_right _ (mem_pinsAt hb e)))
          exact ⟨z.1, z.2.1⟩
        refine ⟨m', lt, i + 1, H', (B.unpinned (pins := [])).weak (by rw [← w8, wipe_length]) (fun j v e => ?_), T.keep _ _ _ st7 fun b hb o e => (pin b hb o e).1, fun b hb => ?_, w'⟩
        · rw [← w8] at e
          exact (wipe_some e).1
        · exact (T.obj _ _ st7 b hb).elim fun o e => (pin b hb o e.1).2
      cases b with
      | false =>
        simp only [Bool.false_eq_true, if_false] at q9 ⊢
        exact over I9 q9
      | true =>
        simp only [if_true] at q9 ⊢
        refine thnF (pk.run _ s9 σ8 H9 _ I9 q9) fun kv s10 z10 => ?_
        obtain ⟨yk, H10, I10, r10, q10⟩ := z10
        refine thnF (pe.run _ s10 σ8 H10 _ I10 q10) fun vv s11 z11 => ?_
        obtain ⟨yv, H11, I11, r11, kvs, k, kq, rfl, hq, hT, hz, nx⟩ := z11
        cases r10
        exact dT_set (X := X.blk s3 H3 scope ce fp) hu I11 hT hz hq r11 fun s12 I12 => over I12 nx
  exact codeAny_compStart_dict loop (T.self X.A 0 _ _ _ st4 loop)
end
end Fo
set_option Elab.async false
set_option linter.all false
set_option maxRecDepth 100000
set_option maxHeartbeats 2000000
/-! what the top has written, by bundles -/
namespace Fo
open PySem L2
/-- a def of the module -/
structure Mo (K : PySem.W.Frag) (mg : Str → Option Value) (x : Str) (st : Stmt) (ps : List Str) : Type where
  f : Addr
  fd : FuncData
  F : Fun K x x st f fd
  b : Binds K fd ps []
  m : mg x = some (.ref f)
/-- a class -/
structure Cl (K : PySem.W.Frag) (mg : Str → Option Value) (x : Str) : Type where
  C : Addr
  cl : Cls K C
  m : mg x = some (.ref C)
  mks : PySem.W.makesIn K C = true
  kp : PySem.W.keepIn K (.ref C) = true
  ha : PySem.W.findIn K (.ref C) "__class__" = some (some (.builtin "object.__class__"))
  hm : PySem.W.mroIn K C (.type "object") = some true
  kk : PySem.W.kitOne K (.ref C) (.ref C) = some true
  sf : PySem.W.selfFirst K C = true
/-- a def in a class -/
structure Me (K : PySem.W.Frag) (C : Addr) (x qual : Str) (st : Stmt) (ps : List Str) : Type where
  f : Addr
  fd : FuncData
  F : Fun K x qual st f fd
  b : Binds K fd ps []
  me : Meth K C x f
theorem mkOf {K : PySem.W.Frag} {mg : Str → Option Value} {x qual : Str} {st : Stmt} {ps : List Str} (c : Cl K mg x) (i : Me K c.C "__init__" qual st ps) : Mk K c.C i.f := ⟨c.mks, i.me.at_, i.me.fn, c.kp⟩
theorem opOf {K : PySem.W.Frag} {mg : Str → Option Value} {x nm qual : Str} {st : Stmt} {ps : List Str} {op : Operator} (c : Cl K mg x) (i : Me K c.C nm qual st ps) (h : PySem.dunder op.info.2 = nm) : OwnOp K c.C op i.f := ⟨c.sf, by rw [h]; exact i.me.at_, i.me.fn⟩
theorem inOf {K : PySem.W.Frag} {C : Addr} {qual : Str} {st : Stmt} {ps : List Str} (i : Me K C "__contains__" qual st ps) : OwnIn K C i.f := ⟨i.me.at_, i.me.fn⟩
theorem pe_fldK {X : Cx} {K : PySem.W.Frag} {e : Expr} {f : Str} {pos : Pos} {ta : TE} (hK : X.K = K) (he : PE X e ta) (hb : attributeBase e f X.env (eval e X.env) = eval e X.env) : PE X (.Attribute e f pos) (tFld K ta f) := by
  subst hK
  exact pe_fld he hb
theorem tup_and : fillsNumberSlot (.type "tuple") "and" = pure false := by
  unfold fillsNumberSlot
  simp only [typeLookup_type, builtinLookup_eq_fast]
  kernel_rfl
theorem tup_or : fillsNumberSlot (.type "tuple") "or" = pure false := by
  unfold fillsNumberSlot
  simp only [typeLookup_type, builtinLookup_eq_fast]
  kernel_rfl
end Fo
namespace L2
open PySem PySem.Spec PyProof.Rows
/-- a <= b by an own __le__ -/
structure OwnLe (K : PySem.W.Frag) (C f : Addr) : Prop where
  at_ : PySem.W.findIn K (.ref C) "__le__" = some (some (.ref f))
  fn : PySem.W.isFn K (.ref f) = true
def rOwnLe (C : Addr) (sp : Sp) (E : XK) : R2 := fun x y H Q => ∃ a dx fs, x = .ref a ∧ H a = some (.ins C dx fs) ∧ (∃ b dy gs, y = .ref b ∧ H b = some (.ins C dy gs)) ∧ sp [x, y] H Q E
section
variable {X : Cx} {CX : CXT} {k : Nat} {f C : Addr} {fd : FuncData} {ps : List Str} {sp : Sp} {E : XK}
theorem op_ownLe (O : OwnLe X.K C f) (F : FnOk X.prog X.w X.K X.mg X.base CX k f fd ps sp) (hr : Room k X.A) (hb : Binds X.K fd ps []) (hx : Passes CX X E) : OpR X (compareOp .LtE) (rOwnLe C sp E) := by
  intro pins s σ H x y v u Q I rx ry h
  obtain ⟨a, dx, fs, rfl, ha, ⟨b, dy, gs, rfl, hy⟩, q⟩ := h
  cases rx; cases ry
  obtain ⟨mA, J, _⟩ := ins_get I.hok ha
  obtain ⟨od, J, _⟩ := J.look
  obtain ⟨mB, J', _⟩ := ins_get I.hok hy
  obtain ⟨od', J', _⟩ := J'.look
  obtain ⟨m, hF⟩ := I.fr
  show wpAny (model X.prog X.w) X.A (richCompare .LtE (.ref a) (.ref b)) (EP X pins σ Q) X.xe s
  refine PySem.W.cmp_K (op := .LtE) (tb := .ref C) hr.units0 hF I.ok.mod.kin J J'.type (by simp [PySem.W.notFirst]) O.at_ O.fn ?_
  refine wpAny_mono (run_fn (us := [.ref a, .ref b]) (vs := [.ref a, .ref b]) F hr hb .nil hx I (.cons rfl (.cons rfl .nil)) q) (fun r s' z => ?_) fun _ _ z => z
  obtain ⟨z1, H1, I1, rz, qz⟩ := z
  exact cmpBack_of (not_ni rz) ⟨z1, H1, I1, rz, qz⟩
/-- len(o) by an own __len__ -/
structure OwnLen (K : PySem.W.Frag) (C f : Addr) : Prop where
  at_ : PySem.W.findIn K (.ref C) "__len__" = some (some (.ref f))
  fn : PySem.W.isFn K (.ref f) = true
def rLenOwn (C : Addr) (sp : Sp) (E : XK) : List V → Hp → VK → Prop := fun xs H Q => ∃ a dx fs, xs = [.ref a] ∧ H a = some (.ins C dx fs) ∧ sp [.ref a] H (fun v H' => ∃ n : Nat, v = .int (n : Int) ∧ n < 2 ^ 63 ∧ Q (.int (n : Int)) H') E
theorem call_lenOwn (O : OwnLen X.K C f) (F : FnOk X.prog X.w X.K X.mg X.base CX k f fd ps sp) (hr : Room (k + 1) X.A) (hb : Binds X.K fd ps []) (hx : Passes CX X E) : CallR X (.builtin "len") (rLenOwn C sp E) := by
  intro pins s σ H xs us Q I r h
  obtain ⟨a, dx, fs, rfl, ha, q⟩ := h
  obtain ⟨u, rfl, rx⟩ := r.one
  cases rx
  obtain ⟨mA, J, _⟩ := ins_get I.hok ha
  obtain ⟨od, J, _⟩ := J.look
  obtain ⟨m, hF⟩ := I.fr
  refine PySem.W.len_K hF I.ok.mod.kin J O.at_ O.fn ?_
  have hl := F.len _ _ _ _ q
  have r1 : Vals [V.ref a] [Value.ref a] := .cons rfl .nil
  refine wpAny_call (codeAny_mono (F.run X.A.in1 X.stack s H ⟨[.ref a], []⟩ [.ref a] [.ref a] _ E hr.in1 I.env0.in1 (by
    have := hb s [.ref a] I.kIn (by simpa using hl)
    simpa using this) r1 q) fun r s' hq => ?_)
  cases r with
  | error e => exact hx pins σ H s e s' I hq
  | ok fl =>
    cases fl with
    | ret w =>
      obtain ⟨z, H', I', rz, n, ez, hn, ex⟩ := I.after hq
      subst ez
      obtain ⟨t, rfl⟩ := rz
      exact ⟨⟨by omega, by omega⟩, .int n, H', I'.tok _, ⟨_, rfl⟩, ex⟩
    | next => exact False.elim hq
    | brk => exact False.elim hq
    | cont => exact False.elim hq
end
end L2
namespace Fo
open PySem L2
theorem lenOf {K : PySem.W.Frag} {C : Addr} {qual : Str} {st : Stmt} {ps : List Str} (i : Me K C "__len__" qual st ps) : OwnLen K C i.f := ⟨i.me.at_, i.me.fn⟩
theorem leOf {K : PySem.W.Frag} {C : Addr} {qual : Str} {st : Stmt} {ps : List Str} (i : Me K C "__le__" qual st ps) : OwnLe K C i.f := ⟨i.me.at_, i.me.fn⟩
/-! ### data of any length -/
theorem lay_all : ∀ {xs : List PyData}, (∀ x ∈ xs, x.canLay0 = true) → PyData.canLayAll0 xs = true
  | [], _ => rfl
  | x :: xs, h => by
    rw [PyData.canLayAll0, h x List.mem_cons_self, lay_all fun y hy => h y (List.mem_cons_of_mem _ hy)]
    rfl
theorem depth_all {n : Nat} : ∀ {xs : List PyData}, (∀ x ∈ xs, x.depth ≤ n) → PyData.depthAll xs ≤ n
  | [], _ => Nat.zero_le _
  | x :: xs, h => by
    rw [PyData.depthAll]
    exact Nat.max_le.mpr ⟨h x List.mem_cons_self, depth_all fun y hy => h y (List.mem_cons_of_mem _ hy)⟩
/-- not deep, and no dicts or odd texts within -/
def Flt (n : Nat) (d : PyData) : Prop := d.canLay0 = true ∧ d.depth ≤ n
theorem Flt.int {n : Nat} (i : Int) : Flt n (.int i) := ⟨rfl, Nat.zero_le _⟩
theorem Flt.bool {n : Nat} (b : Bool) : Flt n (.bool b) := ⟨rfl, Nat.zero_le _⟩
theorem Flt.none {n : Nat} : Flt n .none := ⟨rfl, Nat.zero_le _⟩
theorem Flt.list {n : Nat} {xs : List PyData} (h : ∀ x ∈ xs, Flt n x) : Flt (n + 1) (.list xs) := ⟨lay_all fun x hx => (h x hx).1, Nat.succ_le_succ (depth_all fun x hx => (h x hx).2)⟩
theorem Flt.tuple {n : Nat} {xs : List PyData} (h : ∀ x ∈ xs, Flt n x) : Flt (n + 1) (.tuple xs) := ⟨lay_all fun x hx => (h x hx).1, Nat.succ_le_succ (depth_all fun x hx => (h x hx).2)⟩
theorem Flt.shaped {n : Nat} {d : PyData} (h : Flt n d) (hn : n ≤ 64) : SeqAt.shaped d = true := by
  unfold SeqAt.shaped
  rw [h.1, decide_eq_true (Nat.le_trans h.2 hn)]
  rfl
theorem Flt.pair {n : Nat} (i j : Int) : Flt (n + 1) (.tuple [.int i, .int j]) := .tuple fun x hx => by
  simp only [List.mem_cons, List.not_mem_nil, or_false] at hx
  rcases hx with rfl | rfl <;> exact .int _
/-- == of two rows of the same data -/
theorem eqv_all {α : Type} [DecidableEq α] {f : α → PyData} (h : ∀ a b, PyData.eqv (f a) (f b) = decide (a = b)) : ∀ (as bs : List α), PyData.eqvAll (as.map f) (bs.map f) = decide (as = bs)
  | [], [] => by simp [PyData.eqvAll]
  | [], b :: bs => by simp [PyData.eqvAll]
  | a :: as, [] => by simp [PyData.eqvAll]
  | a :: as, b :: bs => by
    rw [List.map_cons, List.map_cons, PyData.eqvAll, h a b, eqv_all h as bs]
    simp
theorem iteTr {b : Bool} {A B : Prop} (h : b = true) (k : A) : if b = true then A else B := by
  rw [if_pos h]
  exact k
theorem iteFr {b : Bool} {A B : Prop} (h : b = false) (k : B) : if b = true then A else B := by
  rw [h, if_neg (by decide)]
  exact k
theorem q_is {Q : V → Hp → Prop} {a b : Bool} {H : Hp} (e : a = b) (h : Q (.bl a) H) : Q (.bl b) H := by
  rw [← e]
  exact h
end Fo
set_option Elab.async false
set_option linter.all false
set_option maxRecDepth 100000
set_option maxHeartbeats 2000000
/-! range(i, j, c) of ints of any size -/
namespace L2
open PySem PySem.Spec PyProof.Rows
theorem turn_longC {P : Program} {w : World} {K : PySem.W.Frag} {tg : Expr} (it : Addr) (lo c : Int) (n : Nat) : Turn P w K tg (Itc lo c n) [it] it (fun i h => IsLongIter h it (lo + (i : Nat) * c) ((n : Int) - (i : Nat)) c) where
  mem := by simp
  obj := fun i h st b hb => by
    have e : b = it := by simpa using hb
    subst e
    exact ⟨_, st, fun v z => nomatch z⟩
  keep := fun i h h' st k => k it (by simp) _ st
  item := by
    intro X hP hw hK hc i pins s σ H E I hf st hg
    subst hP hw hK
    obtain ⟨f0, f1, f2, f3, f4, f5⟩ := hf it (by simp)
    have W := Walks.longrange (prog := X.prog) (w := X.w) (I.ok.hd hc) it lo c n
    refine W.item i s _ _ hg st fun v h' tk hv st' kk => ?_
    obtain ⟨t, rfl⟩ := hv
    have I1 : Inv X pins σ H { s with heap := h', toks := tk } := I.turned (fun b o hb e => kk b o (by simpa using hb) e) f0 f1 f3 f4 f5
    exact ⟨_, rfl, go_of (s := { s with heap := h', toks := tk }) (n := "longrange_iterator") st' rfl rfl (by decide) ⟨.int (lo + (i : Nat) * c), H, I1, ⟨t, rfl⟩, ⟨rfl, rfl⟩, st', fun b hb => (hf b hb).1⟩⟩
  done := by
    intro X hP hw hK hc i pins s σ H E I hf st hg
    subst hP hw hK
    obtain ⟨f0, f1, f2, f3, f4, f5⟩ := hf it (by simp)
    exact wpAny_pyNext_long_end (I.ok.hd hc) st (by have : n ≤ i := hg; omega) fun h' eb => ⟨rfl, I.turned (t' := s.toks) (fun b o hb e => eb b o hb e) f0 f1 f3 f4 f5⟩
  self := fun A i s Q E st h => wpAny_pyIter_longiter st h
/-- range(i, j, c): n items -/
def RgW (i j c : Int) (n : Nat) : Prop := c ≠ 0 ∧ c.natAbs < 1073741824 ∧ Builtin.Range.rangeSize i j c = n
def iRng3W (ta : TA) : TI := fun σ H R => ta σ H fun vs H1 => ∃ (i j c : Int) (n : Nat), vs = [.int i, .int j, .int c] ∧ RgW i j c n ∧ R (Itc i c n) H1
section
variable {X : Cx} {tg : Expr}
theorem pi_range3W {a b c : Expr} {ta : TA} {p pos : Pos} (hg : Gl X "range") (hm : X.mg "range" = none) (ha : PA X [a, b, c] ta)
    (hs : starEach [a, b, c] X.env = (false, eval a X.env) :: starEach [b, c] X.env := by rfl) (hpl : (backTo pos (starEach [b, c] X.env)).any (·.1) = false := by rfl) :
    PI X tg (.Call (.Name "range" p) [a, b, c] [] pos) (iRng3W ta) := by
  refine ⟨fun pins s σ H R I h => ?_⟩
  refine Call_ (ld_blt I hg hm boot_range (PyProof.Rows.callWith_type1 (thn (ha.run pos pins s σ H _ I h) fun us s1 ⟨vs, H1, I1, r1, q1⟩ => ?_) hs hpl))
  obtain ⟨i, j, k, n, e, ⟨c0, c1, c3⟩, q⟩ := q1
  subst e
  cases r1 with
  | cons r rr =>
    cases rr with
    | cons r' rr =>
      cases rr with
      | cons r'' rr =>
        cases rr
        obtain ⟨t, rfl⟩ := r
        obtain ⟨t', rfl⟩ := r'
        obtain ⟨t'', rfl⟩ := r''
        refine call_range_3 c0 ?_ (.inl (PyProof.noPylong_small c1))
        have I2 : Inv X pins σ H1 { s1 with heap := s1.heap.push { cls := .type "range", data := .fields #[.int i t, .int j t', .int k t''] } } := I1.kept (t' := s1.toks) fun b o e => Heap.get?_push_of_some _ e
        have e1 : i + ((0 : Nat) : Int) * k = i := by simp
        have e2 : (n : Int) - ((0 : Nat) : Int) = Builtin.Range.rangeSize i j k := by rw [c3]; simp
        cases c2 : Builtin.Range.small i j k with
        | true =>
          refine wpAny_pyIter_range (IsRange.new ..) c2 ?_
          refine pi_one (tk := s1.toks) I2 _ (turn_rangeC _ i k n) ?_ q
          show IsRangeIter _ _ (i + ((0 : Nat) : Int) * k) ((n : Int) - ((0 : Nat) : Int)) k
          rw [e1, e2]
          exact Heap.get?_push_size _ rfl
        | false =>
          refine wpAny_pyIter_longrange (IsRange.new ..) c2 ?_
          refine pi_one (tk := s1.toks) I2 _ (turn_longC _ i k n) ?_ q
          show IsLongIter _ _ (i + ((0 : Nat) : Int) * k) ((n : Int) - ((0 : Nat) : Int)) k
          rw [e1, e2]
          exact Heap.get?_push_size _ rfl
end
end L2
set_option Elab.async false
set_option linter.all false
set_option maxRecDepth 100000
set_option maxHeartbeats 2000000
/-! expressions by what their values are, where the heap only grows -/
namespace Fo
open PySem L2
theorem same_newV {H : Hp} {p : Addr} {o : HO} (hn : H p = none) : Same H (upd H p o) := fun b u h => by
  rw [upd_ne (ne_of_none h hn)]
  exact h
abbrev RV := V → Hp → Prop
/-- wherever G holds the expression has a value of this kind -/
def VX (G : Hp → Prop) (σ : L2.St) (te : TE) (R : RV) : Prop := ∀ H Q, G H → (∀ v H', Same H H' → R v H' → Q v H') → te σ H Q
/-- it stays while the heap grows -/
def Stb (R : RV) : Prop := ∀ v H H', Same H H' → R v H → R v H'
def StbG (G : Hp → Prop) : Prop := ∀ H H', Same H H' → G H → G H'
/-- arguments by what they are -/
def VA (G : Hp → Prop) (σ : L2.St) (ta : TA) (R : List V → Hp → Prop) : Prop := ∀ H Q, G H → (∀ vs H', Same H H' → R vs H' → Q vs H') → ta σ H Q
def RI (n : Int) : RV := fun v _ => v = .int n
def RB (P : Prop) : RV := fun v _ => ∃ b : Bool, v = .bl b ∧ (b = true ↔ P)
theorem RI.st {n : Int} : Stb (RI n) := fun _ _ _ _ h => h
theorem RB.st {P : Prop} : Stb (RB P) := fun _ _ _ _ h => h
/-- a test by what it says -/
def TX (G : Hp → Prop) (σ : L2.St) (t : TT) (P : Prop) : Prop := ∀ (H : Hp) (Q : Bool → Hp → Prop), G H → (∀ (b : Bool) H', Same H H' → (b = true ↔ P) → Q b H') → t σ H Q
section
variable {G : Hp → Prop} {σ : L2.St} {ta tb tc : TE} {R R1 R2 R3 R4 : RV} {E : XK} {K : PySem.W.Frag}
theorem vx_mono {S : RV} (h : VX G σ ta R) (k : ∀ v H, R v H → S v H) : VX G σ ta S := fun H Q g q => h H Q g fun v H' e r => q v H' e (k v H' r)
theorem vx_var {i : Nat} {v : V} (hi : σ[i]? = some (some v)) (hG : ∀ H, G H → R v H) : VX G σ (tVar i) R := fun H Q g q => ⟨v, hi, q v H (Same.refl _) (hG H g)⟩
theorem vx_c {v : V} : VX G σ (tC v) (fun u _ => u = v) := fun H Q _ q => q v H (Same.refl _) rfl
theorem vx_ci {n : Int} : VX G σ (tC (.int n)) (RI n) := vx_c
theorem va_nil : VA G σ tNil (fun vs _ => vs = []) := fun H Q _ q => q [] H (Same.refl _) rfl
theorem va_one (h1 : VX G σ ta R1) : VA G σ (tCons ta tNil) (fun vs H => ∃ x, vs = [x] ∧ R1 x H) := fun H Q g q => h1 H _ g fun x H1 e1 r1 => q [x] H1 e1 ⟨x, rfl, r1⟩
theorem va_two (hx : StbG G) (s1 : Stb R1) (h1 : VX G σ ta R1) (h2 : VX G σ tb R2) : VA G σ (tCons ta (tCons tb tNil)) (fun vs H => ∃ x y, vs = [x, y] ∧ R1 x H ∧ R2 y H) := fun H Q g q =>
  h1 H _ g fun x H1 e1 r1 => h2 H1 _ (hx _ _ e1 g) fun y H2 e2 r2 => q [x, y] H2 (e1.trans e2) ⟨x, y, rfl, s1 _ _ _ e2 r1, r2⟩
theorem va_three (hx : StbG G) (s1 : Stb R1) (s2 : Stb R2) (h1 : VX G σ ta R1) (h2 : VX G σ tb R2) (h3 : VX G σ tc R3) : VA G σ (tCons ta (tCons tb (tCons tc tNil))) (fun vs H => ∃ x y z, vs = [x, y, z] ∧ R1 x H ∧ R2 y H ∧ R3 z H) := fun H Q g q =>
  h1 H _ g fun x H1 e1 r1 => h2 H1 _ (hx _ _ e1 g) fun y H2 e2 r2 => h3 H2 _ (hx _ _ e2 (hx _ _ e1 g)) fun z H3 e3 r3 => q [x, y, z] H3 ((e1.trans e2).trans e3) ⟨x, y, z, rfl, s1 _ _ _ e3 (s1 _ _ _ e2 r1), s2 _ _ _ e3 r2, r3⟩
theorem va_four (hx : StbG G) (s1 : Stb R1) (s2 : Stb R2) (s3 : Stb R3) {td : TE} (h1 : VX G σ ta R1) (h2 : VX G σ tb R2) (h3 : VX G σ tc R3) (h4 : VX G σ td R4) : VA G σ (tCons ta (tCons tb (tCons tc (tCons td tNil)))) (fun vs H => ∃ x y z w, vs = [x, y, z, w] ∧ R1 x H ∧ R2 y H ∧ R3 z H ∧ R4 w H) := fun H Q g q =>
  h1 H _ g fun x H1 e1 r1 => h2 H1 _ (hx _ _ e1 g) fun y H2 e2 r2 => h3 H2 _ (hx _ _ e2 (hx _ _ e1 g)) fun z H3 e3 r3 => h4 H3 _ (hx _ _ e3 (hx _ _ e2 (hx _ _ e1 g))) fun w H4 e4 r4 => q [x, y, z, w] H4 (((e1.trans e2).trans e3).trans e4) ⟨x, y, z, w, rfl, s1 _ _ _ e4 (s1 _ _ _ e3 (s1 _ _ _ e2 r1)), s2 _ _ _ e4 (s2 _ _ _ e3 r2), s3 _ _ _ e4 r3, r4⟩
/-- f(..) -/
theorem vx_call {sp : Sp} {A : List V → Hp → Prop} {t : TA} (h : VA G σ t A) (k : ∀ vs H Q, A vs H → (∀ v H', Same H H' → R v H' → Q v H') → sp vs H Q E) : VX G σ (tCall sp [] E t) R := fun H Q g q =>
  h H _ g fun vs H1 e1 r1 => by
    rw [List.append_nil]
    exact k vs H1 Q r1 fun v H2 e2 r2 => q v H2 (e1.trans e2) r2
/-- C(..) -/
theorem vx_make {C : Addr} {sp : Sp} {A : List V → Hp → Prop} {t : TA} (h : VA G σ t A) (k : ∀ vs H (Q : VK), A vs H → (∀ v H', Same H H' → R v H' → Q v H') → ∀ x dx, H x = none → H dx = none → dx ≠ x →
    sp (.ref x :: (vs ++ [])) (upd (upd H dx (.own x)) x (.ins C dx [])) (fun v H2 => v = .non ∧ Q (.ref x) H2) E) : VX G σ (tMake C sp [] E t) R := fun H Q g q =>
  h H _ g fun vs H1 e1 r1 => k vs H1 Q r1 fun v H2 e2 r2 => q v H2 (e1.trans e2) r2
/-- o.m(..) -/
theorem vx_meth {C : Addr} {m : Str} {sp : Sp} {A : List V → Hp → Prop} {t : TA} (hx : StbG G) (s1 : Stb R1) (h1 : VX G σ ta R1) (hi : ∀ x H, R1 x H → ∃ a dx fs, x = .ref a ∧ H a = some (.ins C dx fs) ∧ fs.lookup m = none) (h : VA G σ t A)
    (k : ∀ x vs H Q, R1 x H → A vs H → (∀ v H', Same H H' → R v H' → Q v H') → sp (x :: vs) H Q E) : VX G σ (tMeth C m sp [] E ta t) R := fun H Q g q =>
  h1 H _ g fun x H1 e1 r1 => by
    obtain ⟨a, dx, fs, rfl, h2, h3⟩ := hi x H1 r1
    refine ⟨a, dx, fs, rfl, h2, h3, h H1 _ (hx _ _ e1 g) fun vs H2 e2 r2 => ?_⟩
    rw [List.append_nil]
    exact k _ vs H2 Q (s1 _ _ _ e2 r1) r2 fun v H3 e3 r3 => q v H3 ((e1.trans e2).trans e3) r3
/-- an operator -/
theorem vx_op {r : L2.R2} (hx : StbG G) (s1 : Stb R1) (h1 : VX G σ ta R1) (h2 : VX G σ tb R2) (k : ∀ x y H Q, R1 x H → R2 y H → (∀ v H', Same H H' → R v H' → Q v H') → r x y H Q) : VX G σ (tOp r ta tb) R := fun H Q g q =>
  h1 H _ g fun x H1 e1 r1 => h2 H1 _ (hx _ _ e1 g) fun y H2 e2 r2 => k x y H2 Q (s1 _ _ _ e2 r1) r2 fun v H3 e3 r3 => q v H3 ((e1.trans e2).trans e3) r3
theorem vx_un {r : V → Hp → VK → Prop} (h1 : VX G σ ta R1) (k : ∀ x H Q, R1 x H → (∀ v H', Same H H' → R v H' → Q v H') → r x H Q) : VX G σ (tUn r ta) R := fun H Q g q =>
  h1 H _ g fun x H1 e1 r1 => k x H1 Q r1 fun v H2 e2 r2 => q v H2 (e1.trans e2) r2
/-- a built-in -/
theorem vx_cb {r : List V → Hp → VK → Prop} {A : List V → Hp → Prop} {t : TA} (h : VA G σ t A) (k : ∀ vs H Q, A vs H → (∀ v H', Same H H' → R v H' → Q v H') → r vs H Q) : VX G σ (tCB r t) R := fun H Q g q =>
  h H _ g fun vs H1 e1 r1 => k vs H1 Q r1 fun v H2 e2 r2 => q v H2 (e1.trans e2) r2
theorem vx_fld {f : Str} (h1 : VX G σ ta R1) (k : ∀ x H, R1 x H → ∃ a C dx fs v, x = .ref a ∧ H a = some (.ins C dx fs) ∧ Cls K C ∧ NoAttr K C f ∧ fs.lookup f = some v ∧ R v H) : VX G σ (tFld K ta f) R := fun H Q g q =>
  h1 H _ g fun x H1 e1 r1 => by
    obtain ⟨a, C, dx, fs, v, h2, h3, h4, h5, h6, h7⟩ := k x H1 r1
    exact ⟨a, C, dx, fs, v, h2, h3, h4, h5, h6, q v H1 e1 h7⟩
/-- (..) -/
theorem vx_tup {A : List V → Hp → Prop} {t : TA} (sA : ∀ vs H H', Same H H' → A vs H → A vs H') (h : VA G σ t A) (hz : ∀ vs H, A vs H → vs.length ≤ sizeLine) : VX G σ (tTup t) (fun v H => ∃ q vs, v = .ref q ∧ H q = some (.tup vs) ∧ A vs H) := fun H Q g q =>
  h H _ g fun vs H1 e1 r1 => ⟨hz vs H1 r1, fun p np => q _ _ (e1.trans (same_newV np)) ⟨p, vs, rfl, upd_same, sA _ _ _ (same_newV np) r1⟩⟩
theorem vx_lst {A : List V → Hp → Prop} {t : TA} (sA : ∀ vs H H', Same H H' → A vs H → A vs H') (h : VA G σ t A) (hz : ∀ vs H, A vs H → vs.length ≤ sizeLine) : VX G σ (tLst t) (fun v H => ∃ q vs, v = .ref q ∧ H q = some (.lst vs) ∧ A vs H) := fun H Q g q =>
  h H _ g fun vs H1 e1 r1 => ⟨hz vs H1 r1, fun p np => q _ _ (e1.trans (same_newV np)) ⟨p, vs, rfl, upd_same, sA _ _ _ (same_newV np) r1⟩⟩
/-! ### ints, truths -/
theorem vx_add {i j : Int} (hx : StbG G) (h1 : VX G σ ta (RI i)) (h2 : VX G σ tb (RI j)) : VX G σ (tOp (rI0 fun i j => .int (i + j)) ta tb) (RI (i + j)) := vx_op hx RI.st h1 h2 fun x y H Q e1 e2 q => by
  cases e1; cases e2
  exact ⟨i, j, rfl, rfl, q _ H (Same.refl _) rfl⟩
theorem vx_sub {i j : Int} (hx : StbG G) (h1 : VX G σ ta (RI i)) (h2 : VX G σ tb (RI j)) : VX G σ (tOp (rI0 fun i j => .int (i - j)) ta tb) (RI (i - j)) := vx_op hx RI.st h1 h2 fun x y H Q e1 e2 q => by
  cases e1; cases e2
  exact ⟨i, j, rfl, rfl, q _ H (Same.refl _) rfl⟩
theorem tx_val {P : Prop} (h : VX G σ ta (RB P)) : TX G σ (tTest ta) P := fun H Q g q => h H _ g fun v H' e r => by
  obtain ⟨b, rfl, hb⟩ := r
  exact ⟨b, rfl, q b H' e hb⟩
theorem tx_not {t : TT} {P : Prop} (h : TX G σ t P) : TX G σ (tNot t) (¬ P) := fun H Q g q => h H _ g fun b H' e hb => q _ H' e (by rw [← hb]; cases b <;> simp)
theorem tx_or {t u : TT} {P P' : Prop} (hx : StbG G) (ha : TX G σ t P) (hb : TX G σ u P') : TX G σ (tOr t u) (P ∨ P') := fun H Q g k => by
  refine ha H _ g fun b H1 e1 h1 => ?_
  cases b with
  | true => exact iteT (k true H1 e1 ⟨fun _ => .inl (h1.mp rfl), fun _ => rfl⟩)
  | false =>
    refine iteF (hb H1 _ (hx _ _ e1 g) fun c H2 e2 h2 => k c H2 (e1.trans e2) ?_)
    rw [h2]
    exact ⟨.inr, fun h => h.resolve_left fun hp => by cases h1.mpr hp⟩
theorem tx_and {t u : TT} {P P' : Prop} (hx : StbG G) (ha : TX G σ t P) (hb : TX G σ u P') : TX G σ (tAnd t u) (P ∧ P') := fun H Q g k => by
  refine ha H _ g fun b H1 e1 h1 => ?_
  cases b with
  | false => exact iteF (k false H1 e1 ⟨fun h => (by cases h), fun h => h1.mpr h.1⟩)
  | true =>
    refine iteT (hb H1 _ (hx _ _ e1 g) fun c H2 e2 h2 => k c H2 (e1.trans e2) ?_)
    rw [h2]
    exact ⟨fun h => ⟨h1.mp rfl, h⟩, fun h => h.2⟩
theorem vx_and {P P' : Prop} (hx : StbG G) (ha : VX G σ ta (RB P)) (hb : VX G σ tb (RB P')) : VX G σ (tAndV ta tb) (RB (P ∧ P')) := fun H Q g k => by
  refine ha H _ g fun v H1 e1 h1 => ?_
  obtain ⟨b, rfl, h1⟩ := h1
  refine ⟨b, rfl, ?_⟩
  cases b with
  | false => exact iteF (k _ H1 e1 ⟨false, rfl, fun h => (by cases h), fun h => h1.mpr h.1⟩)
  | true =>
    refine iteT (hb H1 _ (hx _ _ e1 g) fun v H2 e2 h2 => ?_)
    obtain ⟨c, rfl, h2⟩ := h2
    exact k _ H2 (e1.trans e2) ⟨c, rfl, by rw [h2]; exact ⟨fun h => ⟨h1.mp rfl, h⟩, fun h => h.2⟩⟩
theorem vx_or {P P' : Prop} (hx : StbG G) (ha : VX G σ ta (RB P)) (hb : VX G σ tb (RB P')) : VX G σ (tOrV ta tb) (RB (P ∨ P')) := fun H Q g k => by
  refine ha H _ g fun v H1 e1 h1 => ?_
  obtain ⟨b, rfl, h1⟩ := h1
  refine ⟨b, rfl, ?_⟩
  cases b with
  | true => exact iteT (k _ H1 e1 ⟨true, rfl, fun _ => .inl (h1.mp rfl), fun _ => rfl⟩)
  | false =>
    refine iteF (hb H1 _ (hx _ _ e1 g) fun v H2 e2 h2 => ?_)
    obtain ⟨c, rfl, h2⟩ := h2
    exact k _ H2 (e1.trans e2) ⟨c, rfl, by rw [h2]; exact ⟨.inr, fun h => h.resolve_left fun hp => by cases h1.mpr hp⟩⟩
/-! ### statements -/
theorem st_set {i : Nat} {u : TS} {D : Ends} {H : Hp} (h : VX G σ ta R) (g : G H) (k : ∀ v H', Same H H' → R v H' → u D (σ.set i (some v)) H') : tSeq (tAsg ta (gName i)) u D σ H := h H _ g fun v H' e r => k v H' e r
theorem st_par {i j : Nat} {A : List V → Hp → Prop} {t : TA} {u : TS} {D : Ends} {H : Hp} (h : VA G σ t A) (g : G H) (hA : ∀ vs H, A vs H → ∃ x y, vs = [x, y]) (k : ∀ x y H', Same H H' → A [x, y] H' → u D ((σ.set i (some x)).set j (some y)) H') : tSeq (tPar i j t) u D σ H :=
  h H _ g fun vs H' e r => by
    obtain ⟨x, y, rfl⟩ := hA vs H' r
    exact ⟨x, y, rfl, k x y H' e r⟩
theorem st_if_no {t : TT} {P : Prop} {u v : TS} {D : Ends} {H : Hp} (h : TX G σ t P) (hn : ¬ P) (g : G H) (k : ∀ H', Same H H' → v D σ H') : tSeq (tIfS t u tNext) v D σ H := h H _ g fun b H' e hb => by
  cases b with
  | true => exact absurd (hb.mp rfl) hn
  | false => exact iteF (k H' e)
theorem st_last_no {t : TT} {P : Prop} {u : TS} {D : Ends} {H : Hp} (h : TX G σ t P) (hn : ¬ P) (g : G H) (k : ∀ H', Same H H' → D.nx σ H') : tIfS t u tNext D σ H := h H _ g fun b H' e hb => by
  cases b with
  | true => exact absurd (hb.mp rfl) hn
  | false => exact iteF (k H' e)
theorem st_ret {D : Ends} {H : Hp} (h : VX G σ ta R) (g : G H) (k : ∀ v H', Same H H' → R v H' → D.rt v H') : tRet ta D σ H := h H _ g k
theorem VX.get {H : Hp} {Q : VK} (h : VX G σ ta R) (g : G H) (k : ∀ v H', Same H H' → R v H' → Q v H') : ta σ H Q := h H Q g k
end
end Fo
set_option Elab.async false
set_option linter.all false
set_option maxRecDepth 100000
set_option maxHeartbeats 2000000
/-! more of the same: comparisons, tests, statements -/
namespace Fo
open PySem L2
section
variable {G : Hp → Prop} {σ : L2.St} {ta tb tc : TE} {R R1 R2 R3 : RV} {E : XK} {K : PySem.W.Frag}
theorem rb_true {b : Bool} {v : V} {H : Hp} (h : v = .bl b) : RB (b = true) v H := ⟨b, h, Iff.rfl⟩
theorem rb_iff {P P' : Prop} (h : VX G σ ta (RB P)) (e : P ↔ P') : VX G σ ta (RB P') := vx_mono h fun v H ⟨b, h1, h2⟩ => ⟨b, h1, h2.trans e⟩
theorem tx_iff {t : TT} {P P' : Prop} (h : TX G σ t P) (e : P ↔ P') : TX G σ t P' := fun H Q g q => h H Q g fun b H' s hb => q b H' s (hb.trans e)
theorem vx_lt {i j : Int} (hx : StbG G) (h1 : VX G σ ta (RI i)) (h2 : VX G σ tb (RI j)) : VX G σ (tOp (rI0 fun i j => .bl (decide (i < j))) ta tb) (RB (i < j)) := vx_op hx RI.st h1 h2 fun x y H Q e1 e2 q => by
  cases e1; cases e2
  exact ⟨i, j, rfl, rfl, q _ H (Same.refl _) ⟨_, rfl, decide_eq_true_iff⟩⟩
theorem vx_le {i j : Int} (hx : StbG G) (h1 : VX G σ ta (RI i)) (h2 : VX G σ tb (RI j)) : VX G σ (tOp (rI0 fun i j => .bl (decide (i ≤ j))) ta tb) (RB (i ≤ j)) := vx_op hx RI.st h1 h2 fun x y H Q e1 e2 q => by
  cases e1; cases e2
  exact ⟨i, j, rfl, rfl, q _ H (Same.refl _) ⟨_, rfl, decide_eq_true_iff⟩⟩
theorem vx_gt {i j : Int} (hx : StbG G) (h1 : VX G σ ta (RI i)) (h2 : VX G σ tb (RI j)) : VX G σ (tOp (rI0 fun i j => .bl (decide (j < i))) ta tb) (RB (j < i)) := vx_op hx RI.st h1 h2 fun x y H Q e1 e2 q => by
  cases e1; cases e2
  exact ⟨i, j, rfl, rfl, q _ H (Same.refl _) ⟨_, rfl, decide_eq_true_iff⟩⟩
theorem vx_ge {i j : Int} (hx : StbG G) (h1 : VX G σ ta (RI i)) (h2 : VX G σ tb (RI j)) : VX G σ (tOp (rI0 fun i j => .bl (decide (j ≤ i))) ta tb) (RB (j ≤ i)) := vx_op hx RI.st h1 h2 fun x y H Q e1 e2 q => by
  cases e1; cases e2
  exact ⟨i, j, rfl, rfl, q _ H (Same.refl _) ⟨_, rfl, decide_eq_true_iff⟩⟩
theorem vx_eqI {i j : Int} (hx : StbG G) (h1 : VX G σ ta (RI i)) (h2 : VX G σ tb (RI j)) : VX G σ (tOp rEq ta tb) (RB (i = j)) := vx_op hx RI.st h1 h2 fun x y H Q e1 e2 q => by
  cases e1; cases e2
  exact ⟨rfl, q _ H (Same.refl _) ⟨_, rfl, by rw [decide_eq_true_iff]; exact ⟨fun h => by injection h, fun h => by rw [h]⟩⟩⟩
theorem vx_neI {i j : Int} (hx : StbG G) (h1 : VX G σ ta (RI i)) (h2 : VX G σ tb (RI j)) : VX G σ (tOp rNe ta tb) (RB (i ≠ j)) := vx_op hx RI.st h1 h2 fun x y H Q e1 e2 q => by
  cases e1; cases e2
  exact ⟨rfl, q _ H (Same.refl _) ⟨_, rfl, by simp⟩⟩
theorem vx_eqB {P P' : Prop} (hx : StbG G) (h1 : VX G σ ta (RB P)) (h2 : VX G σ tb (RB P')) : VX G σ (tOp rEq ta tb) (RB (P ↔ P')) := vx_op hx RB.st h1 h2 fun x y H Q e1 e2 q => by
  obtain ⟨b, rfl, hb⟩ := e1
  obtain ⟨c, rfl, hc⟩ := e2
  exact ⟨rfl, q _ H (Same.refl _) ⟨_, rfl, by rw [decide_eq_true_iff, ← hb, ← hc]; cases b <;> cases c <;> simp⟩⟩
theorem vx_neB {P P' : Prop} (hx : StbG G) (h1 : VX G σ ta (RB P)) (h2 : VX G σ tb (RB P')) : VX G σ (tOp rNe ta tb) (RB (¬ (P ↔ P'))) := vx_op hx RB.st h1 h2 fun x y H Q e1 e2 q => by
  obtain ⟨b, rfl, hb⟩ := e1
  obtain ⟨c, rfl, hc⟩ := e2
  exact ⟨rfl, q _ H (Same.refl _) ⟨_, rfl, by rw [← hb, ← hc]; cases b <;> cases c <;> simp⟩⟩
theorem vx_not {P : Prop} (h : VX G σ ta (RB P)) : VX G σ (tNotV ta) (RB (¬ P)) := fun H Q g q => h H _ g fun v H' e ⟨b, hv, hb⟩ => ⟨b, hv, q _ H' e ⟨_, rfl, by rw [← hb]; cases b <;> simp⟩⟩
theorem vx_chainLL {i j k : Int} (hx : StbG G) (h1 : VX G σ ta (RI i)) (h2 : VX G σ tb (RI j)) (h3 : VX G σ tc (RI k)) : VX G σ (tChain (rI0 fun i j => .bl (decide (i < j))) (rI0 fun i j => .bl (decide (i < j))) ta tb tc) (RB (i < j ∧ j < k)) := fun H Q g q => by
  refine h1 H _ g fun x H1 e1 r1 => h2 H1 _ (hx _ _ e1 g) fun y H2 e2 r2 => ?_
  cases r1; cases r2
  refine ⟨i, j, rfl, rfl, _, rfl, ?_⟩
  by_cases h : i < j
  · refine iteTr (decide_eq_true h) (h3 H2 _ (hx _ _ e2 (hx _ _ e1 g)) fun z H3 e3 r3 => ?_)
    cases r3
    exact ⟨j, k, rfl, rfl, q _ H3 ((e1.trans e2).trans e3) ⟨_, rfl, by rw [decide_eq_true_iff]; exact ⟨fun z => ⟨h, z⟩, fun z => z.2⟩⟩⟩
  · refine iteFr (decide_eq_false h) (q _ H2 (e1.trans e2) ⟨_, rfl, ⟨fun z => (by cases z), fun z => absurd z.1 h⟩⟩)
/-- if, both ways -/
theorem st_ifR {t : TT} {P : Prop} {u v : TS} {D : L2.Ends} {H : Hp} (h : TX G σ t P) (g : G H) (ky : P → ∀ H', Same H H' → u { D with nx := v D } σ H') (kn : ¬ P → ∀ H', Same H H' → v D σ H') : tSeq (tIfS t u tNext) v D σ H := h H _ g fun b H' e hb => by
  cases b with
  | true => exact iteT (ky (hb.mp rfl) H' e)
  | false => exact iteF (kn (fun z => by cases hb.mpr z) H' e)
theorem st_ifE {t : TT} {P : Prop} {u v : TS} {D : L2.Ends} {H : Hp} (h : TX G σ t P) (g : G H) (ky : P → ∀ H', Same H H' → u D σ H') (kn : ¬ P → ∀ H', Same H H' → v D σ H') : tIfS t u v D σ H := h H _ g fun b H' e hb => by
  cases b with
  | true => exact iteT (ky (hb.mp rfl) H' e)
  | false => exact iteF (kn (fun z => by cases hb.mpr z) H' e)
/-- a set that stays the same if the expression's test is decided -/
theorem TX.decided {t : TT} {P : Prop} (h : TX G σ t P) {H : Hp} {Q : Bool → Hp → Prop} (g : G H) (b : Bool) (hb : b = true ↔ P) (k : ∀ H', Same H H' → Q b H') : t σ H Q := h H Q g fun c H' e hc => by
  have : c = b := by
    have := hc.trans hb.symm
    cases b <;> cases c <;> simp_all
  rw [this]
  exact k H' e
end
end Fo
set_option Elab.async false
set_option linter.all false
set_option maxRecDepth 100000
set_option maxHeartbeats 2000000
/-! C.m() of a static method -/
namespace L2
open PySem PySem.Spec PyProof.Rows
structure Stat (K : PySem.W.Frag) (C : Addr) (m : Str) (p f : Addr) : Prop where
  ga : PySem.W.specialIn K (.ref C) "__getattribute__" = some (some (.builtin "type.__getattribute__"))
  ty : PySem.W.typeIn K (.ref C) = some (.type "type")
  rd : PySem.W.readsIn K C (.type "type") = true
  fc : PySem.W.findCls K (.ref C) (.type "type") m = some (.get (.builtin "staticmethod.__get__") (.ref p) .none (.ref C))
  rc : ∃ rest, PySem.W.recIn K p "staticmethod" = some (.ref f :: rest)
  kp : PySem.W.keepIn K (.ref f) = true
section
variable {X : Cx} {CX : CXT} {k : Nat} {f C p : Addr} {fd : FuncData} {ps : List Str} {sp : Sp} {E : XK} {n m : Str} {np pos apos : Pos}
theorem pe_static0 {pl : Sem Bool} (hn : PE X (.Name n np) (tC (.ref C))) (S : Stat X.K C m p f) (F : FnOk X.prog X.w X.K X.mg X.base CX k f fd ps sp) (hr : Room k X.A) (hb : Binds X.K fd ps []) (hx : Passes CX X E)
    (ht : eval (.Call (.Attribute (.Name n np) m apos) [] [] pos) X.env = (do
      let ov ← eval (.Name n np) X.env
      standAt apos.atName
      let (f, first) ← holding [ov] (getMethod ov m pl)
      callWith pos f first (backTo pos (starEach [] X.env)) (backToKw pos (keywordEach [] X.env))) := by rfl) :
    PE X (.Call (.Attribute (.Name n np) m apos) [] [] pos) (tCall sp [] E tNil) := by
  refine ⟨fun pins s σ H Q I h => ?_⟩
  refine PySem.W.methodCall_KW (pl := pl) (thn (hn.run pins s σ H (fun v H' => v = .ref C ∧ H' = H) I ⟨rfl, rfl⟩) fun u s1 hh => ?_) ht
  obtain ⟨x, H1, I1, rx, ex, eH⟩ := hh
  subst ex
  subst eH
  obtain rfl : u = Value.ref C := rx
  obtain ⟨m', hF⟩ := I1.fr
  obtain ⟨rest, hrc⟩ := S.rc
  refine PySem.W.method_of_cls hF I1.ok.mod.kin S.ga (PySem.W.cls_sm hF I1.ok.mod.kin S.ty S.rd S.fc hrc rfl ?_)
  have I2 := I1.tok (s1.toks + 1)
  exact PySem.W.callWith_K0 (first := []) I2.kIn S.kp (run_fn (us := []) (vs := []) F hr hb .nil hx I2 .nil h)
end
end L2
set_option Elab.async false
set_option linter.all false
set_option maxRecDepth 100000
set_option maxHeartbeats 2000000
namespace Fo
open PySem PySem.Spec PyProof.Rows L2
section
variable {X : Cx}
/-- y = {..} by a comprehension, y a local name -/
theorem ps_setDc {i : Nat} {y : Str} {py : Pos} {kx vx tg iter : Expr} {ifs : List Expr} {scope : Scope} {own : List (Str × Nat)} {pos spos : Pos} {wi : TI} {g : TG} {tt : TT} {tk tv : TE} (hc : X.calm = true) (hN : X.N.Nodup) (hy : X.N[i]? = some y) (hyl : X.env.scope.names.lookup y = some .local)
    (sw : swapsWith (.DictComp kx vx [⟨tg, iter, ifs, 0⟩] scope pos) (some (.Name y py)) spos.line X.env = pure true) (hi : PI X tg iter wi) (ok : BlkOk X.N X.env.scope scope own)
    (hg : ∀ (s : Shared) (H : Hp) (C : Addr) (cl : List (Str × Addr)) (fp : List Addr), PG (X.blk s H scope (compEnvC scope cl C X.env) fp) tg g) (ht : ∀ (s : Shared) (H : Hp) (C : Addr) (cl : List (Str × Addr)) (fp : List Addr), PTs (X.blk s H scope (compEnvC scope cl C X.env) fp) ifs tt)
    (hk : ∀ (s : Shared) (H : Hp) (C : Addr) (cl : List (Str × Addr)) (fp : List Addr), PE (X.blk s H scope (compEnvC scope cl C X.env) fp) kx tk) (he : ∀ (s : Shared) (H : Hp) (C : Addr) (cl : List (Str × Addr)) (fp : List Addr), PE (X.blk s H scope (compEnvC scope cl C X.env) fp) vx tv)
    (hs : ∀ x, foldedSetIterable iter X.env x = pure x := by intro _; rfl) : PS X (.Assign [.Name y py] (.DictComp kx vx [⟨tg, iter, ifs, 0⟩] scope pos) spos) (tAsg (tDc wi g tt tk tv (own.map (·.2))) (gName i)) := by
  refine ⟨fun pins s σ H D I h => ?_⟩
  rw [exec_Assign_Name_used _ _ _ _ sw]
  have h : tDc wi g tt tk tv (own.map (·.2)) σ H (fun x H1 => gName i x σ H1 D.nx) := h
  refine wpAny_bind (wpAny_standAt (wpAny_bind ?_))
  show wpAny _ X.A (do let _ ← comprehension (.DictComp kx vx [⟨tg, iter, ifs, 0⟩] scope pos) scope X.env (firstIterPos [⟨tg, iter, ifs, 0⟩] pos) newDict false (eval iter X.env) (some (assign (.Name y py) X.env))) _ _ s
  refine wpAny_bind (thn (dc_core (Qf := fun _ s' => SP X pins D .next s') hc hN I hi ok hg ht hk he hs h fun L C s' m H' J q hn f => ?_) fun _ s' z => wpAny_pure (wpAny_pure z))
  refine wpAny_assign_Name (store_ok2 (v := V.ref L) J hN hy (.inl hyl) rfl (fun s2 I2 ⟨a, sb, ha⟩ => ?_) (.inr hyl))
  have ne : C ≠ a := ha.elim (fun z => by rw [z]; exact f.2.1) fun z e => f.2.2.2.2.1 y a z e.symm
  exact ⟨m, hn.sameBut sb ne, fun h3 sb3 => ⟨_, H', I2.turned (t' := s2.toks) (fun b o hb e => (sb3.2 b hb).trans e) f.1 f.2.1 f.2.2.2.1 f.2.2.2.2.1 f.2.2.2.2.2, q⟩⟩
theorem swD_true {kx vx : Expr} {gs : List Comprehension} {scope : Scope} {pos py : Pos} {y : Str} {l : Nat} {env : Env} (hk : env.scope.kind = .function) (hy : env.scope.names.lookup y = some .local) (hl : (py.line == pos.line) = true)
    (ha : (scope.names.any fun (n, k) => n == y && (k == .local || k == .cell)) = false) : swapsWith (.DictComp kx vx gs scope pos) (some (.Name y py)) l env = pure true := by
  have k1 : env.kindOf y = some .local := hy
  have k2 : env.blockKind = .function := by unfold Env.blockKind; rw [hk]; rfl
  unfold swapsWith
  simp only [k1, k2, ha, Expr.pos, hl]
  rfl
end
end Fo
set_option Elab.async false
set_option linter.all false
set_option maxRecDepth 100000
set_option maxHeartbeats 2000000
/-! displays of data -/
namespace Fo
open PySem L2
theorem same_nw {H : Hp} {p : Addr} {o : HO} (h : H p = none) : Same H (upd H p o) := fun a u e => by
  rw [upd_ne (ne_of_none e h)]
  exact e
theorem sqT_ex {K : PySem.W.Frag} {H H' : Hp} {a : Addr} {xs : List V} (e : Same H H') (h : SqT K H a xs) : SqT K H' a xs := by
  rcases h with (h | ⟨o, h⟩) | h
  · exact .inl (.inl (e _ _ h))
  · exact .inl (.inr ⟨o, e _ _ h⟩)
  · exact .inr h
mutual
theorem dp_ex {K : PySem.W.Frag} {H H' : Hp} (e : Same H H') : ∀ (d : PyData) (v : V), Dp K H v d → Dp K H' v d
  | .none, _, h => by
    cases h
    exact .non
  | .bool b, _, h => by
    cases h
    exact .bl b
  | .int i, _, h => by
    cases h
    exact .int i
  | .str x, _, h => by
    cases h
    exact .str x
  | .list ds, _, h => by
    cases h with
    | lst hs ha => exact .lst (e.seq hs) (dps_ex e ds _ ha)
  | .tuple ds, _, h => by
    cases h with
    | tup hs ha => exact .tup (sqT_ex e hs) (dps_ex e ds _ ha)
  | .dict _, _, h => by cases h
theorem dps_ex {K : PySem.W.Frag} {H H' : Hp} (e : Same H H') : ∀ (ds : List PyData) (vs : List V), DpAll K H vs ds → DpAll K H' vs ds
  | [], _, h => by
    cases h
    exact .nil
  | d :: ds, _, h => by
    cases h with
    | cons h1 h2 => exact .cons (dp_ex e d _ h1) (dps_ex e ds _ h2)
end
def EvD (K : PySem.W.Frag) (te : TE) (σ : L2.St) (H : Hp) (d : PyData) : Prop := ∀ H1, Same H H1 → ∀ Q : VK, (∀ v H2, Same H1 H2 → Dp K H2 v d → Q v H2) → te σ H1 Q
def EvDs (K : PySem.W.Frag) (ta : TA) (σ : L2.St) (H : Hp) (ds : List PyData) : Prop := ∀ H1, Same H H1 → ∀ Q : List V → Hp → Prop, (∀ vs H2, Same H1 H2 → DpAll K H2 vs ds → vs.length = ds.length → Q vs H2) → ta σ H1 Q
section
variable {K : PySem.W.Frag} {σ : L2.St} {H : Hp} {te : TE} {ta : TA} {d : PyData} {ds : List PyData}
theorem evd_int {i : Int} : EvD K (tC (.int i)) σ H (.int i) := fun H1 _ _ q => q _ H1 (Same.refl _) (.int i)
theorem evd_bl {b : Bool} : EvD K (tC (.bl b)) σ H (.bool b) := fun H1 _ _ q => q _ H1 (Same.refl _) (.bl b)
theorem evd_non : EvD K (tC .non) σ H .none := fun H1 _ _ q => q _ H1 (Same.refl _) .non
theorem evd_str {z : Str} : EvD K (tC (.str z)) σ H (.str z) := fun H1 _ _ q => q _ H1 (Same.refl _) (.str z)
theorem evd_neg {i : Int} : EvD K (tUn (rU fun i => .int (-i)) (tC (.int i))) σ H (.int (-i)) := fun H1 _ _ q => ⟨i, rfl, q _ H1 (Same.refl _) (.int _)⟩
theorem evd_var {i : Nat} {v : V} (h : σ[i]? = some (some v)) (hd : Dp K H v d) : EvD K (tVar i) σ H d := fun H1 e _ q => ⟨v, h, q _ H1 (Same.refl _) (dp_ex e d v hd)⟩
theorem evds_nil : EvDs K tNil σ H [] := fun H1 _ _ q => q _ H1 (Same.refl _) .nil rfl
theorem evds_cons {tr : TA} (h : EvD K te σ H d) (hr : EvDs K tr σ H ds) : EvDs K (tCons te tr) σ H (d :: ds) := fun H1 e _ q =>
  h H1 e _ fun v H2 e2 hv => hr H2 (e.trans e2) _ fun vs H3 e3 hvs hl => q _ H3 (e2.trans e3) (.cons (dp_ex e3 d v hv) hvs) (by rw [List.length_cons, List.length_cons, hl])
theorem evd_tup (h : EvDs K ta σ H ds) (hl : ds.length ≤ 100000) : EvD K (tTup ta) σ H (.tuple ds) := fun H1 e _ q =>
  h H1 e _ fun vs H2 e2 hvs he => ⟨by rw [he]; exact Nat.le_trans hl (by decide), fun p hp => q _ _ (e2.trans (same_nw hp)) (.tup (SqT.of upd_same) (dps_ex (same_nw hp) ds vs hvs))⟩
theorem evd_lst (h : EvDs K ta σ H ds) (hl : ds.length ≤ 100000) : EvD K (tLst ta) σ H (.list ds) := fun H1 e _ q =>
  h H1 e _ fun vs H2 e2 hvs he => ⟨by rw [he]; exact Nat.le_trans hl (by decide), fun p hp => q _ _ (e2.trans (same_nw hp)) (.lst (SqL.of upd_same) (dps_ex (same_nw hp) ds vs hvs))⟩
end
end Fo
set_option Elab.async false
set_option linter.all false
set_option maxRecDepth 100000
set_option maxHeartbeats 2000000
namespace Fo
open PySem L2
/-! ### the text by places -/
/-! ### data -/
theorem xy_ : ¬ (("x" : Str) = "y") := by decide +kernel
theorem yx_ : ¬ (("y" : Str) = "x") := by decide +kernel
def ptF (x y : Int) : List (Str × V) := putF "y" (.int y) (putF "x" (.int x) [])
theorem ptF_x (x y : Int) : (ptF x y).lookup ("x" : Str) = some (.int x) := by
  unfold ptF
  rw [lookup_putF, if_neg xy_, lookup_putF, if_pos rfl]
theorem ptF_y (x y : Int) : (ptF x y).lookup ("y" : Str) = some (.int y) := by
  unfold ptF
  rw [lookup_putF, if_pos rfl]
theorem ptF_no (x y : Int) {m : Str} (h1 : ¬ m = "y") (h2 : ¬ m = "x") : (ptF x y).lookup m = none := by
  unfold ptF
  rw [lookup_putF, if_neg h1, lookup_putF, if_neg h2]
  all_goals rfl
/-- an instance of Point with these numbers -/
def IsP (C : Addr) (v : V) (x y : Int) (H : Hp) : Prop := ∃ a dx, v = .ref a ∧ H a = some (.ins C dx (ptF x y))
/-- it, or a pair that stands for it -/
def IsPt (C : Addr) (v : V) (x y : Int) (H : Hp) : Prop := ∃ a, v = .ref a ∧ ((∃ dx, H a = some (.ins C dx (ptF x y))) ∨ H a = some (.tup [.int x, .int y]))
theorem IsP.ex {C : Addr} {v : V} {x y : Int} {H H' : Hp} (e : Same H H') (h : IsP C v x y H) : IsP C v x y H' := by
  obtain ⟨a, dx, rfl, h⟩ := h
  exact ⟨a, dx, rfl, e _ _ h⟩
theorem IsPt.ex {C : Addr} {v : V} {x y : Int} {H H' : Hp} (e : Same H H') (h : IsPt C v x y H) : IsPt C v x y H' := by
  obtain ⟨a, rfl, h⟩ := h
  rcases h with ⟨dx, h⟩ | h
  · exact ⟨a, rfl, .inl ⟨dx, e _ _ h⟩⟩
  · exact ⟨a, rfl, .inr (e _ _ h)⟩
theorem IsP.pt {C : Addr} {v : V} {x y : Int} {H : Hp} (h : IsP C v x y H) : IsPt C v x y H := by
  obtain ⟨a, dx, rfl, h⟩ := h
  exact ⟨a, rfl, .inl ⟨dx, h⟩⟩
theorem same_new {H : Hp} {p : Addr} {o : HO} (h : H p = none) : Same H (upd H p o) := fun a u e => by
  rw [upd_ne (ne_of_none e h)]
  exact e
def Sm (n : Nat) (x : Int) : Prop := x.natAbs < 2 ^ n
theorem Sm.mul {n : Nat} {x y : Int} (hx : Sm n x) (hy : Sm n y) (h0 : 0 < n) (h1 : n ≤ 1000) : CMulW x y := wide_mul hx hy h0 h0 (by omega)
theorem Sm.sub {n : Nat} {x y : Int} (hx : Sm n x) (hy : Sm n y) : Sm (n + 1) (x - y) := by
  unfold Sm at *
  rw [Nat.pow_succ]
  omega
theorem Sm.up {n m : Nat} {x : Int} (hx : Sm n x) (h : n ≤ m) : Sm m x := Nat.lt_of_lt_of_le hx (Nat.pow_le_pow_right (by decide) h)
/-! ### promises -/
def spWhole : Sp := fun vs H Q _ => ∃ i : Int, vs = [.int i] ∧ Q (.bl true) H
def spInit (C : Addr) : Sp := fun vs H Q _ => ∃ (p dx : Addr) (x y : Int), vs = [.ref p, .int x, .int y] ∧ H p = some (.ins C dx []) ∧ Q .non (upd (upd H p (.ins C dx (putF "x" (.int x) []))) p (.ins C dx (ptF x y)))
def spIsPoint (C : Addr) : Sp := fun vs H Q _ => ∃ (v : V) (x y : Int), vs = [v] ∧ IsPt C v x y H ∧ Q (.bl true) H
def spAsPoint (C : Addr) : Sp := fun vs H Q _ => ∃ (v : V) (x y : Int), vs = [v] ∧ IsPt C v x y H ∧ ∀ w H', Same H H' → IsP C w x y H' → (IsP C v x y H → w = v) → Q w H'
def spBin (C : Addr) (g : Int → Int → Int) : Sp := fun vs H Q _ => ∃ (v u : V) (x y z t : Int), vs = [v, u] ∧ IsP C v x y H ∧ IsPt C u z t H ∧ ∀ w H', Same H H' → IsP C w (g x z) (g y t) H' → Q w H'
def spCross (C : Addr) : Sp := fun vs H Q _ => ∃ (n : Nat) (v u : V) (x y z t : Int), vs = [v, u] ∧ IsP C v x y H ∧ IsPt C u z t H ∧ 0 < n ∧ n ≤ 1000 ∧ Sm n x ∧ Sm n y ∧ Sm n z ∧ Sm n t ∧ ∀ H', Same H H' → Q (.int (x * t - y * z)) H'
def sideI (ax ay bx by' px py : Int) : Int := (bx - ax) * (py - ay) - (by' - ay) * (px - ax)
def spSide (C : Addr) : Sp := fun vs H Q _ => ∃ (n : Nat) (a b p : V) (ax ay bx by' px py : Int), vs = [a, b, p] ∧ IsPt C a ax ay H ∧ IsPt C b bx by' H ∧ IsPt C p px py H ∧ n < 1000 ∧
  Sm n ax ∧ Sm n ay ∧ Sm n bx ∧ Sm n by' ∧ Sm n px ∧ Sm n py ∧ ∀ H', Same H H' → Q (.int (sideI ax ay bx by' px py)) H'
def spQuarter (C : Addr) : Sp := fun vs H Q _ => ∃ (v : V) (x y : Int), vs = [v] ∧ IsPt C v x y H ∧ ∀ w H', Same H H' → IsP C w (-y) x H' → Q w H'
/-- what the top has written of Point -/
structure Txt (K : PySem.W.Frag) (mg : Str → Option Value) (C : Addr) : Prop where
  cl : Cls K C
  nX : NoAttr K C "x"
  nY : NoAttr K C "y"
  mgC : mg "Point" = some (.ref C)
  isi : mg "isinstance" = none
  len : mg "len" = none
  int : mg "int" = none
  bool : mg "bool" = none
  tuple : mg "tuple" = none
  ha : PySem.W.findIn K (.ref C) "__class__" = some (some (.builtin "object.__class__"))
  hn : PySem.W.specialIn K (.builtin "object.__class__") "__get__" = some (some (.builtin "getset_descriptor.__get__"))
  htk : PySem.W.takesIn K (.builtin "object.__class__") = some true
  hm : PySem.W.mroIn K C (.type "object") = some true
  kTC : PySem.W.kitOne K (.type "tuple") (.ref C) = some false
  kCC : PySem.W.kitOne K (.ref C) (.ref C) = some true
section
variable {P : Program} {w : World} {K : PySem.W.Frag} {mg : Str → Option Value} {base : Heap}
theorem scWhole : FnScope ["value"] ["value"] (defScope sWhole) := ⟨rfl, rfl, rfl, by decide +kernel, rfl, by decide +kernel, by decide +kernel⟩
theorem ok_whole {f C : Addr} {fd : FuncData} (F : Fun K "is_whole" "is_whole" sWhole f fd) (T : Txt K mg C) : FnOk P w K mg base CX0 1 f fd ["value"] spWhole := by
  refine F.ok scWhole (fun vs H Q E h => ?_) (fun cdv A outer s H vs Q E hr h => ?_)
  · obtain ⟨i, rfl, _⟩ := h
    rfl
  · obtain ⟨i, rfl, k⟩ := h
    refine ⟨_, pss_one (ps_ret (pe_and (pe_callB call_isi (by rfl) T.isi (by decide +kernel) (pa_cons (pv 0) (pa_cons (pe_bltn (v := .ty "int") (by rfl) T.int (by decide +kernel) rfl) pa_nil)))
      (pe_one (pe_not (pe_callB call_isi (by rfl) T.isi (by decide +kernel) (pa_cons (pv 0) (pa_cons (pe_bltn (v := .ty "bool") (by rfl) T.bool (by decide +kernel) rfl) pa_nil))))))), ?_⟩
    refine ⟨_, rfl, _, _, _, _, true, rfl, .ty _, .base (.int i), kit_ty (by decide +kernel), true, rfl, ?_⟩
    refine iteT ?_
    exact ⟨_, rfl, _, _, _, _, false, rfl, .ty _, .base (.int i), kit_ty (by decide +kernel), false, rfl, k⟩

theorem scInit : FnScope ["self", "x", "y"] ["self", "x", "y"] (defScope sInit) := ⟨rfl, rfl, rfl, by decide +kernel, rfl, by decide +kernel, by decide +kernel⟩
theorem ok_init {f C fW : Addr} {fd fdW : FuncData} (F : Fun K "__init__" "Point.__init__" sInit f fd) (T : Txt K mg C) (FW : Fun K "is_whole" "is_whole" sWhole fW fdW) (bW : Binds K fdW ["value"] []) (mW : mg "is_whole" = some (.ref fW)) :
    FnOk P w K mg base CX0 2 f fd ["self", "x", "y"] (spInit C) := by
  have GW : FnOk P w K mg base CX0 1 fW fdW ["value"] spWhole := ok_whole FW T
  refine F.ok scInit (fun vs H Q E h => ?_) (fun cdv A outer s H vs Q E hr h => ?_)
  · obtain ⟨p, dx, x, y, rfl, _⟩ := h
    rfl
  · obtain ⟨p, dx, x, y, rfl, hp, k⟩ := h
    refine ⟨_, pss_cons (ps_if (PW.pt (pw_or (pt_not (pt_val (pe_call GW hr rfl mW FW.kp bW .nil pass0 (pa_cons (pv 1) pa_nil)))) (pw_or1 (pt_not (pt_val (pe_call GW hr rfl mW FW.kp bW .nil pass0 (pa_cons (pv 2) pa_nil))))))) (pss_one ps_never) pss_nil)
      (pss_cons (ps_fld (pv 0) (pv 1) rfl) (pss_one (ps_fld (pv 0) (pv 2) rfl))), ?_⟩
    refine ⟨_, rfl, x, rfl, true, rfl, ?_⟩
    refine iteF ?_
    refine ⟨_, rfl, y, rfl, true, rfl, ?_⟩
    refine iteF ?_
    refine ⟨_, rfl, _, rfl, p, C, dx, [], rfl, hp, T.cl, T.nX, (by show 0 < 1000; decide), ?_⟩
    refine ⟨_, rfl, _, rfl, p, C, dx, _, rfl, upd_same, T.cl, T.nY, (by show 1 < 1000; decide), ?_⟩
    exact k
theorem ty_ins {C a dx : Addr} {fs : List (Str × V)} {H : Hp} (T : Txt K mg C) (h : H a = some (.ins C dx fs)) : TyX K H (.ref a) (.ref C) := .base (.ins h T.cl T.ha T.hn T.htk T.hm)
theorem scIsPoint : FnScope ["thing"] ["thing"] (defScope sIsPoint) := ⟨rfl, rfl, rfl, by decide +kernel, rfl, by decide +kernel, by decide +kernel⟩
theorem ok_is_point {f C fW : Addr} {fd fdW : FuncData} (F : Fun K "is_point" "is_point" sIsPoint f fd) (T : Txt K mg C) (FW : Fun K "is_whole" "is_whole" sWhole fW fdW) (bW : Binds K fdW ["value"] []) (mW : mg "is_whole" = some (.ref fW)) :
    FnOk P w K mg base CX0 2 f fd ["thing"] (spIsPoint C) := by
  have GW : FnOk P w K mg base CX0 1 fW fdW ["value"] spWhole := ok_whole FW T
  refine F.ok scIsPoint (fun vs H Q E h => ?_) (fun cdv A outer s H vs Q E hr h => ?_)
  · obtain ⟨v, x, y, rfl, _⟩ := h
    rfl
  · obtain ⟨v, x, y, rfl, ⟨a, rfl, hv⟩, k⟩ := h
    refine ⟨_, pss_cons (ps_if (pt_val (pe_callB call_isi (by rfl) T.isi (by decide +kernel) (pa_cons (pv 0) (pa_cons (pe_glob (v := .ref C) rfl T.mgC rfl) pa_nil)))) (pss_one (ps_ret pe_bl)) pss_nil)
      (pss_one (ps_ret (pe_and (pe_callB call_isi (by rfl) T.isi (by decide +kernel) (pa_cons (pv 0) (pa_cons (pe_bltn (v := .ty "tuple") (by rfl) T.tuple (by decide +kernel) rfl) pa_nil)))
        (pe_and (pe_cmpR op_eq (pe_callB call_len_seq (by rfl) T.len PySem.boot_len (pa_cons (pv 0) pa_nil)) pe_int (nomark _))
        (pe_and (pe_call GW hr rfl mW FW.kp bW .nil pass0 (pa_cons (pe_ix ix_tup (pv 0) pe_int (fun _ _ => rfl)) pa_nil))
        (pe_one (pe_call GW hr rfl mW FW.kp bW .nil pass0 (pa_cons (pe_ix ix_tup (pv 0) pe_int (fun _ _ => rfl)) pa_nil)))))))), ?_⟩
    rcases hv with ⟨dx, hv⟩ | hv
    · refine ⟨_, rfl, _, _, _, _, true, rfl, .own C, ty_ins T hv, T.kCC, true, rfl, ?_⟩
      refine iteT ?_
      exact k
    · refine ⟨_, rfl, _, _, _, _, false, rfl, .own C, .base (.tup hv), T.kTC, false, rfl, ?_⟩
      refine iteF ?_
      refine ⟨_, rfl, _, _, _, _, true, rfl, .ty _, .base (.tup hv), kit_ty (by decide +kernel), true, rfl, ?_⟩
      refine iteT ?_
      refine ⟨_, rfl, a, _, rfl, .inr (SqT.of hv), rfl, true, rfl, ?_⟩
      refine iteT ?_
      refine ⟨_, rfl, a, _, _, _, rfl, rfl, SqT.of hv, atI_nat (j := 0) rfl, x, rfl, true, rfl, ?_⟩
      refine iteT ?_
      exact ⟨_, rfl, a, _, _, _, rfl, rfl, SqT.of hv, atI_nat (j := 1) rfl, y, rfl, k⟩

/-- a new Point -/
theorem made_same {C x dx : Addr} {H : Hp} {X Y : Int} (nx : H x = none) (nd : H dx = none) : Same H (upd (upd (upd (upd H dx (.own x)) x (.ins C dx [])) x (.ins C dx (putF "x" (.int X) []))) x (.ins C dx (ptF X Y))) := fun b o e => by
  have n1 : b ≠ x := ne_of_none e nx
  have n2 : b ≠ dx := ne_of_none e nd
  rw [upd_ne n1, upd_ne n1, upd_ne n1, upd_ne n2]
  exact e
theorem made_is {C x dx : Addr} {H : Hp} {X Y : Int} : IsP C (.ref x) X Y (upd (upd (upd (upd H dx (.own x)) x (.ins C dx [])) x (.ins C dx (putF "x" (.int X) []))) x (.ins C dx (ptF X Y))) := ⟨x, dx, rfl, upd_same⟩
/-- Point(a, b) of two numbers: spInit's reading at a new instance -/
theorem make_pt {C : Addr} {H : Hp} {X Y : Int} {Q : VK} {E : XK} (k : ∀ v H', Same H H' → IsP C v X Y H' → Q v H') :
    ∀ x dx, H x = none → H dx = none → dx ≠ x → spInit C (.ref x :: ([.int X, .int Y] ++ [])) (upd (upd H dx (.own x)) x (.ins C dx [])) (fun v H2 => v = .non ∧ Q (.ref x) H2) E := fun x dx nx nd _ =>
  ⟨x, dx, X, Y, rfl, upd_same, rfl, k _ _ (made_same nx nd) made_is⟩
/-- the program's defs that others call, as they stand -/
structure Defs (K : PySem.W.Frag) (mg : Str → Option Value) (C fW fI fP fA fO : Addr) (fdW fdI fdP fdA fdO : FuncData) : Prop where
  T : Txt K mg C
  FW : Fun K "is_whole" "is_whole" sWhole fW fdW
  bW : Binds K fdW ["value"] []
  mW : mg "is_whole" = some (.ref fW)
  M : Mk K C fI
  FI : Fun K "__init__" "Point.__init__" sInit fI fdI
  bI : Binds K fdI ["self", "x", "y"] []
  FP : Fun K "is_point" "is_point" sIsPoint fP fdP
  bP : Binds K fdP ["thing"] []
  mP : mg "is_point" = some (.ref fP)
  FA : Fun K "as_point" "as_point" sAsPoint fA fdA
  bA : Binds K fdA ["thing"] []
  mA : mg "as_point" = some (.ref fA)
  FO : Fun K "operand" "operand" sOperand fO fdO
  bO : Binds K fdO ["thing"] []
  mO : mg "operand" = some (.ref fO)
variable {C fW fI fP fA fO : Addr} {fdW fdI fdP fdA fdO : FuncData}
theorem Defs.GW (D : Defs K mg C fW fI fP fA fO fdW fdI fdP fdA fdO) : FnOk P w K mg base CX0 1 fW fdW ["value"] spWhole := ok_whole D.FW D.T
theorem Defs.GI (D : Defs K mg C fW fI fP fA fO fdW fdI fdP fdA fdO) : FnOk P w K mg base CX0 2 fI fdI ["self", "x", "y"] (spInit C) := ok_init D.FI D.T D.FW D.bW D.mW
theorem Defs.GP (D : Defs K mg C fW fI fP fA fO fdW fdI fdP fdA fdO) : FnOk P w K mg base CX0 2 fP fdP ["thing"] (spIsPoint C) := ok_is_point D.FP D.T D.FW D.bW D.mW
theorem scAsPoint : FnScope ["thing"] ["thing"] (defScope sAsPoint) := ⟨rfl, rfl, rfl, by decide +kernel, rfl, by decide +kernel, by decide +kernel⟩
theorem Defs.GA (D : Defs K mg C fW fI fP fA fO fdW fdI fdP fdA fdO) : FnOk P w K mg base CX0 4 fA fdA ["thing"] (spAsPoint C) := by
  have GP : FnOk P w K mg base CX0 2 fP fdP ["thing"] (spIsPoint C) := D.GP
  have GI : FnOk P w K mg base CX0 2 fI fdI ["self", "x", "y"] (spInit C) := D.GI
  have T := D.T
  refine D.FA.ok scAsPoint (fun vs H Q E h => ?_) (fun cdv A outer s H vs Q E hr h => ?_)
  · obtain ⟨v, x, y, rfl, _⟩ := h
    rfl
  · obtain ⟨v, x, y, rfl, hp, k⟩ := h
    refine ⟨_, pss_cons (ps_if (pt_not (pt_val (pe_call GP (hr.mono (by decide)) rfl D.mP D.FP.kp D.bP .nil pass0 (pa_cons (pv 0) pa_nil)))) (pss_one ps_never) pss_nil)
      (pss_cons (ps_if (pt_val (pe_callB call_isi (by rfl) T.isi (by decide +kernel) (pa_cons (pv 0) (pa_cons (pe_glob (v := .ref C) rfl T.mgC rfl) pa_nil)))) (pss_one (ps_ret (pv 0))) pss_nil)
      (pss_one (ps_ret (pe_make D.M GI hr rfl T.mgC D.bI .nil pass0 (pa_cons (pe_ix ix_tup (pv 0) pe_int (fun _ _ => rfl)) (pa_cons (pe_ix ix_tup (pv 0) pe_int (fun _ _ => rfl)) pa_nil)))))), ?_⟩
    refine ⟨_, rfl, v, x, y, rfl, hp, true, rfl, ?_⟩
    refine iteF ?_
    obtain ⟨a, rfl, hv⟩ := hp
    rcases hv with ⟨dx, hv⟩ | hv
    · refine ⟨_, rfl, _, _, _, _, true, rfl, .own C, ty_ins T hv, T.kCC, true, rfl, ?_⟩
      refine iteT ?_
      exact ⟨_, rfl, k _ _ (Same.refl _) ⟨a, dx, rfl, hv⟩ fun _ => rfl⟩
    · refine ⟨_, rfl, _, _, _, _, false, rfl, .own C, .base (.tup hv), T.kTC, false, rfl, ?_⟩
      refine iteF ?_
      refine ⟨_, rfl, a, _, _, _, rfl, rfl, SqT.of hv, atI_nat (j := 0) rfl, _, rfl, a, _, _, _, rfl, rfl, SqT.of hv, atI_nat (j := 1) rfl, ?_⟩
      refine make_pt fun v H2 e2 h2 => k v H2 e2 h2 fun hp => ?_
      obtain ⟨b, dy, q1, q2⟩ := hp
      cases q1
      rw [hv] at q2
      cases q2
theorem scOperand : FnScope ["thing"] ["thing"] (defScope sOperand) := ⟨rfl, rfl, rfl, by decide +kernel, rfl, by decide +kernel, by decide +kernel⟩
theorem Defs.GO (D : Defs K mg C fW fI fP fA fO fdW fdI fdP fdA fdO) : FnOk P w K mg base CX0 5 fO fdO ["thing"] (spAsPoint C) := by
  have GP : FnOk P w K mg base CX0 2 fP fdP ["thing"] (spIsPoint C) := D.GP
  have GA : FnOk P w K mg base CX0 4 fA fdA ["thing"] (spAsPoint C) := D.GA
  refine D.FO.ok scOperand (fun vs H Q E h => ?_) (fun cdv A outer s H vs Q E hr h => ?_)
  · obtain ⟨v, x, y, rfl, _⟩ := h
    rfl
  · obtain ⟨v, x, y, rfl, hp, k⟩ := h
    refine ⟨_, pss_cons (ps_if (pt_not (pt_val (pe_call GP (hr.mono (by decide)) rfl D.mP D.FP.kp D.bP .nil pass0 (pa_cons (pv 0) pa_nil)))) (pss_one ps_never) pss_nil)
      (pss_one (ps_ret (pe_call GA hr rfl D.mA D.FA.kp D.bA .nil pass0 (pa_cons (pv 0) pa_nil)))), ?_⟩
    refine ⟨_, rfl, v, x, y, rfl, hp, true, rfl, ?_⟩
    refine iteF ?_
    exact ⟨_, rfl, v, x, y, rfl, hp, k⟩
theorem scAdd : FnScope ["self", "other", "by"] ["self", "other"] (defScope sAdd) := ⟨rfl, rfl, rfl, by decide +kernel, rfl, by decide +kernel, by decide +kernel⟩
theorem ok_add {f : Addr} {fd : FuncData} (F : Fun K "__add__" "Point.__add__" sAdd f fd) (D : Defs K mg C fW fI fP fA fO fdW fdI fdP fdA fdO) : FnOk P w K mg base CX0 6 f fd ["self", "other"] (spBin C (· + ·)) := by
  have GO : FnOk P w K mg base CX0 5 fO fdO ["thing"] (spAsPoint C) := D.GO
  have GI : FnOk P w K mg base CX0 2 fI fdI ["self", "x", "y"] (spInit C) := D.GI
  have T := D.T
  refine F.ok scAdd (fun vs H Q E h => ?_) (fun cdv A outer s H vs Q E hr h => ?_)
  · obtain ⟨v, u, x, y, z, t, rfl, _⟩ := h
    rfl
  · obtain ⟨v, u, x, y, z, t, rfl, hv, hu, k⟩ := h
    refine ⟨_, pss_cons (ps_set (i := 2) scAdd.nd rfl (Or.inl rfl) (pe_call GO hr rfl D.mO D.FO.kp D.bO .nil pass0 (pa_cons (pv 1) pa_nil)))
      (pss_one (ps_ret (pe_make D.M GI (hr.mono (by decide)) rfl T.mgC D.bI .nil pass0 (pa_cons (pe_op op_add (pe_fld (pv 0) rfl) (pe_fld (pv 2) rfl)) (pa_cons (pe_op op_add (pe_fld (pv 0) rfl) (pe_fld (pv 2) rfl)) pa_nil))))), ?_⟩
    refine ⟨_, rfl, u, z, t, rfl, hu, fun w H' e hw _ => ?_⟩
    obtain ⟨a, dx, rfl, ha⟩ := hv.ex e
    obtain ⟨b, dy, rfl, hb⟩ := hw
    refine ⟨_, rfl, a, C, dx, _, _, rfl, ha, T.cl, T.nX, ptF_x _ _, _, rfl, b, C, dy, _, _, rfl, hb, T.cl, T.nX, ptF_x _ _, _, _, rfl, rfl, ?_⟩
    refine ⟨_, rfl, a, C, dx, _, _, rfl, ha, T.cl, T.nY, ptF_y _ _, _, rfl, b, C, dy, _, _, rfl, hb, T.cl, T.nY, ptF_y _ _, _, _, rfl, rfl, ?_⟩
    exact make_pt fun v H2 e2 h2 => k v H2 (e.trans e2) h2
theorem scSub : FnScope ["self", "other", "by"] ["self", "other"] (defScope sSub) := ⟨rfl, rfl, rfl, by decide +kernel, rfl, by decide +kernel, by decide +kernel⟩
theorem ok_sub {f : Addr} {fd : FuncData} (F : Fun K "__sub__" "Point.__sub__" sSub f fd) (D : Defs K mg C fW fI fP fA fO fdW fdI fdP fdA fdO) : FnOk P w K mg base CX0 6 f fd ["self", "other"] (spBin C (· - ·)) := by
  have GO : FnOk P w K mg base CX0 5 fO fdO ["thing"] (spAsPoint C) := D.GO
  have GI : FnOk P w K mg base CX0 2 fI fdI ["self", "x", "y"] (spInit C) := D.GI
  have T := D.T
  refine F.ok scSub (fun vs H Q E h => ?_) (fun cdv A outer s H vs Q E hr h => ?_)
  · obtain ⟨v, u, x, y, z, t, rfl, _⟩ := h
    rfl
  · obtain ⟨v, u, x, y, z, t, rfl, hv, hu, k⟩ := h
    refine ⟨_, pss_cons (ps_set (i := 2) scSub.nd rfl (Or.inl rfl) (pe_call GO hr rfl D.mO D.FO.kp D.bO .nil pass0 (pa_cons (pv 1) pa_nil)))
      (pss_one (ps_ret (pe_make D.M GI (hr.mono (by decide)) rfl T.mgC D.bI .nil pass0 (pa_cons (pe_op op_sub (pe_fld (pv 0) rfl) (pe_fld (pv 2) rfl)) (pa_cons (pe_op op_sub (pe_fld (pv 0) rfl) (pe_fld (pv 2) rfl)) pa_nil))))), ?_⟩
    refine ⟨_, rfl, u, z, t, rfl, hu, fun w H' e hw _ => ?_⟩
    obtain ⟨a, dx, rfl, ha⟩ := hv.ex e
    obtain ⟨b, dy, rfl, hb⟩ := hw
    refine ⟨_, rfl, a, C, dx, _, _, rfl, ha, T.cl, T.nX, ptF_x _ _, _, rfl, b, C, dy, _, _, rfl, hb, T.cl, T.nX, ptF_x _ _, _, _, rfl, rfl, ?_⟩
    refine ⟨_, rfl, a, C, dx, _, _, rfl, ha, T.cl, T.nY, ptF_y _ _, _, rfl, b, C, dy, _, _, rfl, hb, T.cl, T.nY, ptF_y _ _, _, _, rfl, rfl, ?_⟩
    exact make_pt fun v H2 e2 h2 => k v H2 (e.trans e2) h2
theorem IsPt.opnd {v : V} {x y : Int} {H : Hp} (h : IsPt C v x y H) : (∃ b dy gs, v = .ref b ∧ H b = some (.ins C dy gs)) ∨ ∃ b xs, v = .ref b ∧ H b = some (.tup xs) := by
  obtain ⟨a, rfl, h⟩ := h
  rcases h with ⟨dx, h⟩ | h
  · exact .inl ⟨a, dx, _, rfl, h⟩
  · exact .inr ⟨a, _, rfl, h⟩
theorem cross_no (x y : Int) : (ptF x y).lookup ("cross" : Str) = none := ptF_no _ _ (by decide +kernel) (by decide +kernel)
theorem scSide : FnScope ["a", "b", "point", "start", "end", "place"] ["a", "b", "point"] (defScope sSide) := ⟨rfl, rfl, rfl, by decide +kernel, rfl, by decide +kernel, by decide +kernel⟩
theorem ok_side {f : Addr} {fd : FuncData} (F : Fun K "side" "side" sSide f fd) (D : Defs K mg C fW fI fP fA fO fdW fdI fdP fdA fdO) : FnOk P w K mg base CX0 7 f fd ["a", "b", "point"] (spSide C) := by
  have GA : FnOk P w K mg base CX0 4 fA fdA ["thing"] (spAsPoint C) := D.GA
  have T := D.T
  refine F.ok scSide (fun vs H Q E h => ?_) (fun cdv A outer s H vs Q E hr h => ?_)
  · obtain ⟨n, a, b, p, ax, ay, bx, by', px, py, rfl, _⟩ := h
    rfl
  · obtain ⟨n, a, b, p, ax, ay, bx, by', px, py, rfl, ha, hb, hp, n1, s1, s2, s3, s4, s5, s6, k⟩ := h
    have hr4 : Room 4 _ := hr.mono (by decide)
    refine ⟨_, pss_cons (ps_set (i := 3) scSide.nd rfl (Or.inl rfl) (pe_call GA hr4 rfl D.mA D.FA.kp D.bA .nil pass0 (pa_cons (pv 0) pa_nil)))
      (pss_cons (ps_set (i := 4) scSide.nd rfl (Or.inl rfl) (pe_call GA hr4 rfl D.mA D.FA.kp D.bA .nil pass0 (pa_cons (pv 1) pa_nil)))
      (pss_cons (ps_set (i := 5) scSide.nd rfl (Or.inl rfl) (pe_call GA hr4 rfl D.mA D.FA.kp D.bA .nil pass0 (pa_cons (pv 2) pa_nil)))
      (pss_one (ps_ret (pe_op op_sub
        (pe_op op_mulW (pe_op op_sub (pe_fld (pv 4) rfl) (pe_fld (pv 3) rfl)) (pe_op op_sub (pe_fld (pv 5) rfl) (pe_fld (pv 3) rfl)))
        (pe_op op_mulW (pe_op op_sub (pe_fld (pv 4) rfl) (pe_fld (pv 3) rfl)) (pe_op op_sub (pe_fld (pv 5) rfl) (pe_fld (pv 3) rfl)))))))), ?_⟩
    refine ⟨_, rfl, a, ax, ay, rfl, ha, fun w1 H1 e1 h1 _ => ?_⟩
    refine ⟨_, rfl, b, bx, by', rfl, hb.ex e1, fun w2 H2 e2 h2 _ => ?_⟩
    refine ⟨_, rfl, p, px, py, rfl, hp.ex (e1.trans e2), fun w3 H3 e3 h3 _ => ?_⟩
    obtain ⟨a1, d1, rfl, z1⟩ := (h1.ex e2).ex e3
    obtain ⟨a2, d2, rfl, z2⟩ := h2.ex e3
    obtain ⟨a3, d3, rfl, z3⟩ := h3
    refine ⟨_, rfl, a2, C, d2, _, _, rfl, z2, T.cl, T.nX, ptF_x _ _, _, rfl, a1, C, d1, _, _, rfl, z1, T.cl, T.nX, ptF_x _ _, _, _, rfl, rfl, ?_⟩
    refine ⟨_, rfl, a3, C, d3, _, _, rfl, z3, T.cl, T.nY, ptF_y _ _, _, rfl, a1, C, d1, _, _, rfl, z1, T.cl, T.nY, ptF_y _ _, _, _, rfl, rfl, ?_⟩
    refine ⟨_, _, rfl, rfl, (s3.sub s1).mul (s6.sub s2) (Nat.succ_pos _) n1, ?_⟩
    refine ⟨_, rfl, a2, C, d2, _, _, rfl, z2, T.cl, T.nY, ptF_y _ _, _, rfl, a1, C, d1, _, _, rfl, z1, T.cl, T.nY, ptF_y _ _, _, _, rfl, rfl, ?_⟩
    refine ⟨_, rfl, a3, C, d3, _, _, rfl, z3, T.cl, T.nX, ptF_x _ _, _, rfl, a1, C, d1, _, _, rfl, z1, T.cl, T.nX, ptF_x _ _, _, _, rfl, rfl, ?_⟩
    refine ⟨_, _, rfl, rfl, (s4.sub s2).mul (s5.sub s1) (Nat.succ_pos _) n1, ?_⟩
    exact ⟨_, _, rfl, rfl, k _ ((e1.trans e2).trans e3)⟩
def spMul (C : Addr) : Sp := fun vs H Q _ => ∃ (v : V) (x y m : Int), vs = [v, .int m] ∧ IsP C v x y H ∧ CMulW x m ∧ CMulW y m ∧ ∀ w H', Same H H' → IsP C w (x * m) (y * m) H' → Q w H'
theorem scMul : FnScope ["self", "other"] ["self", "other"] (defScope sMul) := ⟨rfl, rfl, rfl, by decide +kernel, rfl, by decide +kernel, by decide +kernel⟩
theorem ok_mul {f : Addr} {fd : FuncData} (F : Fun K "__mul__" "Point.__mul__" sMul f fd) (D : Defs K mg C fW fI fP fA fO fdW fdI fdP fdA fdO) : FnOk P w K mg base CX0 4 f fd ["self", "other"] (spMul C) := by
  have GW : FnOk P w K mg base CX0 1 fW fdW ["value"] spWhole := D.GW
  have GI : FnOk P w K mg base CX0 2 fI fdI ["self", "x", "y"] (spInit C) := D.GI
  have T := D.T
  refine F.ok scMul (fun vs H Q E h => ?_) (fun cdv A outer s H vs Q E hr h => ?_)
  · obtain ⟨v, x, y, m, rfl, _⟩ := h
    rfl
  · obtain ⟨v, x, y, m, rfl, hv, c1, c2, k⟩ := h
    refine ⟨_, pss_cons (ps_if (pt_not (pt_val (pe_call GW (hr.mono (by decide)) rfl D.mW D.FW.kp D.bW .nil pass0 (pa_cons (pv 1) pa_nil)))) (pss_one ps_never) pss_nil)
      (pss_one (ps_ret (pe_make D.M GI hr rfl T.mgC D.bI .nil pass0 (pa_cons (pe_op op_mulW (pe_fld (pv 0) rfl) (pv 1)) (pa_cons (pe_op op_mulW (pe_fld (pv 0) rfl) (pv 1)) pa_nil))))), ?_⟩
    refine ⟨_, rfl, m, rfl, true, rfl, ?_⟩
    refine iteF ?_
    obtain ⟨a, dx, rfl, ha⟩ := hv
    refine ⟨_, rfl, a, C, dx, _, _, rfl, ha, T.cl, T.nX, ptF_x _ _, _, rfl, _, _, rfl, rfl, c1, ?_⟩
    refine ⟨_, rfl, a, C, dx, _, _, rfl, ha, T.cl, T.nY, ptF_y _ _, _, rfl, _, _, rfl, rfl, c2, ?_⟩
    exact make_pt k
def spEqP (C : Addr) : Sp := fun vs H Q _ => ∃ (v u : V) (x y z t : Int), vs = [v, u] ∧ IsP C v x y H ∧ ((IsP C u z t H ∧ Q (.bl (decide (x = z) && decide (y = t))) H) ∨ ((∃ b xs, u = .ref b ∧ H b = some (.tup xs)) ∧ Q (.bl false) H))
theorem scEq : FnScope ["self", "other"] ["self", "other"] (defScope sEq) := ⟨rfl, rfl, rfl, by decide +kernel, rfl, by decide +kernel, by decide +kernel⟩
theorem ok_eq {f : Addr} {fd : FuncData} (F : Fun K "__eq__" "Point.__eq__" sEq f fd) (T : Txt K mg C) : FnOk P w K mg base CX0 1 f fd ["self", "other"] (spEqP C) := by
  refine F.ok scEq (fun vs H Q E h => ?_) (fun cdv A outer s H vs Q E hr h => ?_)
  · obtain ⟨v, u, x, y, z, t, rfl, _⟩ := h
    rfl
  · obtain ⟨v, u, x, y, z, t, rfl, ⟨a, dx, rfl, ha⟩, hu⟩ := h
    refine ⟨_, pss_one (ps_ret (pe_and (pe_callB call_isi (by rfl) T.isi (by decide +kernel) (pa_cons (pv 1) (pa_cons (pe_glob (v := .ref C) rfl T.mgC rfl) pa_nil)))
      (pe_and (pe_cmpR op_eq (pe_fld (pv 0) rfl) (pe_fld (pv 1) rfl) (nomark _)) (pe_one (pe_cmpR op_eq (pe_fld (pv 0) rfl) (pe_fld (pv 1) rfl) (nomark _)))))), ?_⟩
    rcases hu with ⟨⟨b, dy, rfl, hb⟩, k⟩ | ⟨⟨b, xs, rfl, hb⟩, k⟩
    · refine ⟨_, rfl, _, _, _, _, true, rfl, .own C, ty_ins T hb, T.kCC, true, rfl, ?_⟩
      refine iteT ?_
      refine ⟨_, rfl, a, C, dx, _, _, rfl, ha, T.cl, T.nX, ptF_x _ _, _, rfl, b, C, dy, _, _, rfl, hb, T.cl, T.nX, ptF_x _ _, rfl, _, rfl, ?_⟩
      have ei : ∀ i j : Int, decide (V.int i = V.int j) = decide (i = j) := fun i j => by
        by_cases h : i = j
        · rw [h, decide_eq_true rfl, decide_eq_true rfl]
        · rw [decide_eq_false h, decide_eq_false (fun q => h (by cases q; rfl))]
      rw [ei x z]
      by_cases hxz : x = z
      · rw [decide_eq_true hxz] at *
        refine iteT ?_
        refine ⟨_, rfl, a, C, dx, _, _, rfl, ha, T.cl, T.nY, ptF_y _ _, _, rfl, b, C, dy, _, _, rfl, hb, T.cl, T.nY, ptF_y _ _, rfl, ?_⟩
        rw [ei y t]
        simpa using k
      · rw [decide_eq_false hxz] at *
        refine iteF ?_
        simpa using k
    · refine ⟨_, rfl, _, _, _, _, false, rfl, .own C, .base (.tup hb), T.kTC, false, rfl, ?_⟩
      refine iteF ?_
      exact k
def spPairM (C : Addr) : Sp := fun vs H Q _ => ∃ (v : V) (x y : Int), vs = [v] ∧ IsP C v x y H ∧ ∀ q H', H q = none → Same H H' → H' q = some (.tup [.int x, .int y]) → Q (.ref q) H'
theorem scPairM : FnScope ["self"] ["self"] (defScope sPairM) := ⟨rfl, rfl, rfl, by decide +kernel, rfl, by decide +kernel, by decide +kernel⟩
theorem ok_pairM {f : Addr} {fd : FuncData} (F : Fun K "pair" "Point.pair" sPairM f fd) (T : Txt K mg C) : FnOk P w K mg base CX0 1 f fd ["self"] (spPairM C) := by
  refine F.ok scPairM (fun vs H Q E h => ?_) (fun cdv A outer s H vs Q E hr h => ?_)
  · obtain ⟨v, x, y, rfl, _⟩ := h
    rfl
  · obtain ⟨v, x, y, rfl, ⟨a, dx, rfl, ha⟩, k⟩ := h
    refine ⟨_, pss_one (ps_ret (pe_tup (pa_cons (pe_fld (pv 0) rfl) (pa_cons (pe_fld (pv 0) rfl) pa_nil)))), ?_⟩
    refine ⟨_, rfl, a, C, dx, _, _, rfl, ha, T.cl, T.nX, ptF_x _ _, _, rfl, a, C, dx, _, _, rfl, ha, T.cl, T.nY, ptF_y _ _, (by show 2 ≤ sizeLine; decide), fun t nt => ?_⟩
    exact k t _ nt (same_new nt) upd_same
end
end Fo
set_option Elab.async false
set_option linter.all false
set_option maxRecDepth 100000
set_option maxHeartbeats 2000000
namespace Fo
open PySem L2
/-! ### filledonce.points where it raises -/
def Scal : V → Prop
  | .non => True
  | .bl _ => True
  | .int _ => True
  | .str _ => True
  | _ => False
def wholeV : V → Bool
  | .int _ => true
  | _ => false
/-- what is no point: one of some kinds -/
inductive Bad (H : Hp) : V → Prop
  | non : Bad H .non
  | bl (b : Bool) : Bad H (.bl b)
  | int (i : Int) : Bad H (.int i)
  | str (z : Str) : Bad H (.str z)
  | lst {a : Addr} {xs : List V} (h : H a = some (.lst xs)) : Bad H (.ref a)
  | tup {a : Addr} {xs : List V} (h : H a = some (.tup xs)) (n : xs.length ≠ 2) : Bad H (.ref a)
  | two {a : Addr} {u v : V} (h : H a = some (.tup [u, v])) (su : Scal u) (sv : Scal v) (n : (wholeV u && wholeV v) = false) : Bad H (.ref a)
theorem Bad.ex {H H' : Hp} {v : V} (e : Same H H') (h : Bad H v) : Bad H' v := by
  cases h with
  | non => exact .non
  | bl b => exact .bl b
  | int i => exact .int i
  | str z => exact .str z
  | lst h => exact .lst (e _ _ h)
  | tup h n => exact .tup (e _ _ h) n
  | two h su sv n => exact .two (e _ _ h) su sv n
/-- what the top says besides of Point and of the error InvalidPoint at CI -/
structure TxtX (P : Program) (K : PySem.W.Frag) (mg : Str → Option Value) (C CI fII : Addr) : Prop where
  kNC : PySem.W.kitOne K (.type "NoneType") (.ref C) = some false
  kBC : PySem.W.kitOne K (.type "bool") (.ref C) = some false
  kIC : PySem.W.kitOne K (.type "int") (.ref C) = some false
  kSC : PySem.W.kitOne K (.type "str") (.ref C) = some false
  kLC : PySem.W.kitOne K (.type "list") (.ref C) = some false
  xI : FoX_thing.XTxt P K mg CI fII
  gI : mg "InvalidPoint" = some (.ref CI)
def XD (v : V) : HO := .xd [((Str.ofString "thing"), v)]
def spWholeX : Sp := fun vs H Q _ => ∃ v : V, vs = [v] ∧ Scal v ∧ Q (.bl (wholeV v)) H
def spIsPointX (C : Addr) : Sp := fun vs H Q _ => ∃ v : V, vs = [v] ∧ Bad H v ∧ Q (.bl false) H
def spInitX (C CI : Addr) : Sp := fun vs H _ E => ∃ (p : Addr) (u v : V), vs = [.ref p, u, v] ∧ Scal u ∧ Scal v ∧ (wholeV u && wholeV v) = false ∧ ∀ t d H', Same H H' → H' t = some (.tup [u, v]) → H' d = some (XD (.ref t)) → E (.ref CI) (some d) H'
def spBadX (CI : Addr) : Sp := fun vs H _ E => ∃ v : V, vs = [v] ∧ Bad H v ∧ ∀ d H', Same H H' → H' d = some (XD v) → E (.ref CI) (some d) H'
section
variable {P : Program} {w : World} {K : PySem.W.Frag} {mg : Str → Option Value} {base : Heap} {C fW fI fP fA fO CI fII : Addr} {fdW fdI fdP fdA fdO : FuncData}
theorem ok_wholeX {f : Addr} {fd : FuncData} (F : Fun K "is_whole" "is_whole" sWhole f fd) (T : Txt K mg C) : FnOk P w K mg base CX0 1 f fd ["value"] spWholeX := by
  refine F.ok scWhole (fun vs H Q E h => ?_) (fun cdv A outer s H vs Q E hr h => ?_)
  · obtain ⟨v, rfl, _⟩ := h
    rfl
  · obtain ⟨v, rfl, sv, k⟩ := h
    refine ⟨_, pss_one (ps_ret (pe_and (pe_callB call_isi (by rfl) T.isi (by decide +kernel) (pa_cons (pv 0) (pa_cons (pe_bltn (v := .ty "int") (by rfl) T.int (by decide +kernel) rfl) pa_nil)))
      (pe_one (pe_not (pe_callB call_isi (by rfl) T.isi (by decide +kernel) (pa_cons (pv 0) (pa_cons (pe_bltn (v := .ty "bool") (by rfl) T.bool (by decide +kernel) rfl) pa_nil))))))), ?_⟩
    cases v with
    | non =>
      refine ⟨_, rfl, _, _, _, _, false, rfl, .ty _, .base .non, kit_ty (by decide +kernel), false, rfl, ?_⟩
      exact iteF k
    | bl b =>
      refine ⟨_, rfl, _, _, _, _, true, rfl, .ty _, .base (.bl b), kit_ty (by decide +kernel), true, rfl, ?_⟩
      refine iteT ?_
      exact ⟨_, rfl, _, _, _, _, true, rfl, .ty _, .base (.bl b), kit_ty (by decide +kernel), true, rfl, k⟩
    | int i =>
      refine ⟨_, rfl, _, _, _, _, true, rfl, .ty _, .base (.int i), kit_ty (by decide +kernel), true, rfl, ?_⟩
      refine iteT ?_
      exact ⟨_, rfl, _, _, _, _, false, rfl, .ty _, .base (.int i), kit_ty (by decide +kernel), false, rfl, k⟩
    | str z =>
      refine ⟨_, rfl, _, _, _, _, false, rfl, .ty _, .base (.str z), kit_ty (by decide +kernel), false, rfl, ?_⟩
      exact iteF k
    | _ => exact sv.elim
theorem ok_is_pointX (D : Defs K mg C fW fI fP fA fO fdW fdI fdP fdA fdO) (TX : TxtX P K mg C CI fII) : FnOk P w K mg base CX0 2 fP fdP ["thing"] (spIsPointX C) := by
  have GW : FnOk P w K mg base CX0 1 fW fdW ["value"] spWholeX := ok_wholeX D.FW D.T
  have T := D.T
  refine D.FP.ok scIsPoint (fun vs H Q E h => ?_) (fun cdv A outer s H vs Q E hr h => ?_)
  · obtain ⟨v, rfl, _⟩ := h
    rfl
  · obtain ⟨v, rfl, bad, k⟩ := h
    refine ⟨_, pss_cons (ps_if (pt_val (pe_callB call_isi (by rfl) T.isi (by decide +kernel) (pa_cons (pv 0) (pa_cons (pe_glob (v := .ref C) rfl T.mgC rfl) pa_nil)))) (pss_one (ps_ret pe_bl)) pss_nil)
      (pss_one (ps_ret (pe_and (pe_callB call_isi (by rfl) T.isi (by decide +kernel) (pa_cons (pv 0) (pa_cons (pe_bltn (v := .ty "tuple") (by rfl) T.tuple (by decide +kernel) rfl) pa_nil)))
        (pe_and (pe_cmpR op_eq (pe_callB call_len_seq (by rfl) T.len PySem.boot_len (pa_cons (pv 0) pa_nil)) pe_int (nomark _))
        (pe_and (pe_call GW hr rfl D.mW D.FW.kp D.bW .nil pass0 (pa_cons (pe_ix ix_tup (pv 0) pe_int (fun _ _ => rfl)) pa_nil))
        (pe_one (pe_call GW hr rfl D.mW D.FW.kp D.bW .nil pass0 (pa_cons (pe_ix ix_tup (pv 0) pe_int (fun _ _ => rfl)) pa_nil)))))))), ?_⟩
    cases bad with
    | non =>
      refine ⟨_, rfl, _, _, _, _, false, rfl, .own C, .base .non, TX.kNC, false, rfl, ?_⟩
      refine iteF ?_
      refine ⟨_, rfl, _, _, _, _, false, rfl, .ty _, .base .non, kit_ty (by decide +kernel), false, rfl, ?_⟩
      exact iteF k
    | bl b =>
      refine ⟨_, rfl, _, _, _, _, false, rfl, .own C, .base (.bl b), TX.kBC, false, rfl, ?_⟩
      refine iteF ?_
      refine ⟨_, rfl, _, _, _, _, false, rfl, .ty _, .base (.bl b), kit_ty (by decide +kernel), false, rfl, ?_⟩
      exact iteF k
    | int i =>
      refine ⟨_, rfl, _, _, _, _, false, rfl, .own C, .base (.int i), TX.kIC, false, rfl, ?_⟩
      refine iteF ?_
      refine ⟨_, rfl, _, _, _, _, false, rfl, .ty _, .base (.int i), kit_ty (by decide +kernel), false, rfl, ?_⟩
      exact iteF k
    | str z =>
      refine ⟨_, rfl, _, _, _, _, false, rfl, .own C, .base (.str z), TX.kSC, false, rfl, ?_⟩
      refine iteF ?_
      refine ⟨_, rfl, _, _, _, _, false, rfl, .ty _, .base (.str z), kit_ty (by decide +kernel), false, rfl, ?_⟩
      exact iteF k
    | lst h =>
      refine ⟨_, rfl, _, _, _, _, false, rfl, .own C, .base (.lst h), TX.kLC, false, rfl, ?_⟩
      refine iteF ?_
      refine ⟨_, rfl, _, _, _, _, false, rfl, .ty _, .base (.lst h), kit_ty (by decide +kernel), false, rfl, ?_⟩
      exact iteF k
    | @tup a xs h n =>
      refine ⟨_, rfl, _, _, _, _, false, rfl, .own C, .base (.tup h), T.kTC, false, rfl, ?_⟩
      refine iteF ?_
      refine ⟨_, rfl, _, _, _, _, true, rfl, .ty _, .base (.tup h), kit_ty (by decide +kernel), true, rfl, ?_⟩
      refine iteT ?_
      refine ⟨_, rfl, a, _, rfl, .inr (SqT.of h), rfl, _, rfl, ?_⟩
      have e : decide (V.int (xs.length : Int) = V.int 2) = false := decide_eq_false (fun q => n (by injection q with q; omega))
      rw [e]
      exact iteF k
    | @two a u v h su sv n =>
      refine ⟨_, rfl, _, _, _, _, false, rfl, .own C, .base (.tup h), T.kTC, false, rfl, ?_⟩
      refine iteF ?_
      refine ⟨_, rfl, _, _, _, _, true, rfl, .ty _, .base (.tup h), kit_ty (by decide +kernel), true, rfl, ?_⟩
      refine iteT ?_
      refine ⟨_, rfl, a, _, rfl, .inr (SqT.of h), rfl, true, rfl, ?_⟩
      refine iteT ?_
      refine ⟨_, rfl, a, _, _, _, rfl, rfl, SqT.of h, atI_nat (j := 0) rfl, u, rfl, su, _, rfl, ?_⟩
      cases hw : wholeV u with
      | false => exact iteF k
      | true =>
        rw [hw, Bool.true_and] at n
        refine iteT ?_
        refine ⟨_, rfl, a, _, _, _, rfl, rfl, SqT.of h, atI_nat (j := 1) rfl, v, rfl, sv, ?_⟩
        rw [n]
        exact k
/-- Point(u, v) of two that are not both integers -/
theorem ok_initX (D : Defs K mg C fW fI fP fA fO fdW fdI fdP fdA fdO) (TX : TxtX P K mg C CI fII) : FnOk P w K mg base (L2.CX P w) 3 fI fdI ["self", "x", "y"] (spInitX C CI) := by
  have GW : FnOk P w K mg base CX0 1 fW fdW ["value"] spWholeX := ok_wholeX D.FW D.T
  refine D.FI.okX scInit (fun vs H Q E h => ?_) (fun cdv A outer s H vs Q E hr h => ?_)
  · obtain ⟨p, u, v, rfl, _⟩ := h
    rfl
  · obtain ⟨p, u, v, rfl, su, sv, n, k⟩ := h
    have hr1 : Room 1 _ := hr.mono (by decide)
    refine ⟨_, pss_cons (ps_if (PW.pt (pw_or (pt_not (pt_val (pe_call GW hr1 rfl D.mW D.FW.kp D.bW .nil pass0 (pa_cons (pv 1) pa_nil)))) (pw_or1 (pt_not (pt_val (pe_call GW hr1 rfl D.mW D.FW.kp D.bW .nil pass0 (pa_cons (pv 2) pa_nil)))))))
        (pss_one (ps_raise_thing (W := fun cls d _ H => E cls d H) rfl TX.xI TX.gI hr (takes_of rfl rfl rfl rfl) (pa_cons (pe_tup (pa_cons (pv 1) (pa_cons (pv 2) pa_nil))) pa_nil))) pss_nil)
      (pss_cons ps_never (pss_one ps_never)), ?_⟩
    have fin : ∀ (t : Addr), H t = none → ∀ d, (upd H t (.tup [u, v])) d = none → E (.ref CI) (some d) (upd (upd H t (.tup [u, v])) d (XD (.ref t))) := fun t nt d nd => by
      refine k t d _ ((same_new nt).trans (same_new nd)) ?_ upd_same
      exact same_new nd _ _ upd_same
    refine ⟨_, rfl, u, rfl, su, _, rfl, ?_⟩
    cases hw : wholeV u with
    | false =>
      refine iteT ?_
      refine iteT ?_
      exact ⟨_, rfl, _, rfl, (by show 2 ≤ sizeLine; decide), fun t nt => ⟨_, rfl, fun d nd => fin t nt d nd⟩⟩
    | true =>
      rw [hw, Bool.true_and] at n
      refine iteF ?_
      refine ⟨_, rfl, v, rfl, sv, _, rfl, ?_⟩
      rw [n]
      refine iteT ?_
      exact ⟨_, rfl, _, rfl, (by show 2 ≤ sizeLine; decide), fun t nt => ⟨_, rfl, fun d nd => fin t nt d nd⟩⟩
theorem ok_as_pointX (D : Defs K mg C fW fI fP fA fO fdW fdI fdP fdA fdO) (TX : TxtX P K mg C CI fII) : FnOk P w K mg base (L2.CX P w) 3 fA fdA ["thing"] (spBadX CI) := by
  have GP : FnOk P w K mg base CX0 2 fP fdP ["thing"] (spIsPointX C) := ok_is_pointX D TX
  refine D.FA.okX scAsPoint (fun vs H Q E h => ?_) (fun cdv A outer s H vs Q E hr h => ?_)
  · obtain ⟨v, rfl, _⟩ := h
    rfl
  · obtain ⟨v, rfl, bad, k⟩ := h
    refine ⟨_, pss_cons (ps_if (pt_not (pt_val (pe_call GP hr rfl D.mP D.FP.kp D.bP .nil pass0 (pa_cons (pv 0) pa_nil))))
        (pss_one (ps_raise_thing (W := fun cls d _ H => E cls d H) rfl TX.xI TX.gI hr (takes_of rfl rfl rfl rfl) (pa_cons (pv 0) pa_nil))) pss_nil)
      (pss_cons ps_never (pss_one ps_never)), ?_⟩
    refine ⟨_, rfl, v, rfl, bad, false, rfl, ?_⟩
    refine iteT ?_
    exact ⟨_, rfl, _, rfl, fun d nd => k d _ (same_new nd) upd_same⟩
end
end Fo
set_option Elab.async false
set_option linter.all false
set_option maxRecDepth 100000
set_option maxHeartbeats 2000000
namespace Fo
open PySem L2
/-! ### the law's own helpers: the pool and its draws -/
/-- what stands but at p stands -/
def But (p : Addr) (H H' : Hp) : Prop := ∀ b o, b ≠ p → H b = some o → H' b = some o
theorem But.refl (p : Addr) (H : Hp) : But p H H := fun _ _ _ h => h
theorem But.trans {p : Addr} {H H1 H2 : Hp} (a : But p H H1) (b : But p H1 H2) : But p H H2 := fun c o n h => b c o n (a c o n h)
theorem But.upd {p : Addr} {H : Hp} {o : HO} : But p H (upd H p o) := fun b u n h => by
  rw [upd_ne n]
  exact h
theorem But.of {p : Addr} {H H' : Hp} (e : Same H H') : But p H H' := fun b o _ h => e b o h
/-- from a heap that does not know p -/
theorem But.same {p : Addr} {H0 H H' : Hp} (h0 : H0 p = none) (e : Same H0 H) (b : But p H H') : Same H0 H' := fun c o h => b c o (ne_of_none h h0) (e c o h)
def PoolAt (p : Addr) (H : Hp) : Prop := ∃ i j : Int, H p = some (.lst [.int i, .int j]) ∧ 0 ≤ i ∧ 0 ≤ j ∧ j < 2147483647
theorem PoolAt.ex {p : Addr} {H H' : Hp} (e : Same H H') (h : PoolAt p H) : PoolAt p H' := by
  obtain ⟨i, j, h, r⟩ := h
  exact ⟨i, j, e _ _ h, r⟩
def spHand (K : PySem.W.Frag) : Sp := fun vs H Q _ => ∃ (a : Addr) (ns : List Int) (k : Int), vs = [.ref a, .int k] ∧ SqL K H a (ns.map V.int) ∧ ns.length ≤ 63 ∧ 0 ≤ k ∧ k ≤ 100 ∧
  ∀ p H', H p = none → Same H H' → PoolAt p H' → Q (.ref p) H'
def spDraw : Sp := fun vs H Q _ => ∃ (p : Addr) (m : Int), vs = [.ref p, .int m] ∧ PoolAt p H ∧ 0 < m ∧ m < 1073741824 ∧
  ∀ r H', 0 ≤ r → r < m → But p H H' → PoolAt p H' → Q (.int r) H'
structure TxtL (mg : Str → Option Value) : Prop where
  int : mg "int" = none
  range : mg "range" = none
  max : mg "max" = none
  min : mg "min" = none
  len : mg "len" = none
theorem head_int {ns : List Int} {lo hi : Option Int} : ∃ c : Int, atI (cutV (ns.map V.int) lo hi ++ [V.int 0]) 0 = some (V.int c) := by
  have e : cutV (ns.map V.int) lo hi = ((ns.drop (HT.sIx (ns.map V.int).length 0 lo)).take (HT.sIx (ns.map V.int).length (ns.map V.int).length hi - HT.sIx (ns.map V.int).length 0 lo)).map V.int := by
    unfold cutV
    rw [← List.map_drop, ← List.map_take]
  rw [e]
  cases (ns.drop (HT.sIx (ns.map V.int).length 0 lo)).take (HT.sIx (ns.map V.int).length (ns.map V.int).length hi - HT.sIx (ns.map V.int).length 0 lo) with
  | nil => exact ⟨0, atI_nat (j := 0) rfl⟩
  | cons c r => exact ⟨c, atI_nat (j := 0) rfl⟩
section
variable {P : Program} {w : World} {K : PySem.W.Frag} {mg : Str → Option Value} {base : Heap}
theorem scHand : FnScope ["script", "k", "cell", "seed"] ["script", "k"] (defScope sHand) := ⟨rfl, rfl, rfl, by decide +kernel, rfl, by decide +kernel, by decide +kernel⟩
theorem ok_hand {f : Addr} {fd : FuncData} (F : Fun K "_law_hand" "_law_hand" sHand f fd) (T : TxtL mg) : FnOk P w K mg base CX0 1 f fd ["script", "k"] (spHand K) := by
  refine F.ok scHand (fun vs H Q E h => ?_) (fun cdv A outer s H vs Q E hr h => ?_)
  · obtain ⟨a, ns, k, rfl, _⟩ := h
    rfl
  · obtain ⟨a, ns, k, rfl, hS, hl, k0, k1, q⟩ := h
    refine ⟨_, pss_cons (ps_set (i := 2) scHand.nd rfl (Or.inl rfl) (pe_ix ix_list (pe_op op_cat (pe_slice sl_list (pv 0) (po_some (pv 1)) (po_some (pe_op op_add (pv 1) pe_int))) (pe_lst (pa_cons pe_int pa_nil))) pe_int (fun _ _ => rfl)))
      (pss_cons (ps_set (i := 3) scHand.nd rfl (Or.inl rfl) (pe_op op_mod (pe_op op_mul (pe_op op_add (pe_op op_add (pe_op op_mod (pe_callTy call_int1 (by rfl) T.int (by decide +kernel) (pa_cons (pv 2) pa_nil)) pe_int) (pe_op op_mul pe_int (pv 1))) pe_int) pe_int) pe_int))
      (pss_one (ps_ret (pe_lst (pa_cons (pe_op op_mul (pe_callTy call_int1 (by rfl) T.int (by decide +kernel) (pa_cons (pe_cmpR op_ge (pv 2) (pe_op op_pow pe_int pe_int) (nomark _)) pa_nil)) (pv 2)) (pa_cons (pv 3) pa_nil)))))), ?_⟩
    obtain ⟨c, hc⟩ := head_int (ns := ns) (lo := some k) (hi := some (k + 1))
    -- cell
    refine ⟨_, rfl, _, rfl, _, rfl, _, rfl, _, _, rfl, rfl, _, rfl, a, _, rfl, hS, fun p1 n1 => ?_⟩
    refine ⟨(by show 1 ≤ sizeLine; decide), fun p2 n2 => ?_⟩
    have ne12 : p1 ≠ p2 := fun q => by rw [← q, upd_same] at n2; cases n2
    refine ⟨p1, p2, _, _, rfl, rfl, (by rw [upd_ne ne12, upd_same]), upd_same, ?_, fun p3 n3 => ?_⟩
    · have := cutV_length (ns.map V.int) (some k) (some (k + 1))
      rw [List.length_map] at this
      show _ + 1 ≤ sizeLine
      exact Nat.le_trans (Nat.add_le_add_right this 1) (Nat.le_trans (Nat.add_le_add_right hl 1) (by decide))
    refine ⟨p3, _, _, _, rfl, rfl, SqL.of upd_same, hc, ?_⟩
    have e1 : Same H (upd H p1 (.lst (cutV (ns.map V.int) (some k) (some (k + 1))))) := same_new n1
    have e2 := e1.trans (same_new (o := .lst [V.int 0]) n2)
    have e3 := e2.trans (same_new (o := .lst (cutV (ns.map V.int) (some k) (some (k + 1)) ++ [V.int 0])) n3)
    -- seed
    refine ⟨_, rfl, .inl ⟨_, rfl, ?_⟩⟩
    refine ⟨_, _, rfl, rfl, (by show (0 : Int) < 2147483647; decide), _, rfl, _, _, rfl, rfl, .inl ⟨by decide, by decide⟩, _, _, rfl, rfl, _, _, rfl, rfl, _, _, rfl, rfl, .inr ⟨by decide, by decide⟩, _, _, rfl, rfl, (by show (0 : Int) < 2147483629; decide), ?_⟩
    -- the list
    refine ⟨_, rfl, _, _, rfl, rfl, ⟨by decide, by decide, by decide⟩, _, _, rfl, rfl, .inr ⟨_, rfl, ?_⟩⟩
    refine ⟨_, rfl, _, _, rfl, rfl, .inl ?_, _, rfl, (by show 2 ≤ sizeLine; decide), fun p4 n4 => ?_⟩
    · split <;> exact ⟨by decide, by decide⟩
    · refine q p4 _ (Same.free e3 n4) (e3.trans (same_new n4)) ⟨_, _, upd_same, ?_, ?_, ?_⟩
      · by_cases hb : (10 : Int) ^ (18 : Int).toNat ≤ c
        · have h0 : (0 : Int) ≤ (10 : Int) ^ (18 : Int).toNat := by decide
          rw [decide_eq_true hb]
          show 0 ≤ 1 * c
          omega
        · rw [decide_eq_false hb]
          show 0 ≤ 0 * c
          omega
      · exact Int.emod_nonneg _ (by decide)
      · exact Int.lt_trans (Int.emod_lt_of_pos _ (by decide)) (by decide)
theorem scDraw : FnScope ["pool", "many", "found"] ["pool", "many"] (defScope sDraw) := ⟨rfl, rfl, rfl, by decide +kernel, rfl, by decide +kernel, by decide +kernel⟩
theorem ok_draw {f : Addr} {fd : FuncData} (F : Fun K "_law_draw" "_law_draw" sDraw f fd) (T : TxtL mg) : FnOk P w K mg base CX0 1 f fd ["pool", "many"] spDraw := by
  refine F.ok scDraw (fun vs H Q E h => ?_) (fun cdv A outer s H vs Q E hr h => ?_)
  · obtain ⟨p, m, rfl, _⟩ := h
    rfl
  · obtain ⟨p, m, rfl, ⟨i, j, hp, i0, j0, j1⟩, m0, m1, q⟩ := h
    refine ⟨_, pss_cons (ps_if (pt_cmpR op_gt (pe_ix ix_list (pv 0) pe_int (fun _ _ => rfl)) pe_int (nomark _))
        (pss_cons (ps_set (i := 2) scDraw.nd rfl (Or.inl rfl) (pe_op op_mod (pe_callTy call_int1 (by rfl) T.int (by decide +kernel) (pa_cons (pe_ix ix_list (pv 0) pe_int (fun _ _ => rfl)) pa_nil)) (pv 1)))
        (pss_cons (ps_asg (pe_op op_fdiv (pe_ix ix_list (pv 0) pe_int (fun _ _ => rfl)) (pv 1)) (pg_sub (pv 0) pe_int set_list))
        (pss_one (ps_ret (pv 2))))) pss_nil)
      (pss_cons (ps_asg (pe_op op_mod (pe_callTy call_int1 (by rfl) T.int (by decide +kernel) (pa_cons (pe_op op_add (pe_op op_mul (pe_ix ix_list (pv 0) pe_int (fun _ _ => rfl)) pe_int) pe_int) pa_nil)) pe_int) (pg_sub (pv 0) pe_int set_list))
      (pss_one (ps_ret (pe_op op_mod (pe_op op_fdiv (pe_op op_mod (pe_callTy call_int1 (by rfl) T.int (by decide +kernel) (pa_cons (pe_op op_mul (pe_ix ix_list (pv 0) pe_int (fun _ _ => rfl)) (pe_ix ix_list (pv 0) pe_int (fun _ _ => rfl))) pa_nil)) pe_int) pe_int) (pv 1))))), ?_⟩
    refine ⟨_, rfl, p, _, _, _, rfl, rfl, SqL.of hp, atI_nat (j := 0) rfl, _, _, rfl, rfl, _, rfl, ?_⟩
    refine ite2 (fun hi => ?_) (fun hi => ?_)
    · refine ⟨_, rfl, p, _, _, _, rfl, rfl, SqL.of hp, atI_nat (j := 0) rfl, .inl ⟨_, rfl, ?_⟩⟩
      refine ⟨_, rfl, _, _, rfl, rfl, m0, ?_⟩
      refine ⟨_, rfl, p, _, _, _, rfl, rfl, SqL.of hp, atI_nat (j := 0) rfl, _, rfl, _, _, rfl, rfl, ⟨m0, m1⟩, ?_⟩
      refine ⟨_, rfl, p, _, _, 0, rfl, rfl, hp, rfl, ?_⟩
      refine ⟨_, rfl, ?_⟩
      refine q _ _ (Int.emod_nonneg _ (by omega)) (Int.emod_lt_of_pos _ m0) But.upd ⟨_, _, upd_same, Int.ediv_nonneg i0 (by omega), j0, j1⟩
    · refine ⟨_, rfl, p, _, _, _, rfl, rfl, SqL.of hp, atI_nat (j := 1) rfl, _, _, rfl, rfl, .inr ⟨by decide, by decide⟩, _, _, rfl, rfl, .inl ⟨_, rfl, ?_⟩⟩
      refine ⟨_, _, rfl, rfl, (by show (0 : Int) < 2147483647; decide), ?_⟩
      refine ⟨_, rfl, p, _, _, 1, rfl, rfl, hp, rfl, ?_⟩
      have a0 : (0 : Int) ≤ (j * 48271 + 11) % 2147483647 := Int.emod_nonneg _ (by decide)
      have a1 : (j * 48271 + 11) % 2147483647 < (2147483647 : Int) := Int.emod_lt_of_pos _ (by decide)
      refine ⟨_, rfl, p, _, _, _, rfl, rfl, SqL.of upd_same, atI_nat (j := 1) rfl, _, rfl, p, _, _, _, rfl, rfl, SqL.of upd_same, atI_nat (j := 1) rfl, _, _, rfl, rfl, .inl ⟨by omega, by omega⟩, .inl ⟨_, rfl, ?_⟩⟩
      refine ⟨_, _, rfl, rfl, (by show (0 : Int) < 2147483629; decide), _, _, rfl, rfl, ⟨by decide, by decide⟩, _, rfl, _, _, rfl, rfl, m0, ?_⟩
      exact q _ _ (Int.emod_nonneg _ (by omega)) (Int.emod_lt_of_pos _ m0) But.upd ⟨_, _, upd_same, i0, a0, a1⟩
end
end Fo
set_option Elab.async false
set_option linter.all false
set_option maxRecDepth 100000
set_option maxHeartbeats 2000000
namespace Fo
open PySem L2
def spPair : Sp := fun vs H Q _ => ∃ (p : Addr) (n : Int), vs = [.ref p, .int n] ∧ PoolAt p H ∧ 0 < n ∧ n < 1000 ∧
  ∀ q x y H', But p H H' → PoolAt p H' → H' q = some (.tup [.int x, .int y]) → -n ≤ x → x ≤ n → -n ≤ y → y ≤ n → Q (.ref q) H'
section
variable {P : Program} {w : World} {K : PySem.W.Frag} {mg : Str → Option Value} {base : Heap}
theorem scPair : FnScope ["pool", "size_here"] ["pool", "size_here"] (defScope sPair) := ⟨rfl, rfl, rfl, by decide +kernel, rfl, by decide +kernel, by decide +kernel⟩
theorem ok_pair {f fD : Addr} {fd fdD : FuncData} (F : Fun K "_law_pair" "_law_pair" sPair f fd) (T : TxtL mg) (FD : Fun K "_law_draw" "_law_draw" sDraw fD fdD) (bD : Binds K fdD ["pool", "many"] []) (mD : mg "_law_draw" = some (.ref fD)) :
    FnOk P w K mg base CX0 2 f fd ["pool", "size_here"] spPair := by
  have GD : FnOk P w K mg base CX0 1 fD fdD ["pool", "many"] spDraw := ok_draw FD T
  refine F.ok scPair (fun vs H Q E h => ?_) (fun cdv A outer s H vs Q E hr h => ?_)
  · obtain ⟨p, n, rfl, _⟩ := h
    rfl
  · obtain ⟨p, n, rfl, hp, n0, n1, q⟩ := h
    refine ⟨_, pss_one (ps_ret (pe_tup (pa_cons (pe_op op_sub (pe_call GD hr rfl mD FD.kp bD .nil pass0 (pa_cons (pv 0) (pa_cons (pe_op op_add (pe_op op_mul pe_int (pv 1)) pe_int) pa_nil))) (pv 1))
      (pa_cons (pe_op op_sub (pe_call GD hr rfl mD FD.kp bD .nil pass0 (pa_cons (pv 0) (pa_cons (pe_op op_add (pe_op op_mul pe_int (pv 1)) pe_int) pa_nil))) (pv 1)) pa_nil)))), ?_⟩
    refine ⟨_, rfl, _, rfl, _, _, rfl, rfl, .inl ⟨by decide, by decide⟩, _, _, rfl, rfl, p, _, rfl, hp, by omega, by omega, fun r1 H1 r10 r11 b1 p1 => ?_⟩
    refine ⟨_, rfl, _, _, rfl, rfl, ?_⟩
    refine ⟨_, rfl, _, rfl, _, _, rfl, rfl, .inl ⟨by decide, by decide⟩, _, _, rfl, rfl, p, _, rfl, p1, by omega, by omega, fun r2 H2 r20 r21 b2 p2 => ?_⟩
    refine ⟨_, rfl, _, _, rfl, rfl, (by show 2 ≤ sizeLine; decide), fun t ht => ?_⟩
    exact q t _ _ _ ((b1.trans b2).trans (But.of (same_new ht))) (p2.ex (same_new ht)) upd_same (by omega) (by omega) (by omega) (by omega)
end
end Fo
set_option Elab.async false
set_option linter.all false
set_option maxRecDepth 100000
set_option maxHeartbeats 2000000
namespace Fo
open PySem L2
/-! ### what raises, and the law's own door to it -/
theorem SqT.ex {K : PySem.W.Frag} {H H' : Hp} {a : Addr} {xs : List V} (e : Same H H') (h : SqT K H a xs) : SqT K H' a xs := by
  rcases h with (h | ⟨o, h⟩) | h
  · exact .inl (.inl (e _ _ h))
  · exact .inl (.inr ⟨o, e _ _ h⟩)
  · exact .inr h
mutual
theorem Dp.ex {K : PySem.W.Frag} {H H' : Hp} (e : Same H H') : ∀ (d : PyData) (v : V), Dp K H v d → Dp K H' v d
  | .none, _, h => by
    cases h
    exact .non
  | .bool b, _, h => by
    cases h
    exact .bl b
  | .int i, _, h => by
    cases h
    exact .int i
  | .str x, _, h => by
    cases h
    exact .str x
  | .list ds, _, h => by
    cases h with
    | lst hs ha => exact .lst (e.seq hs) (DpAll.ex e ds _ ha)
  | .tuple ds, _, h => by
    cases h with
    | tup hs ha => exact .tup (SqT.ex e hs) (DpAll.ex e ds _ ha)
  | .dict _, _, h => by cases h
theorem DpAll.ex {K : PySem.W.Frag} {H H' : Hp} (e : Same H H') : ∀ (ds : List PyData) (vs : List V), DpAll K H vs ds → DpAll K H' vs ds
  | [], _, h => by
    cases h
    exact .nil
  | d :: ds, _, h => by
    cases h with
    | cons h1 h2 => exact .cons (Dp.ex e d _ h1) (DpAll.ex e ds _ h2)
end
structure ShowsOk (d : PyData) : Prop where
  s : d.showable = true
  nd : d.hasDict = false
  dp : d.depth ≤ 60
  z : d.shown.length ≤ sizeLine
/-- what a call lets out is taken, whatever the slots -/
def EW (W : WX) (n : Nat) : XK := fun cls d H => ∀ σ : L2.St, σ.length = n → W cls d σ H
theorem passesW {X : Cx} {W : WX} {n : Nat} (tk : Takes X W) (hn : X.N.length = n) : Passes (L2.CX X.prog X.w) X (EW W n) := fun _ σ _ _ e s' I c => tk e s' (XE.of_call I (fun _ _ _ h => h σ (I.len.trans hn)) c)
theorem ix_tupK {X : Cx} {K : PySem.W.Frag} (h : X.K = K) : IxR X (rIxT K) := by
  subst h
  exact ix_tup
theorem int_eqT {i j : Int} (h : i = j) : decide (V.int i = V.int j) = true := decide_eq_true (by rw [h])
theorem int_eqF {i j : Int} (h : i ≠ j) : decide (V.int i = V.int j) = false := decide_eq_false (fun q => h (by injection q))
end Fo
set_option Elab.async false
set_option linter.all false
set_option maxRecDepth 100000
set_option maxHeartbeats 2000000
namespace Fo
open PySem L2
/-! ### lists of pairs -/
/-- a list of pairs -/
inductive TL (H : Hp) : List V → List (Int × Int) → Prop
  | nil : TL H [] []
  | cons {q : Addr} {p : Int × Int} {xs : List V} {ps : List (Int × Int)} : H q = some (.tup [.int p.1, .int p.2]) → TL H xs ps → TL H (.ref q :: xs) (p :: ps)
theorem TL.ex {H H' : Hp} {xs : List V} {ps : List (Int × Int)} (e : Same H H') (h : TL H xs ps) : TL H' xs ps := by
  induction h with
  | nil => exact .nil
  | cons h _ ih => exact .cons (e _ _ h) ih
theorem TL.but {H H' : Hp} {D : Addr} {ys : List V} {xs : List V} {ps : List (Int × Int)} (hD : H D = some (.lst ys)) (b : But D H H') (h : TL H xs ps) : TL H' xs ps := by
  induction h with
  | nil => exact .nil
  | cons h _ ih => exact .cons (b _ _ (ne_of h hD (by intro z; cases z)) h) ih
theorem TL.length {H : Hp} {xs : List V} {ps : List (Int × Int)} (h : TL H xs ps) : xs.length = ps.length := by
  induction h with
  | nil => rfl
  | cons h _ ih => rw [List.length_cons, List.length_cons, ih]
theorem TL.append {H : Hp} {xs ys : List V} {ps qs : List (Int × Int)} (h : TL H xs ps) (h2 : TL H ys qs) : TL H (xs ++ ys) (ps ++ qs) := by
  induction h with
  | nil => exact h2
  | cons h _ ih => exact .cons h ih
theorem TL.take {H : Hp} {xs : List V} {ps : List (Int × Int)} (h : TL H xs ps) : ∀ n, TL H (xs.take n) (ps.take n) := by
  induction h with
  | nil =>
    intro n
    rw [List.take_nil, List.take_nil]
    exact .nil
  | cons h _ ih =>
    intro n
    cases n with
    | zero => exact .nil
    | succ n => exact .cons h (ih n)
theorem TL.drop {H : Hp} {xs : List V} {ps : List (Int × Int)} (h : TL H xs ps) : ∀ n, TL H (xs.drop n) (ps.drop n) := by
  induction h with
  | nil =>
    intro n
    rw [List.drop_nil, List.drop_nil]
    exact .nil
  | cons h t ih =>
    intro n
    cases n with
    | zero => exact .cons h t
    | succ n => exact ih n
theorem TL.get {H : Hp} {xs : List V} {ps : List (Int × Int)} (h : TL H xs ps) : ∀ {i : Nat} {x : V}, xs[i]? = some x → ∃ q p, x = V.ref q ∧ ps[i]? = some p ∧ H q = some (.tup [.int p.1, .int p.2]) := by
  induction h with
  | nil =>
    intro i x hx
    simp at hx
  | @cons q p _ _ h _ ih =>
    intro i x hx
    cases i with
    | zero =>
      simp at hx
      exact ⟨q, p, hx.symm, rfl, h⟩
    | succ i =>
      simp at hx
      obtain ⟨q2, p2, e1, e2, e3⟩ := ih hx
      exact ⟨q2, p2, e1, by simpa using e2, e3⟩
def pD (p : Int × Int) : PyData := .tuple [.int p.1, .int p.2]
theorem TL.dp {K : PySem.W.Frag} {H : Hp} {xs : List V} {ps : List (Int × Int)} (h : TL H xs ps) : DpAll K H xs (ps.map pD) := by
  induction h with
  | nil => exact .nil
  | cons h _ ih => exact .cons (.tup (SqT.of h) (.cons (.int _) (.cons (.int _) .nil))) ih
theorem pDs_lay : ∀ ps : List (Int × Int), PyData.canLayAll0 (ps.map pD) = true
  | [] => by simp [PyData.canLayAll0]
  | p :: ps => by simp [PyData.canLayAll0, PyData.canLay0, pD, pDs_lay ps]
theorem pDs_depth : ∀ ps : List (Int × Int), PyData.depthAll (ps.map pD) ≤ 2
  | [] => by simp [PyData.depthAll]
  | p :: ps => by
    have h1 := pDs_depth ps
    have h2 : (pD p).depth ≤ 2 := by simp [pD, PyData.depth, PyData.depthAll]
    simp only [List.map_cons, PyData.depthAll]
    omega
theorem pDs_shaped (ps : List (Int × Int)) : SeqAt.shaped (.list (ps.map pD)) = true := by
  have h1 := pDs_depth ps
  have h2 : PyData.depth (.list (ps.map pD)) ≤ 64 := by
    simp only [PyData.depth]
    omega
  show (PyData.canLay0 (.list (ps.map pD)) && decide (PyData.depth (.list (ps.map pD)) ≤ 64)) = true
  rw [Bool.and_eq_true]
  exact ⟨by simp only [PyData.canLay0]; exact pDs_lay ps, decide_eq_true h2⟩
theorem pDs_refl (ps : List (Int × Int)) : PyData.eqv (.list (ps.map pD)) (.list (ps.map pD)) = true := SeqAt.eqv_refl _ (by simp only [PyData.canLay0]; exact pDs_lay ps)
theorem TL.of_get {H : Hp} : ∀ {xs : List V} {ps : List (Int × Int)}, xs.length = ps.length → (∀ (i : Nat) x, xs[i]? = some x → ∃ q p, x = V.ref q ∧ ps[i]? = some p ∧ H q = some (.tup [.int p.1, .int p.2])) → TL H xs ps
  | [], [], _, _ => .nil
  | [], p :: ps, h, _ => by simp at h
  | x :: xs, [], h, _ => by simp at h
  | x :: xs, p :: ps, h, hg => by
    obtain ⟨q, p', rfl, hp, hq⟩ := hg 0 x rfl
    cases hp
    exact .cons hq (TL.of_get (by simpa using h) fun i y hy => hg (i + 1) y (by simpa using hy))
theorem tup_ne {pl q : Addr} {H : Hp} {xs : List V} (hp : PoolAt pl H) (h : H q = some (.tup xs)) : q ≠ pl := by
  obtain ⟨i, j, hp, _⟩ := hp
  exact ne_of h hp (by intro z; cases z)
theorem pair_no (x y : Int) : (ptF x y).lookup ("pair" : Str) = none := ptF_no _ _ (by decide +kernel) (by decide +kernel)
end Fo
set_option Elab.async false
set_option linter.all false
set_option maxRecDepth 100000
set_option maxHeartbeats 2000000
namespace Fo
open PySem L2
/-! ### filledonce.triangles -/
abbrev I2 := Int × Int
def sd (a b p : I2) : Int := sideI a.1 a.2 b.1 b.2 p.1 p.2
def Sm2 (n : Nat) (p : I2) : Prop := Sm n p.1 ∧ Sm n p.2
theorem Sm2.up {n m : Nat} {p : I2} (h : Sm2 n p) (l : n ≤ m) : Sm2 m p := ⟨h.1.up l, h.2.up l⟩
def tipF (l : Addr) : List (Str × V) := putF "tips" (.ref l) []
theorem tipF_tips (l : Addr) : (tipF l).lookup ("tips" : Str) = some (.ref l) := by
  unfold tipF
  rw [lookup_putF, if_pos rfl]
theorem tipF_no (l : Addr) {m : Str} (h : ¬ m = "tips") : (tipF l).lookup m = none := by
  unfold tipF
  rw [lookup_putF, if_neg h]
  rfl
/-- three Points -/
def Three (C : Addr) (v1 v2 v3 : V) (a b c : I2) (H : Hp) : Prop := IsP C v1 a.1 a.2 H ∧ IsP C v2 b.1 b.2 H ∧ IsP C v3 c.1 c.2 H
theorem Three.ex {C : Addr} {v1 v2 v3 : V} {a b c : I2} {H H' : Hp} (e : Same H H') (h : Three C v1 v2 v3 a b c H) : Three C v1 v2 v3 a b c H' := ⟨h.1.ex e, h.2.1.ex e, h.2.2.ex e⟩
/-- a Triangle with these corners -/
def IsT (C CT : Addr) (v : V) (a b c : I2) (H : Hp) : Prop := ∃ t dx l v1 v2 v3, v = .ref t ∧ H t = some (.ins CT dx (tipF l)) ∧ H l = some (.lst [v1, v2, v3]) ∧ Three C v1 v2 v3 a b c H
theorem IsT.ex {C CT : Addr} {v : V} {a b c : I2} {H H' : Hp} (e : Same H H') (h : IsT C CT v a b c H) : IsT C CT v a b c H' := by
  obtain ⟨t, dx, l, v1, v2, v3, rfl, h1, h2, h3⟩ := h
  exact ⟨t, dx, l, v1, v2, v3, rfl, e _ _ h1, e _ _ h2, h3.ex e⟩
def IsPt2 (C : Addr) (v : V) (p : I2) (H : Hp) : Prop := IsPt C v p.1 p.2 H
theorem IsPt2.ex {C : Addr} {v : V} {p : I2} {H H' : Hp} (e : Same H H') (h : IsPt2 C v p H) : IsPt2 C v p H' := IsPt.ex e h
/-- b and c, turned against the clock -/
def onB (a b c : I2) : I2 := if 0 < sd a b c then b else c
def onC (a b c : I2) : I2 := if 0 < sd a b c then c else b
def spTInit (C CT : Addr) : Sp := fun vs H Q _ => ∃ (n : Nat) (p dx : Addr) (u v w : V) (a b c : I2), vs = [.ref p, u, v, w] ∧ H p = some (.ins CT dx []) ∧ IsPt2 C u a H ∧ IsPt2 C v b H ∧ IsPt2 C w c H ∧ n < 1000 ∧ Sm2 n a ∧ Sm2 n b ∧ Sm2 n c ∧ sd a b c ≠ 0 ∧
  ∀ l v1 v2 v3 H', But p H H' → H' p = some (.ins CT dx (tipF l)) → H' l = some (.lst [v1, v2, v3]) → Three C v1 v2 v3 a (onB a b c) (onC a b c) H' → Q .non H'
def spCorners (C CT : Addr) : Sp := fun vs H Q _ => ∃ (t : V) (a b c : I2), vs = [t] ∧ IsT C CT t a b c H ∧ ∀ l v1 v2 v3 H', H l = none → Same H H' → H' l = some (.lst [v1, v2, v3]) → Three C v1 v2 v3 a b c H' → Q (.ref l) H'
/-- the list of the edges -/
def IsE (C : Addr) (v : V) (a b c : I2) (H : Hp) : Prop := ∃ l e1 e2 e3 v1 v2 v3, v = .ref l ∧ H l = some (.lst [.ref e1, .ref e2, .ref e3]) ∧ H e1 = some (.tup [v1, v2]) ∧ H e2 = some (.tup [v2, v3]) ∧ H e3 = some (.tup [v3, v1]) ∧ Three C v1 v2 v3 a b c H
theorem IsE.ex {C : Addr} {v : V} {a b c : I2} {H H' : Hp} (e : Same H H') (h : IsE C v a b c H) : IsE C v a b c H' := by
  obtain ⟨l, e1, e2, e3, v1, v2, v3, rfl, h1, h2, h3, h4, h5⟩ := h
  exact ⟨l, e1, e2, e3, v1, v2, v3, rfl, e _ _ h1, e _ _ h2, e _ _ h3, e _ _ h4, h5.ex e⟩
def spEdges (C CT : Addr) : Sp := fun vs H Q _ => ∃ (t : V) (a b c : I2), vs = [t] ∧ IsT C CT t a b c H ∧ ∀ v H', Same H H' → IsE C v a b c H' → Q v H'
def spArea (C CT : Addr) : Sp := fun vs H Q _ => ∃ (n : Nat) (t : V) (a b c : I2), vs = [t] ∧ IsT C CT t a b c H ∧ n < 1000 ∧ Sm2 n a ∧ Sm2 n b ∧ Sm2 n c ∧ ∀ H', Same H H' → Q (.int (sd a b c)) H'
def mv (p q : I2) : I2 := (p.1 + q.1, p.2 + q.2)
def spMoved (C CT : Addr) : Sp := fun vs H Q _ => ∃ (n : Nat) (t u : V) (a b c by' : I2), vs = [t, u] ∧ IsT C CT t a b c H ∧ IsPt2 C u by' H ∧ n < 999 ∧ Sm2 n a ∧ Sm2 n b ∧ Sm2 n c ∧ Sm2 n by' ∧ 0 < sd a b c ∧ ∀ v H', Same H H' → IsT C CT v (mv a by') (mv b by') (mv c by') H' → Q v H'
def inT (a b c p : I2) : Bool := decide (0 ≤ sd a b p) && (decide (0 ≤ sd b c p) && decide (0 ≤ sd c a p))
def spTIn (C CT : Addr) : Sp := fun vs H Q _ => ∃ (t u : V), vs = [t, u] ∧ ((∃ (n : Nat) (a b c p : I2), IsT C CT t a b c H ∧ IsPt2 C u p H ∧ n < 1000 ∧ Sm2 n a ∧ Sm2 n b ∧ Sm2 n c ∧ Sm2 n p ∧ ∀ H', Same H H' → Q (.bl (inT a b c p)) H') ∨ (Bad H u ∧ Q (.bl false) H))
/-- the edge (a, b) is one of d e f -/
def hasE (a b d e f : I2) : Bool := (decide (d = a) && decide (e = b)) || ((decide (e = a) && decide (f = b)) || (decide (f = a) && decide (d = b)))
def eqT (a b c d e f : I2) : Bool := hasE a b d e f && hasE b c d e f
def spTEq (C CT : Addr) : Sp := fun vs H Q _ => ∃ (t u : V) (a b c : I2), vs = [t, u] ∧ IsT C CT t a b c H ∧ ((∃ d e f : I2, IsT C CT u d e f H ∧ ∀ H', Same H H' → Q (.bl (eqT a b c d e f)) H') ∨ ((∃ q xs, u = .ref q ∧ H q = some (.lst xs)) ∧ Q (.bl false) H))
/-- what the top has written of Triangle -/
structure TxtT (K : PySem.W.Frag) (mg : Str → Option Value) (CT : Addr) : Prop where
  cl : Cls K CT
  nT : NoAttr K CT "tips"
  mgT : mg "Triangle" = some (.ref CT)
  list : mg "list" = none
  all : mg "all" = none
  ha : PySem.W.findIn K (.ref CT) "__class__" = some (some (.builtin "object.__class__"))
  hm : PySem.W.mroIn K CT (.type "object") = some true
  kLT : PySem.W.kitOne K (.type "list") (.ref CT) = some false
  kTT : PySem.W.kitOne K (.ref CT) (.ref CT) = some true
/-- the defs of Triangle -/
structure TDefs (K : PySem.W.Frag) (mg : Str → Option Value) (C CT fS fTI fCo fEd fAr fEq fAd pAr : Addr) (fdS fdTI fdCo fdEd fdAr fdEq fdAd : FuncData) : Prop where
  TT : TxtT K mg CT
  FS : Fun K "side" "side" sSide fS fdS
  bS : Binds K fdS ["a", "b", "point"] []
  mS : mg "side" = some (.ref fS)
  MT : Mk K CT fTI
  FTI : Fun K "__init__" "Triangle.__init__" sTInit fTI fdTI
  bTI : Binds K fdTI ["self", "a", "b", "c"] []
  FCo : Fun K "corners" "Triangle.corners" sCorners fCo fdCo
  bCo : Binds K fdCo ["self"] []
  mCo : Meth K CT "corners" fCo
  FEd : Fun K "edges" "Triangle.edges" sEdges fEd fdEd
  bEd : Binds K fdEd ["self"] []
  mEd : Meth K CT "edges" fEd
  FAr : Fun K "area2" "Triangle.area2" sArea fAr fdAr
  bAr : Binds K fdAr ["self"] []
  pAr : PropOf K CT "area2" pAr fAr
  FEq : Fun K "__eq__" "Point.__eq__" sEq fEq fdEq
  bEq : Binds K fdEq ["self", "other"] []
  oEq : PySem.W.findIn K (.ref C) "__eq__" = some (some (.ref fEq))
  iEq : PySem.W.isFn K (.ref fEq) = true
  FAd : Fun K "__add__" "Point.__add__" sAdd fAd fdAd
  bAd : Binds K fdAd ["self", "other"] []
  oAd : OwnOp K C .Add fAd
section
variable {P : Program} {w : World} {K : PySem.W.Frag} {mg : Str → Option Value} {base : Heap}
variable {C fW fI fP fA fO CT fS fTI fCo fEd fAr fEq fAd pAr : Addr} {fdW fdI fdP fdA fdO fdS fdTI fdCo fdEd fdAr fdEq fdAd : FuncData}
theorem scTInit : FnScope ["self", "a", "b", "c", "first", "second", "third", "turn"] ["self", "a", "b", "c"] (defScope sTInit) := ⟨rfl, rfl, rfl, by decide +kernel, rfl, by decide +kernel, by decide +kernel⟩
theorem TDefs.GTI (d : TDefs K mg C CT fS fTI fCo fEd fAr fEq fAd pAr fdS fdTI fdCo fdEd fdAr fdEq fdAd) (D : Defs K mg C fW fI fP fA fO fdW fdI fdP fdA fdO) : FnOk P w K mg base CX0 8 fTI fdTI ["self", "a", "b", "c"] (spTInit C CT) := by
  have GA : FnOk P w K mg base CX0 4 fA fdA ["thing"] (spAsPoint C) := D.GA
  have GS : FnOk P w K mg base CX0 7 fS fdS ["a", "b", "point"] (spSide C) := ok_side d.FS D
  refine d.FTI.ok scTInit (fun vs H Q E h => ?_) (fun cdv A outer s H vs Q E hr h => ?_)
  · obtain ⟨n, p, dx, u, v, w, a, b, c, rfl, _⟩ := h
    rfl
  · obtain ⟨n, p, dx, u, v, w, a, b, c, rfl, hp, hu, hv, hw, n1, sa, sb, sc, ne, k⟩ := h
    have hr4 : Room 4 _ := hr.mono (by decide)
    refine ⟨_, pss_cons (ps_set (i := 4) scTInit.nd rfl (Or.inl rfl) (pe_call GA hr4 rfl D.mA D.FA.kp D.bA .nil pass0 (pa_cons (pv 1) pa_nil)))
      (pss_cons (ps_set (i := 5) scTInit.nd rfl (Or.inl rfl) (pe_call GA hr4 rfl D.mA D.FA.kp D.bA .nil pass0 (pa_cons (pv 2) pa_nil)))
      (pss_cons (ps_set (i := 6) scTInit.nd rfl (Or.inl rfl) (pe_call GA hr4 rfl D.mA D.FA.kp D.bA .nil pass0 (pa_cons (pv 3) pa_nil)))
      (pss_cons (ps_set (i := 7) scTInit.nd rfl (Or.inl rfl) (pe_call GS (hr.mono (by decide)) rfl d.mS d.FS.kp d.bS .nil pass0 (pa_cons (pv 4) (pa_cons (pv 5) (pa_cons (pv 6) pa_nil)))))
      (pss_cons (ps_if (pt_cmpR op_eq (pv 7) pe_int (nomark _)) (pss_one ps_never) pss_nil)
      (pss_one (ps_if (pt_cmpR op_gt (pv 7) pe_int (nomark _)) (pss_one (ps_fld (pv 0) (pe_lst (pa_cons (pv 4) (pa_cons (pv 5) (pa_cons (pv 6) pa_nil)))) rfl)) (pss_one (ps_fld (pv 0) (pe_lst (pa_cons (pv 4) (pa_cons (pv 6) (pa_cons (pv 5) pa_nil)))) rfl)))))))), ?_⟩
    refine ⟨_, rfl, u, a.1, a.2, rfl, hu, fun w1 H1 e1 h1 _ => ?_⟩
    refine ⟨_, rfl, v, b.1, b.2, rfl, hv.ex e1, fun w2 H2 e2 h2 _ => ?_⟩
    refine ⟨_, rfl, w, c.1, c.2, rfl, (hw.ex e1).ex e2, fun w3 H3 e3 h3 _ => ?_⟩
    have t1 := (h1.ex e2).ex e3
    have t2 := h2.ex e3
    refine ⟨_, rfl, _, rfl, _, rfl, n, w1, w2, w3, a.1, a.2, b.1, b.2, c.1, c.2, rfl, t1.pt, t2.pt, h3.pt, n1, sa.1, sa.2, sb.1, sb.2, sc.1, sc.2, fun H4 e4 => ?_⟩
    have e := ((e1.trans e2).trans e3).trans e4
    refine ⟨_, rfl, rfl, _, rfl, ?_⟩
    have nz : decide (V.int (sideI a.1 a.2 b.1 b.2 c.1 c.2) = V.int 0) = false := decide_eq_false (fun q => ne (by injection q))
    rw [nz]
    refine iteF ?_
    refine ⟨_, rfl, _, _, rfl, rfl, _, rfl, ?_⟩
    have fin : ∀ (l : Addr) (y z : V) (qb qc : I2), H4 l = none → IsP C y qb.1 qb.2 H4 → IsP C z qc.1 qc.2 H4 → qb = onB a b c → qc = onC a b c → Q .non (upd (upd H4 l (.lst [w1, y, z])) p (.ins CT dx (tipF l))) := fun l y z qb qc nl hy hz e5 e6 => by
      subst e5 e6
      have g := same_new (o := .lst [w1, y, z]) nl
      have pl : (upd H4 l (.lst [w1, y, z])) p = some (.ins CT dx []) := g _ _ (e _ _ hp)
      have np : l ≠ p := fun q => by
        rw [q, e _ _ hp] at nl
        cases nl
      have one : ∀ (v : V) (x y' : Int), IsP C v x y' H4 → IsP C v x y' (upd (upd H4 l (.lst [w1, y, z])) p (.ins CT dx (tipF l))) := fun v x y' hv => by
        obtain ⟨q, dq, rfl, hq⟩ := hv
        refine ⟨q, dq, rfl, ?_⟩
        have nq : q ≠ p := fun z => by
          rw [z, e _ _ hp] at hq
          injection hq with hq
          injection hq with _ _ h3
          have h4 := congrArg (List.lookup ("x" : Str)) h3
          rw [ptF_x] at h4
          cases h4
        rw [upd_ne nq]
        exact g _ _ hq
      refine k l w1 y z _ ((But.of (e.trans g)).trans But.upd) upd_same ?_ ⟨one _ _ _ ((t1.ex e4)), one _ _ _ hy, one _ _ _ hz⟩
      rw [upd_ne np]
      exact upd_same
    have hb4 := t2.ex e4
    have hc4 := h3.ex e4
    by_cases hs : 0 < sd a b c
    · have hd : decide ((0 : Int) < sideI a.1 a.2 b.1 b.2 c.1 c.2) = true := decide_eq_true hs
      rw [hd]
      refine iteT ?_
      refine ⟨_, rfl, _, rfl, _, rfl, (by show 3 ≤ sizeLine; decide), fun l nl => ?_⟩
      refine ⟨_, rfl, p, CT, dx, [], rfl, same_new nl _ _ (e _ _ hp), d.TT.cl, d.TT.nT, (by show 0 < 1000; decide), ?_⟩
      exact fin l w2 w3 b c nl hb4 hc4 (by unfold onB; rw [if_pos hs]) (by unfold onC; rw [if_pos hs])
    · have hd : decide ((0 : Int) < sideI a.1 a.2 b.1 b.2 c.1 c.2) = false := decide_eq_false hs
      rw [hd]
      refine iteF ?_
      refine ⟨_, rfl, _, rfl, _, rfl, (by show 3 ≤ sizeLine; decide), fun l nl => ?_⟩
      refine ⟨_, rfl, p, CT, dx, [], rfl, same_new nl _ _ (e _ _ hp), d.TT.cl, d.TT.nT, (by show 0 < 1000; decide), ?_⟩
      exact fin l w3 w2 c b nl hc4 hb4 (by unfold onB; rw [if_neg hs]) (by unfold onC; rw [if_neg hs])
end
end Fo
set_option Elab.async false
set_option linter.all false
set_option maxRecDepth 100000
set_option maxHeartbeats 2000000
namespace Fo
open PySem L2
/-! ### the methods of Triangle -/
section
variable {P : Program} {w : World} {K : PySem.W.Frag} {mg : Str → Option Value} {base : Heap}
variable {C fW fI fP fA fO CT fS fTI fCo fEd fAr fEq fAd pAr : Addr} {fdW fdI fdP fdA fdO fdS fdTI fdCo fdEd fdAr fdEq fdAd : FuncData}
/-- Triangle(u, v, w): spTInit's reading at a new instance -/
theorem make_tri {H : Hp} {u v w : V} {a b c : I2} {n : Nat} {Q : VK} {E : XK} (hu : IsPt2 C u a H) (hv : IsPt2 C v b H) (hw : IsPt2 C w c H) (n1 : n < 1000) (sa : Sm2 n a) (sb : Sm2 n b) (sc : Sm2 n c) (ne : sd a b c ≠ 0)
    (k : ∀ t H', Same H H' → IsT C CT t a (onB a b c) (onC a b c) H' → Q t H') :
    ∀ x dx, H x = none → H dx = none → dx ≠ x → spTInit C CT (.ref x :: ([u, v, w] ++ [])) (upd (upd H dx (.own x)) x (.ins CT dx [])) (fun v H2 => v = .non ∧ Q (.ref x) H2) E := fun x dx nx nd ndx => by
  have g1 : Same H (upd (upd H dx (.own x)) x (.ins CT dx [])) := (same_new nd).trans (same_new (by rw [upd_ne ndx.symm]; exact nx))
  refine ⟨n, x, dx, u, v, w, a, b, c, rfl, upd_same, hu.ex g1, hv.ex g1, hw.ex g1, n1, sa, sb, sc, ne, fun l v1 v2 v3 H' bt hx hl ht => ⟨rfl, ?_⟩⟩
  exact k _ H' (bt.same nx g1) ⟨x, dx, l, v1, v2, v3, rfl, hx, hl, ht⟩
theorem scCorners : FnScope ["self"] ["self"] (defScope sCorners) := ⟨rfl, rfl, rfl, by decide +kernel, rfl, by decide +kernel, by decide +kernel⟩
theorem TDefs.GCo (d : TDefs K mg C CT fS fTI fCo fEd fAr fEq fAd pAr fdS fdTI fdCo fdEd fdAr fdEq fdAd) : FnOk P w K mg base CX0 1 fCo fdCo ["self"] (spCorners C CT) := by
  refine d.FCo.ok scCorners (fun vs H Q E h => ?_) (fun cdv A outer s H vs Q E hr h => ?_)
  · obtain ⟨t, a, b, c, rfl, _⟩ := h
    rfl
  · obtain ⟨t, a, b, c, rfl, ⟨q, dx, l, v1, v2, v3, rfl, h1, h2, h3⟩, k⟩ := h
    refine ⟨_, pss_one (ps_ret (pe_callTy call_list_of (by rfl) d.TT.list (by decide +kernel) (pa_cons (pe_fld (pv 0) rfl) pa_nil))), ?_⟩
    refine ⟨_, rfl, q, CT, dx, _, _, rfl, h1, d.TT.cl, d.TT.nT, tipF_tips _, l, _, rfl, .inl (SqL.of h2), fun m nm => ?_⟩
    exact k m v1 v2 v3 _ nm (same_new nm) upd_same (h3.ex (same_new nm))
theorem scEdges : FnScope ["self"] ["self"] (defScope sEdges) := ⟨rfl, rfl, rfl, by decide +kernel, rfl, by decide +kernel, by decide +kernel⟩
theorem TDefs.GEd (d : TDefs K mg C CT fS fTI fCo fEd fAr fEq fAd pAr fdS fdTI fdCo fdEd fdAr fdEq fdAd) : FnOk P w K mg base CX0 1 fEd fdEd ["self"] (spEdges C CT) := by
  refine d.FEd.ok scEdges (fun vs H Q E h => ?_) (fun cdv A outer s H vs Q E hr h => ?_)
  · obtain ⟨t, a, b, c, rfl, _⟩ := h
    rfl
  · obtain ⟨t, a, b, c, rfl, ⟨q, dx, l, v1, v2, v3, rfl, h1, h2, h3⟩, k⟩ := h
    refine ⟨_, pss_one (ps_ret (pe_lst (pa_cons (pe_tup (pa_cons (pe_ix ix_list (pe_fld (pv 0) rfl) pe_int (fun _ _ => rfl)) (pa_cons (pe_ix ix_list (pe_fld (pv 0) rfl) pe_int (fun _ _ => rfl)) pa_nil)))
      (pa_cons (pe_tup (pa_cons (pe_ix ix_list (pe_fld (pv 0) rfl) pe_int (fun _ _ => rfl)) (pa_cons (pe_ix ix_list (pe_fld (pv 0) rfl) pe_int (fun _ _ => rfl)) pa_nil)))
      (pa_cons (pe_tup (pa_cons (pe_ix ix_list (pe_fld (pv 0) rfl) pe_int (fun _ _ => rfl)) (pa_cons (pe_ix ix_list (pe_fld (pv 0) rfl) pe_int (fun _ _ => rfl)) pa_nil))) pa_nil))))), ?_⟩
    have Z : 2 ≤ sizeLine := by decide
    have T := d.TT
    refine ⟨_, rfl, q, CT, dx, _, _, rfl, h1, T.cl, T.nT, tipF_tips _, l, _, _, _, rfl, rfl, SqL.of h2, atI_nat (j := 0) rfl, ?_⟩
    refine ⟨_, rfl, q, CT, dx, _, _, rfl, h1, T.cl, T.nT, tipF_tips _, l, _, _, _, rfl, rfl, SqL.of h2, atI_nat (j := 1) rfl, Z, fun t1 n1 => ?_⟩
    have g1 := same_new (o := .tup [v1, v2]) n1
    have a1 := g1 _ _ h1
    have a2 := g1 _ _ h2
    refine ⟨_, rfl, q, CT, dx, _, _, rfl, a1, T.cl, T.nT, tipF_tips _, l, _, _, _, rfl, rfl, SqL.of a2, atI_nat (j := 1) rfl, ?_⟩
    refine ⟨_, rfl, q, CT, dx, _, _, rfl, a1, T.cl, T.nT, tipF_tips _, l, _, _, _, rfl, rfl, SqL.of a2, atI_nat (j := 2) rfl, Z, fun t2 n2 => ?_⟩
    have g2 := same_new (o := .tup [v2, v3]) n2
    have b1 := g2 _ _ a1
    have b2 := g2 _ _ a2
    refine ⟨_, rfl, q, CT, dx, _, _, rfl, b1, T.cl, T.nT, tipF_tips _, l, _, _, _, rfl, rfl, SqL.of b2, atI_nat (j := 2) rfl, ?_⟩
    refine ⟨_, rfl, q, CT, dx, _, _, rfl, b1, T.cl, T.nT, tipF_tips _, l, _, _, _, rfl, rfl, SqL.of b2, atI_nat (j := 0) rfl, Z, fun t3 n3 => ?_⟩
    have g3 := same_new (o := .tup [v3, v1]) n3
    refine ⟨(by show 3 ≤ sizeLine; decide), fun m nm => ?_⟩
    have g4 := same_new (o := .lst [.ref t1, .ref t2, .ref t3]) nm
    have g := ((g1.trans g2).trans g3).trans g4
    exact k _ _ g ⟨m, t1, t2, t3, v1, v2, v3, rfl, upd_same, (g2.trans (g3.trans g4)) _ _ upd_same, (g3.trans g4) _ _ upd_same, g4 _ _ upd_same, h3.ex g⟩
theorem sd_mv (a b c q : I2) : sd (mv a q) (mv b q) (mv c q) = sd a b c := by
  unfold sd sideI mv
  grind
theorem Sm.add {n : Nat} {x y : Int} (hx : Sm n x) (hy : Sm n y) : Sm (n + 1) (x + y) := by
  unfold Sm at *
  rw [Nat.pow_succ]
  omega
theorem Sm2.mv {n : Nat} {p q : I2} (hp : Sm2 n p) (hq : Sm2 n q) : Sm2 (n + 1) (mv p q) := ⟨hp.1.add hq.1, hp.2.add hq.2⟩
theorem scMoved : FnScope ["self", "by", "step"] ["self", "by"] (defScope sMoved) := ⟨rfl, rfl, rfl, by decide +kernel, rfl, by decide +kernel, by decide +kernel⟩
theorem ok_moved {f : Addr} {fd : FuncData} (F : Fun K "moved" "Triangle.moved" sMoved f fd) (d : TDefs K mg C CT fS fTI fCo fEd fAr fEq fAd pAr fdS fdTI fdCo fdEd fdAr fdEq fdAd) (D : Defs K mg C fW fI fP fA fO fdW fdI fdP fdA fdO) : FnOk P w K mg base CX0 10 f fd ["self", "by"] (spMoved C CT) := by
  have GA : FnOk P w K mg base CX0 4 fA fdA ["thing"] (spAsPoint C) := D.GA
  have GAd : FnOk P w K mg base CX0 6 fAd fdAd ["self", "other"] (spBin C (· + ·)) := ok_add d.FAd D
  have GTI : FnOk P w K mg base CX0 8 fTI fdTI ["self", "a", "b", "c"] (spTInit C CT) := d.GTI D
  refine F.ok scMoved (fun vs H Q E h => ?_) (fun cdv A outer s H vs Q E hr h => ?_)
  · obtain ⟨n, t, u, a, b, c, q, rfl, _⟩ := h
    rfl
  · obtain ⟨n, t, u, a, b, c, by', rfl, ⟨q, dx, l, v1, v2, v3, rfl, h1, h2, h3⟩, hu, n1, sa, sb, sc, sy, pos, k⟩ := h
    have hr6 : Room 6 _ := hr.mono (by decide)
    refine ⟨_, pss_cons (ps_set (i := 2) scMoved.nd rfl (Or.inl rfl) (pe_call GA (hr.mono (by decide)) rfl D.mA D.FA.kp D.bA .nil pass0 (pa_cons (pv 1) pa_nil)))
      (pss_one (ps_ret (pe_make d.MT GTI hr rfl d.TT.mgT d.bTI .nil pass0
        (pa_cons (pe_op (op_own d.oAd FoOps.tup_add GAd hr6 d.bAd pass0) (pe_ix ix_list (pe_fld (pv 0) rfl) pe_int (fun _ _ => rfl)) (pv 2))
        (pa_cons (pe_op (op_own d.oAd FoOps.tup_add GAd hr6 d.bAd pass0) (pe_ix ix_list (pe_fld (pv 0) rfl) pe_int (fun _ _ => rfl)) (pv 2))
        (pa_cons (pe_op (op_own d.oAd FoOps.tup_add GAd hr6 d.bAd pass0) (pe_ix ix_list (pe_fld (pv 0) rfl) pe_int (fun _ _ => rfl)) (pv 2)) pa_nil)))))), ?_⟩
    have T := d.TT
    refine ⟨_, rfl, u, by'.1, by'.2, rfl, hu, fun w0 H0 e0 h0 _ => ?_⟩
    have p1 := e0 _ _ h1
    have p2 := e0 _ _ h2
    have t3 := h3.ex e0
    obtain ⟨q1, d1, r1, z1⟩ := id t3.1
    refine ⟨_, rfl, q, CT, dx, _, _, rfl, p1, T.cl, T.nT, tipF_tips _, l, _, _, _, rfl, rfl, SqL.of p2, atI_nat (j := 0) rfl, ?_⟩
    refine ⟨_, rfl, q1, d1, _, r1, z1, h0.pt.opnd, v1, w0, _, _, _, _, rfl, t3.1, h0.pt, fun x1 H1 e1 m1 => ?_⟩
    have t4 := t3.ex e1
    have k0 := h0.ex e1
    obtain ⟨q2, d2, r2, z2⟩ := id t4.2.1
    refine ⟨_, rfl, q, CT, dx, _, _, rfl, e1 _ _ p1, T.cl, T.nT, tipF_tips _, l, _, _, _, rfl, rfl, SqL.of (e1 _ _ p2), atI_nat (j := 1) rfl, ?_⟩
    refine ⟨_, rfl, q2, d2, _, r2, z2, k0.pt.opnd, v2, w0, _, _, _, _, rfl, t4.2.1, k0.pt, fun x2 H2 e2 m2 => ?_⟩
    have t5 := t4.ex e2
    have k1 := k0.ex e2
    obtain ⟨q3, d3, r3, z3⟩ := id t5.2.2
    refine ⟨_, rfl, q, CT, dx, _, _, rfl, e2 _ _ (e1 _ _ p1), T.cl, T.nT, tipF_tips _, l, _, _, _, rfl, rfl, SqL.of (e2 _ _ (e1 _ _ p2)), atI_nat (j := 2) rfl, ?_⟩
    refine ⟨_, rfl, q3, d3, _, r3, z3, k1.pt.opnd, v3, w0, _, _, _, _, rfl, t5.2.2, k1.pt, fun x3 H3 e3 m3 => ?_⟩
    have pos' : 0 < sd (mv a by') (mv b by') (mv c by') := by rw [sd_mv]; exact pos
    refine make_tri (n := n + 1) (a := mv a by') (b := mv b by') (c := mv c by') ((m1.ex e2).ex e3).pt (m2.ex e3).pt m3.pt (by omega) (sa.mv sy) (sb.mv sy) (sc.mv sy) (by omega) fun v H4 e4 h4 => ?_
    have e5 : onB (mv a by') (mv b by') (mv c by') = mv b by' := by unfold onB; rw [if_pos pos']
    have e6 : onC (mv a by') (mv b by') (mv c by') = mv c by' := by unfold onC; rw [if_pos pos']
    rw [e5, e6] at h4
    exact k v H4 (e0.trans (e1.trans (e2.trans (e3.trans e4)))) h4
end
end Fo
set_option Elab.async false
set_option linter.all false
set_option maxRecDepth 100000
set_option maxHeartbeats 2000000
namespace Fo
open PySem L2
/-! ### list comprehensions with any target -/
/-- [te for g in l] -/
theorem lc_all {K : PySem.W.Frag} {l D : Addr} {g : TG} {te : TE} {sl : List Nat} {σ : L2.St} {H1 : Hp} {xs : List V} {Qd : Hp → Prop} (R : Nat → V → Hp → Prop) (rex : ∀ i v H H', Same H H' → R i v H → R i v H') (rbut : ∀ i v H H' D ys, H D = some (HO.lst ys) → But D H H' → R i v H → R i v H')
    (hl : SqL K H1 l xs) (hn : xs.length ≤ 1000)
    (step : ∀ i x H', xs[i]? = some x → Same H1 H' → ∀ Q' : VK, (∀ v H'', Same H' H'' → R i v H'' → Q' v H'') → g x (wipe σ sl) H' fun σ2 H2 => wipe σ2 sl = wipe σ sl ∧ te σ2 H2 Q')
    (hd : ∀ H' vs, Same H1 H' → H' D = some (.lst vs) → vs.length = xs.length → (∀ i v, vs[i]? = some v → R i v H') → Qd H') (hD : H1 D = none) :
    ∃ W : Nat → Nat → Hp → Prop, (∃ m, W 0 m (upd H1 D (.lst []))) ∧ ∀ i m H, W i m H → ((Itl K l).stop i H ∧ Qd H) ∨
      ((Itl K l).go i H ∧ ∃ Nx : Hp → Prop, (∀ H', Nx H' → ∃ m', m' < m ∧ W (i + 1) m' H') ∧ ∀ x H', (Itl K l).yld i H x H' → g x (wipe σ sl) H' fun σ2 H2 => wipe σ2 sl = wipe σ sl ∧ tYes σ2 H2 fun b H3 =>
      if b = true then te σ2 H3 fun y H4 => ∃ acc, H4 D = some (.lst acc) ∧ acc.length < sizeLine ∧ Nx (upd H4 D (.lst (acc ++ [y]))) else Nx H3) := by
  refine lc_list (K := K) (a := l) (xs := xs) (fun i H' => Same H1 H' ∧ ∃ vs : List V, H' D = some (.lst vs) ∧ vs.length = i ∧ ∀ j v, vs[j]? = some v → R j v H') ?_ ?_ ?_ ?_
  · exact ⟨same_new hD, [], upd_same, rfl, fun j v h => by simp at h⟩
  · rintro i H' _ ⟨e, _⟩
    exact e.seq hl
  · rintro i x H' hx ⟨e, vs, hv, hlen, hp⟩
    have hi : i < xs.length := (List.getElem?_eq_some_iff.mp hx).1
    refine step i x H' hx e (fun y H4 => ∃ acc, H4 D = some (.lst acc) ∧ acc.length < sizeLine ∧ Same H1 (upd H4 D (.lst (acc ++ [y]))) ∧ ∃ vs : List V, (upd H4 D (.lst (acc ++ [y]))) D = some (.lst vs) ∧ vs.length = i + 1 ∧ ∀ j v, vs[j]? = some v → R j v (upd H4 D (.lst (acc ++ [y])))) fun v H'' e2 h2 => ?_
    have hv2 := e2 _ _ hv
    refine ⟨vs, hv2, Nat.lt_of_lt_of_le (by omega : vs.length < 1001) (by decide), (But.upd.same hD (e.trans e2)), vs ++ [v], upd_same, by rw [List.length_append, hlen]; rfl, fun j u hu => ?_⟩
    by_cases hj : j < vs.length
    · rw [List.getElem?_append_left hj] at hu
      exact rbut _ _ _ _ _ _ hv2 But.upd (rex _ _ _ _ e2 (hp j u hu))
    · have hj2 : j = vs.length := by
        have := (List.getElem?_eq_some_iff.mp hu).1
        rw [List.length_append] at this
        simp at this
        omega
      subst hj2
      rw [List.getElem?_append_right (Nat.le_refl _)] at hu
      simp at hu
      subst hu
      rw [hlen]
      exact rbut _ _ _ _ _ _ hv2 But.upd h2
  · rintro H' ⟨e, vs, hv, hlen, hp⟩
    exact hd H' vs e hv hlen hp
/-- how many of the first i are kept -/
def kept (keep : Nat → Bool) : Nat → Nat
  | 0 => 0
  | i + 1 => kept keep i + (if keep i = true then 1 else 0)
theorem kept_zero {keep : Nat → Bool} : ∀ {n : Nat}, kept keep n = 0 ↔ ∀ j, j < n → keep j = false
  | 0 => ⟨fun _ j hj => absurd hj (Nat.not_lt_zero _), fun _ => rfl⟩
  | n + 1 => by
    have ih := kept_zero (keep := keep) (n := n)
    show kept keep n + (if keep n = true then 1 else 0) = 0 ↔ _
    constructor
    · intro h j hj
      cases hk : keep n with
      | true =>
        rw [hk, if_pos rfl] at h
        omega
      | false =>
        rw [hk] at h
        by_cases q : j = n
        · rw [q]; exact hk
        · exact ih.mp (by simpa using h) j (by omega)
    · intro h
      rw [h n (Nat.lt_succ_self _), ih.mpr fun j hj => h j (by omega)]
      rfl
/-- [c for g in l if tt] -/
theorem lc_filt {K : PySem.W.Frag} {l D : Addr} {g : TG} {tt : TT} {te : TE} {sl : List Nat} {σ : L2.St} {H1 : Hp} {xs : List V} {Qd : Hp → Prop} (keep : Nat → Bool) (c : V)
    (hl : SqL K H1 l xs) (hn : xs.length ≤ 1000)
    (step : ∀ i x H', xs[i]? = some x → Same H1 H' → ∀ Nx : Hp → Prop, ∀ Q' : VK, (keep i = false → ∀ H'', Same H' H'' → Nx H'') → (keep i = true → ∀ H'', Same H' H'' → Q' c H'') → g x (wipe σ sl) H' fun σ2 H2 => wipe σ2 sl = wipe σ sl ∧ tt σ2 H2 fun b H3 => if b = true then te σ2 H3 Q' else Nx H3)
    (hd : ∀ H', Same H1 H' → H' D = some (.lst (List.replicate (kept keep xs.length) c)) → Qd H') (hD : H1 D = none) :
    ∃ W : Nat → Nat → Hp → Prop, (∃ m, W 0 m (upd H1 D (.lst []))) ∧ ∀ i m H, W i m H → ((Itl K l).stop i H ∧ Qd H) ∨
      ((Itl K l).go i H ∧ ∃ Nx : Hp → Prop, (∀ H', Nx H' → ∃ m', m' < m ∧ W (i + 1) m' H') ∧ ∀ x H', (Itl K l).yld i H x H' → g x (wipe σ sl) H' fun σ2 H2 => wipe σ2 sl = wipe σ sl ∧ tt σ2 H2 fun b H3 =>
      if b = true then te σ2 H3 fun y H4 => ∃ acc, H4 D = some (.lst acc) ∧ acc.length < sizeLine ∧ Nx (upd H4 D (.lst (acc ++ [y]))) else Nx H3) := by
  refine lc_list (K := K) (a := l) (xs := xs) (fun i H' => Same H1 H' ∧ i ≤ xs.length ∧ H' D = some (.lst (List.replicate (kept keep i) c))) ?_ ?_ ?_ ?_
  · exact ⟨same_new hD, Nat.zero_le _, upd_same⟩
  · rintro i H' _ ⟨e, _⟩
    exact e.seq hl
  · rintro i x H' hx ⟨e, hi', hv⟩
    have hi : i < xs.length := (List.getElem?_eq_some_iff.mp hx).1
    have hk : ∀ j, kept keep j ≤ j := fun j => by
      induction j with
      | zero => exact Nat.le_refl _
      | succ j ih =>
        show kept keep j + _ ≤ j + 1
        split <;> omega
    refine step i x H' hx e _ _ (fun hf H'' e2 => ?_) fun ht H'' e2 => ?_
    · refine ⟨e.trans e2, hi, ?_⟩
      show H'' D = some (.lst (List.replicate (kept keep i + (if keep i = true then 1 else 0)) c))
      rw [hf]
      exact e2 _ _ hv
    · have := hk i
      refine ⟨_, e2 _ _ hv, Nat.lt_of_lt_of_le (by rw [List.length_replicate]; omega : _ < 1001) (by decide), (But.upd.same hD (e.trans e2)), hi, ?_⟩
      rw [upd_same]
      show some (HO.lst _) = some (.lst (List.replicate (kept keep i + (if keep i = true then 1 else 0)) c))
      rw [ht, if_pos rfl, List.replicate_succ']
  · rintro H' ⟨e, _, hv⟩
    exact hd H' e hv
/-- [te for g in range(n)] -/
theorem lc_rAll {D : Addr} {lo : Int} {n : Nat} {g : TG} {te : TE} {sl : List Nat} {σ : L2.St} {H1 : Hp} {Qd : Hp → Prop} (R : Nat → V → Hp → Prop) (rex : ∀ i v H H', Same H H' → R i v H → R i v H') (rbut : ∀ i v H H' D ys, H D = some (HO.lst ys) → But D H H' → R i v H → R i v H')
    (hn : n ≤ 1000)
    (step : ∀ i H', i < n → Same H1 H' → ∀ Q' : VK, (∀ v H'', Same H' H'' → R i v H'' → Q' v H'') → g (.int (lo + i)) (wipe σ sl) H' fun σ2 H2 => wipe σ2 sl = wipe σ sl ∧ te σ2 H2 Q')
    (hd : ∀ H' vs, Same H1 H' → H' D = some (.lst vs) → vs.length = n → (∀ i v, vs[i]? = some v → R i v H') → Qd H') (hD : H1 D = none) :
    ∃ W : Nat → Nat → Hp → Prop, (∃ m, W 0 m (upd H1 D (.lst []))) ∧ ∀ i m H, W i m H → ((Itr lo n).stop i H ∧ Qd H) ∨
      ((Itr lo n).go i H ∧ ∃ Nx : Hp → Prop, (∀ H', Nx H' → ∃ m', m' < m ∧ W (i + 1) m' H') ∧ ∀ x H', (Itr lo n).yld i H x H' → g x (wipe σ sl) H' fun σ2 H2 => wipe σ2 sl = wipe σ sl ∧ tYes σ2 H2 fun b H3 =>
      if b = true then te σ2 H3 fun y H4 => ∃ acc, H4 D = some (.lst acc) ∧ acc.length < sizeLine ∧ Nx (upd H4 D (.lst (acc ++ [y]))) else Nx H3) := by
  refine lc_range (lo := lo) (n := n) (fun i H' => Same H1 H' ∧ ∃ vs : List V, H' D = some (.lst vs) ∧ vs.length = i ∧ ∀ j v, vs[j]? = some v → R j v H') ?_ ?_ ?_
  · exact ⟨same_new hD, [], upd_same, rfl, fun j v h => by simp at h⟩
  · rintro i H' hi ⟨e, vs, hv, hlen, hp⟩
    refine step i H' hi e (fun y H4 => ∃ acc, H4 D = some (.lst acc) ∧ acc.length < sizeLine ∧ Same H1 (upd H4 D (.lst (acc ++ [y]))) ∧ ∃ vs : List V, (upd H4 D (.lst (acc ++ [y]))) D = some (.lst vs) ∧ vs.length = i + 1 ∧ ∀ j v, vs[j]? = some v → R j v (upd H4 D (.lst (acc ++ [y])))) fun v H'' e2 h2 => ?_
    have hv2 := e2 _ _ hv
    refine ⟨vs, hv2, Nat.lt_of_lt_of_le (by omega : vs.length < 1001) (by decide), (But.upd.same hD (e.trans e2)), vs ++ [v], upd_same, by rw [List.length_append, hlen]; rfl, fun j u hu => ?_⟩
    by_cases hj : j < vs.length
    · rw [List.getElem?_append_left hj] at hu
      exact rbut _ _ _ _ _ _ hv2 But.upd (rex _ _ _ _ e2 (hp j u hu))
    · have hj2 : j = vs.length := by
        have := (List.getElem?_eq_some_iff.mp hu).1
        rw [List.length_append] at this
        simp at this
        omega
      subst hj2
      rw [List.getElem?_append_right (Nat.le_refl _)] at hu
      simp at hu
      subst hu
      rw [hlen]
      exact rbut _ _ _ _ _ _ hv2 But.upd h2
  · rintro H' ⟨e, vs, hv, hlen, hp⟩
    exact hd H' vs e hv hlen hp
theorem IsP.but {C D : Addr} {v : V} {x y : Int} {H H' : Hp} {ys : List V} (hD : H D = some (.lst ys)) (b : But D H H') (h : IsP C v x y H) : IsP C v x y H' := by
  obtain ⟨a, dx, rfl, h⟩ := h
  exact ⟨a, dx, rfl, b _ _ (ne_of h hD (by intro z; cases z)) h⟩
theorem two3 {e1 e2 e3 x : V} {i : Nat} (h : [e1, e2, e3][i]? = some x) : (i = 0 ∧ x = e1) ∨ (i = 1 ∧ x = e2) ∨ (i = 2 ∧ x = e3) := by
  match i, h with
  | 0, h => exact .inl ⟨rfl, (Option.some.inj h).symm⟩
  | 1, h => exact .inr (.inl ⟨rfl, (Option.some.inj h).symm⟩)
  | 2, h => exact .inr (.inr ⟨rfl, (Option.some.inj h).symm⟩)
  | n + 3, h => simp at h
theorem len3' {vs : List V} (h : vs.length = 3) : ∃ a b c, vs = [a, b, c] := by
  match vs, h with
  | [a, b, c], _ => exact ⟨a, b, c, rfl⟩
end Fo
set_option Elab.async false
set_option linter.all false
set_option maxRecDepth 100000
set_option maxHeartbeats 2000000
namespace Fo
open PySem L2
/-! ### in and == of Triangle -/
section
variable {P : Program} {w : World} {K : PySem.W.Frag} {mg : Str → Option Value} {base : Heap}
variable {C fW fI fP fA fO CT fS fTI fCo fEd fAr fEq fAd pAr CI fII : Addr} {fdW fdI fdP fdA fdO fdS fdTI fdCo fdEd fdAr fdEq fdAd : FuncData}
theorem scTIn : FnScope ["self", "x", "a", "b"] ["self", "x"] (defScope sTIn) := ⟨rfl, rfl, rfl, by decide +kernel, rfl, by decide +kernel, by decide +kernel⟩
theorem ok_tin {f : Addr} {fd : FuncData} (F : Fun K "__contains__" "Triangle.__contains__" sTIn f fd) (d : TDefs K mg C CT fS fTI fCo fEd fAr fEq fAd pAr fdS fdTI fdCo fdEd fdAr fdEq fdAd) (D : Defs K mg C fW fI fP fA fO fdW fdI fdP fdA fdO) (TX : TxtX P K mg C CI fII) :
    FnOk P w K mg base CX0 8 f fd ["self", "x"] (spTIn C CT) := by
  have GP : FnOk P w K mg base CX0 2 fP fdP ["thing"] (fun vs H Q E => spIsPoint C vs H Q E ∨ spIsPointX C vs H Q E) := D.GP.or (ok_is_pointX D TX)
  have GS : FnOk P w K mg base CX0 7 fS fdS ["a", "b", "point"] (spSide C) := ok_side d.FS D
  have GE : FnOk P w K mg base CX0 1 fEd fdEd ["self"] (spEdges C CT) := d.GEd
  have T := d.TT
  refine F.ok scTIn (fun vs H Q E h => ?_) (fun cdv A outer s H vs Q E hr h => ?_)
  · obtain ⟨t, u, rfl, _⟩ := h
    rfl
  · obtain ⟨t, u, rfl, h⟩ := h
    refine ⟨_, pss_one (ps_ret (pe_and (pe_call GP (hr.mono (by decide)) rfl D.mP D.FP.kp D.bP .nil pass0 (pa_cons (pv 1) pa_nil))
      (pe_one (pe_callB (cr_all rfl) (by rfl) T.all (by decide +kernel) (pa_cons
        (pe_lc (own := [("a", 2), ("b", 3)]) (g := gTup K 2 (gCons (gName 2) (gCons (gName 3) gNil))) (tt := tYes) rfl scTIn.nd (pi_list (pe_meth0 (pv 0) T.cl d.mEd GE (hr.mono (by decide)) d.bEd .nil pass0))
          (blkOk_by (own := [("a", 2), ("b", 3)]) (N := ["self", "x", "a", "b"]) (sc := defScope sTIn) (by decide +kernel))
          (fun _ _ _ _ _ => pg_tup rfl (pgs_cons (pg_name (i := 2) scTIn.nd rfl (Or.inl rfl)) (pgs_cons (pg_name (i := 3) scTIn.nd rfl (Or.inl rfl)) pgs_nil)))
          (fun _ _ _ _ _ => pts_nil)
          (fun _ _ _ _ _ => pe_cmpR op_ge (pe_call GS hr rfl d.mS d.FS.kp d.bS .nil pass0 (pa_cons (pv 2) (pa_cons (pv 3) (pa_cons (pv 1) pa_nil)))) pe_int (nomark _))) pa_nil))))), ?_⟩
    rcases h with ⟨n, a, b, c, p, ht, hp, n1, sa, sb, sc, sp, k⟩ | ⟨bad, k⟩
    · refine ⟨_, rfl, .inl ⟨u, p.1, p.2, rfl, hp, true, rfl, ?_⟩⟩
      refine iteT ?_
      obtain ⟨q, dx, l, v1, v2, v3, rfl, h1, _⟩ := id ht
      refine ⟨_, rfl, q, dx, _, rfl, h1, tipF_no _ (by decide +kernel), _, a, b, c, rfl, ht, fun v H1 e1 hE => ?_⟩
      obtain ⟨m, t1, t2, t3, w1, w2, w3, rfl, g0, g1, g2, g3, th⟩ := hE
      refine ⟨m, rfl, ⟨_, SqL.of g0⟩, fun D0 nD => ?_⟩
      refine lc_all (K := K) (xs := [.ref t1, .ref t2, .ref t3]) (sl := [2, 3]) (fun i v _ => v = .bl (decide (0 ≤ (if i = 0 then sd a b p else if i = 1 then sd b c p else sd c a p)))) (fun _ _ _ _ _ h => h) (fun _ _ _ _ _ _ _ _ h => h) (SqL.of g0) (by show 3 ≤ 1000; decide) ?_ ?_ nD
      · intro i x H2 hx e2 Q' k'
        have th2 := th.ex e2
        have hp2 := hp.ex (e1.trans e2)
        rcases two3 hx with ⟨rfl, rfl⟩ | ⟨rfl, rfl⟩ | ⟨rfl, rfl⟩
        · refine ⟨t1, _, rfl, SqT.of (e2 _ _ g1), rfl, _, _, rfl, _, _, rfl, rfl, rfl, ?_⟩
          refine ⟨_, rfl, _, rfl, _, rfl, n, w1, w2, u, a.1, a.2, b.1, b.2, p.1, p.2, rfl, th2.1.pt, th2.2.1.pt, hp2, n1, sa.1, sa.2, sb.1, sb.2, sp.1, sp.2, fun H3 e3 => ?_⟩
          exact ⟨_, _, rfl, rfl, k' _ _ e3 rfl⟩
        · refine ⟨t2, _, rfl, SqT.of (e2 _ _ g2), rfl, _, _, rfl, _, _, rfl, rfl, rfl, ?_⟩
          refine ⟨_, rfl, _, rfl, _, rfl, n, w2, w3, u, b.1, b.2, c.1, c.2, p.1, p.2, rfl, th2.2.1.pt, th2.2.2.pt, hp2, n1, sb.1, sb.2, sc.1, sc.2, sp.1, sp.2, fun H3 e3 => ?_⟩
          exact ⟨_, _, rfl, rfl, k' _ _ e3 rfl⟩
        · refine ⟨t3, _, rfl, SqT.of (e2 _ _ g3), rfl, _, _, rfl, _, _, rfl, rfl, rfl, ?_⟩
          refine ⟨_, rfl, _, rfl, _, rfl, n, w3, w1, u, c.1, c.2, a.1, a.2, p.1, p.2, rfl, th2.2.2.pt, th2.1.pt, hp2, n1, sc.1, sc.2, sa.1, sa.2, sp.1, sp.2, fun H3 e3 => ?_⟩
          exact ⟨_, _, rfl, rfl, k' _ _ e3 rfl⟩
      · intro H2 vs e2 hv hlen hR
        obtain ⟨x1, x2, x3, rfl⟩ := len3' hlen
        have r1 := hR 0 x1 rfl
        have r2 := hR 1 x2 rfl
        have r3 := hR 2 x3 rfl
        subst r1 r2 r3
        refine ⟨D0, [decide (0 ≤ sd a b p), decide (0 ≤ sd b c p), decide (0 ≤ sd c a p)], rfl, SqL.of hv, ?_⟩
        have e : ([decide (0 ≤ sd a b p), decide (0 ≤ sd b c p), decide (0 ≤ sd c a p)].all id) = inT a b c p := by simp [inT]
        rw [e]
        exact k _ (e1.trans e2)
    · refine ⟨_, rfl, .inr ⟨u, rfl, bad, false, rfl, ?_⟩⟩
      exact iteF k
theorem ty_tri {t dx : Addr} {fs : List (Str × V)} {H : Hp} (T : TxtT K mg CT) (T0 : Txt K mg C) (h : H t = some (.ins CT dx fs)) : TyX K H (.ref t) (.ref CT) := .base (.ins h T.cl T.ha T0.hn T0.htk T.hm)
theorem ext_same {H H' : Hp} (e : Ext H H') : Same H H' := fun a o h => e a o h
theorem i2_dec (a b : I2) : (decide (a.1 = b.1) && decide (a.2 = b.2)) = decide (a = b) := by
  by_cases h : a = b
  · subst h
    simp
  · rw [decide_eq_false h]
    by_cases h1 : a.1 = b.1
    · have h2 : a.2 ≠ b.2 := fun q => h (Prod.ext h1 q)
      simp [h2]
    · simp [h1]
theorem dOwn_pt {x y : V} {a b : I2} {H : Hp} {E : XK} (hx : IsP C x a.1 a.2 H) (hy : IsP C y b.1 b.2 H) : DOwn C (spEqP C) E x y (decide (a = b)) H := by
  obtain ⟨p, dx, rfl, hp⟩ := id hx
  obtain ⟨q, dy, rfl, hq⟩ := id hy
  refine ⟨p, q, dx, dy, _, _, rfl, rfl, hp, hq, fun e => ?_, _, _, _, _, _, _, rfl, hx, .inl ⟨hy, ?_, Ext.rfl'⟩⟩
  · subst e
    rw [hp] at hq
    injection hq with hq
    injection hq with _ _ hq
    have e1 : a.1 = b.1 := by
      have z := congrArg (List.lookup ("x" : Str)) hq
      rw [ptF_x, ptF_x] at z
      injection z with z
      injection z
    have e2 : a.2 = b.2 := by
      have z := congrArg (List.lookup ("y" : Str)) hq
      rw [ptF_y, ptF_y] at z
      injection z with z
      injection z
    exact decide_eq_true (Prod.ext e1 e2)
  · rw [i2_dec]
theorem monB_pt : MonB (fun x y b H => ∃ a c : I2, IsP C x a.1 a.2 H ∧ IsP C y c.1 c.2 H ∧ b = decide (a = c)) := fun x y b H H' e ⟨a, c, h1, h2, h3⟩ => ⟨a, c, h1.ex (ext_same e), h2.ex (ext_same e), h3⟩
/-- two Points, as tuples and lists ask -/
def DPt (C : Addr) : EqvB := fun x y b H => ∃ a c : I2, IsP C x a.1 a.2 H ∧ IsP C y c.1 c.2 H ∧ b = decide (a = c)
theorem eqB_pt {X : Cx} (F : FnOk X.prog X.w X.K X.mg X.base CX0 1 fEq fdEq ["self", "other"] (spEqP C)) (hs : PySem.W.findIn X.K (.ref C) "__eq__" = some (some (.ref fEq))) (hf : PySem.W.isFn X.K (.ref fEq) = true) (hb : Binds X.K fdEq ["self", "other"] []) : EqB X 1 (DPt C) := by
  intro A pins s σ H x y u v b sb I rx ry d
  obtain ⟨a, c, h1, h2, rfl⟩ := d
  exact eqB_own (E := fun _ _ _ => False) F hs hf hb pass0 A pins s σ H x y u v _ sb I rx ry (dOwn_pt h1 h2)
theorem pair_eq {e q : Addr} {x1 x2 y1 y2 : V} {a b c d : I2} {H : Hp} (he : H e = some (.tup [x1, x2])) (hq : H q = some (.tup [y1, y2])) (h1 : IsP C x1 a.1 a.2 H) (h2 : IsP C x2 b.1 b.2 H) (h3 : IsP C y1 c.1 c.2 H) (h4 : IsP C y2 d.1 d.2 H) :
    DPair K (DPt C) (.ref e) (.ref q) (decide (a = c) && decide (b = d)) H := by
  refine ⟨e, q, x1, x2, y1, y2, _, _, rfl, rfl, SqT.of he, SqT.of hq, fun z => ?_, ⟨a, c, h1, h3, rfl⟩, ⟨b, d, h2, h4, rfl⟩, rfl⟩
  subst z
  rw [he] at hq
  injection hq with hq
  injection hq with hq
  injection hq with e1 hq
  injection hq with e2 _
  subst e1 e2
  have same : ∀ {v : V} {a c : I2}, IsP C v a.1 a.2 H → IsP C v c.1 c.2 H → a = c := fun {v a c} h h' => by
    obtain ⟨p, dx, rfl, hp⟩ := h
    obtain ⟨p', dx', e, hp'⟩ := h'
    cases e
    rw [hp] at hp'
    injection hp' with z
    injection z with _ _ z
    have e1 : a.1 = c.1 := by
      have z := congrArg (List.lookup ("x" : Str)) z
      rw [ptF_x, ptF_x] at z
      injection z with z
      injection z
    have e2 : a.2 = c.2 := by
      have z := congrArg (List.lookup ("y" : Str)) z
      rw [ptF_y, ptF_y] at z
      injection z with z
      injection z
    exact Prod.ext e1 e2
  rw [decide_eq_true (same h1 h3), decide_eq_true (same h2 h4)]
  rfl
theorem scTEq : FnScope ["self", "other"] ["self", "other"] (defScope sTEq) := ⟨rfl, rfl, rfl, by decide +kernel, rfl, by decide +kernel, by decide +kernel⟩
theorem ok_teq {f : Addr} {fd : FuncData} (F : Fun K "__eq__" "Triangle.__eq__" sTEq f fd) (d : TDefs K mg C CT fS fTI fCo fEd fAr fEq fAd pAr fdS fdTI fdCo fdEd fdAr fdEq fdAd) (D : Defs K mg C fW fI fP fA fO fdW fdI fdP fdA fdO) : FnOk P w K mg base CX0 4 f fd ["self", "other"] (spTEq C CT) := by
  have GE : FnOk P w K mg base CX0 1 fEd fdEd ["self"] (spEdges C CT) := d.GEd
  have GQ : FnOk P w K mg base CX0 1 fEq fdEq ["self", "other"] (spEqP C) := ok_eq d.FEq D.T
  have T := d.TT
  refine F.ok scTEq (fun vs H Q E h => ?_) (fun cdv A outer s H vs Q E hr h => ?_)
  · obtain ⟨t, u, a, b, c, rfl, _⟩ := h
    rfl
  · obtain ⟨t, u, a, b, c, rfl, ht, h⟩ := h
    have hr1 : Room 1 _ := hr.mono (by decide)
    refine ⟨_, pss_one (ps_ret (pe_and (pe_callB call_isi (by rfl) D.T.isi (by decide +kernel) (pa_cons (pv 1) (pa_cons (pe_glob (v := .ref CT) rfl T.mgT rfl) pa_nil)))
      (pe_and (pe_cmpR (op_inG (monB_pair (K := K) monB_pt) (eqB_pair (monB_pt) (eqB_pt GQ d.oEq d.iEq d.bEq)) (hr.mono (by decide))) (pe_ix ix_list (pe_meth0 (pv 0) T.cl d.mEd GE hr1 d.bEd .nil pass0) pe_int (fun _ _ => rfl)) (pe_meth0 (pv 1) T.cl d.mEd GE hr1 d.bEd .nil pass0) (by rfl))
      (pe_one (pe_cmpR (op_inG (monB_pair (K := K) monB_pt) (eqB_pair (monB_pt) (eqB_pt GQ d.oEq d.iEq d.bEq)) (hr.mono (by decide))) (pe_ix ix_list (pe_meth0 (pv 0) T.cl d.mEd GE hr1 d.bEd .nil pass0) pe_int (fun _ _ => rfl)) (pe_meth0 (pv 1) T.cl d.mEd GE hr1 d.bEd .nil pass0) (by rfl)))))), ?_⟩
    rcases h with ⟨d', e', f', hu, k⟩ | ⟨⟨q, xs, rfl, hq⟩, k⟩
    · obtain ⟨t1, dx1, l1, x1, x2, x3, rfl, p1, _⟩ := id ht
      obtain ⟨t2, dx2, l2, y1, y2, y3, rfl, p2, _⟩ := id hu
      refine ⟨_, rfl, _, _, _, _, true, rfl, .own CT, ty_tri T D.T p2, T.kTT, true, rfl, ?_⟩
      refine iteT ?_
      refine ⟨_, rfl, t1, dx1, _, rfl, p1, tipF_no _ (by decide +kernel), _, a, b, c, rfl, ht, fun v H1 e1 hE => ?_⟩
      obtain ⟨m, g1, g2, g3, w1, w2, w3, rfl, z0, z1, z2, z3, th⟩ := hE
      refine ⟨m, _, _, _, rfl, rfl, SqL.of z0, atI_nat (j := 0) rfl, ?_⟩
      have hu1 := hu.ex e1
      refine ⟨_, rfl, t2, dx2, _, rfl, e1 _ _ p2, tipF_no _ (by decide +kernel), _, d', e', f', rfl, hu1, fun v H2 e2 hE2 => ?_⟩
      obtain ⟨m', s1, s2, s3, w1', w2', w3', rfl, c0, c1, c2, c3, th'⟩ := hE2
      have th2 := th.ex e2
      refine ⟨m', _, [decide (d' = a) && decide (e' = b), decide (e' = a) && decide (f' = b), decide (f' = a) && decide (d' = b)], rfl, c0, rfl, ?_, fun H3 e3 => ?_⟩
      · intro i z bb hz hb
        rcases two3 hz with ⟨rfl, rfl⟩ | ⟨rfl, rfl⟩ | ⟨rfl, rfl⟩
        · cases hb
          exact pair_eq c1 (e2 _ _ z1) th'.1 th'.2.1 th2.1 th2.2.1
        · cases hb
          exact pair_eq c2 (e2 _ _ z1) th'.2.1 th'.2.2 th2.1 th2.2.1
        · cases hb
          exact pair_eq c3 (e2 _ _ z1) th'.2.2 th'.1 th2.1 th2.2.1
      have h1e : ([decide (d' = a) && decide (e' = b), decide (e' = a) && decide (f' = b), decide (f' = a) && decide (d' = b)].any id) = hasE a b d' e' f' := by simp [hasE]
      rw [h1e]
      refine ⟨_, rfl, ?_⟩
      have E3 := (e1.trans e2).trans (ext_same e3)
      cases hh : hasE a b d' e' f' with
      | false =>
        refine iteF ?_
        have z := k H3 E3
        unfold eqT at z
        rw [hh, Bool.false_and] at z
        exact z
      | true =>
        refine iteT ?_
        have ht3 := ht.ex E3
        have hu3 := hu.ex E3
        refine ⟨_, rfl, t1, dx1, _, rfl, E3 _ _ p1, tipF_no _ (by decide +kernel), _, a, b, c, rfl, ht3, fun v H4 e4 hE => ?_⟩
        obtain ⟨m, g1, g2, g3, w1, w2, w3, rfl, z0, z1, z2, z3, th⟩ := hE
        refine ⟨m, _, _, _, rfl, rfl, SqL.of z0, atI_nat (j := 1) rfl, ?_⟩
        refine ⟨_, rfl, t2, dx2, _, rfl, e4 _ _ (E3 _ _ p2), tipF_no _ (by decide +kernel), _, d', e', f', rfl, hu3.ex e4, fun v H5 e5 hE2 => ?_⟩
        obtain ⟨m', s1, s2, s3, w1', w2', w3', rfl, c0, c1, c2, c3, th'⟩ := hE2
        have th5 := th.ex e5
        refine ⟨m', _, [decide (d' = b) && decide (e' = c), decide (e' = b) && decide (f' = c), decide (f' = b) && decide (d' = c)], rfl, c0, rfl, ?_, fun H6 e6 => ?_⟩
        · intro i z bb hz hb
          rcases two3 hz with ⟨rfl, rfl⟩ | ⟨rfl, rfl⟩ | ⟨rfl, rfl⟩
          · cases hb
            exact pair_eq c1 (e5 _ _ z2) th'.1 th'.2.1 th5.2.1 th5.2.2
          · cases hb
            exact pair_eq c2 (e5 _ _ z2) th'.2.1 th'.2.2 th5.2.1 th5.2.2
          · cases hb
            exact pair_eq c3 (e5 _ _ z2) th'.2.2 th'.1 th5.2.1 th5.2.2
        have h2e : ([decide (d' = b) && decide (e' = c), decide (e' = b) && decide (f' = c), decide (f' = b) && decide (d' = c)].any id) = hasE b c d' e' f' := by simp [hasE]
        rw [h2e]
        have z := k H6 (E3.trans (e4.trans (e5.trans (ext_same e6))))
        unfold eqT at z
        rw [hh, Bool.true_and] at z
        exact z
    · refine ⟨_, rfl, _, _, _, _, false, rfl, .own CT, .base (.lst hq), T.kLT, false, rfl, ?_⟩
      exact iteF k
end
end Fo
set_option Elab.async false
set_option linter.all false
set_option maxRecDepth 100000
set_option maxHeartbeats 2000000
namespace Fo
open PySem L2
/-! ### walks: comprehensions over anything, filtered; dicts by comprehension -/
/-- two lists of a length, item by item -/
inductive Al2 {α β : Type} (R : α → β → Prop) : List α → List β → Prop
  | nil : Al2 R [] []
  | cons {a : α} {b : β} {as : List α} {bs : List β} : R a b → Al2 R as bs → Al2 R (a :: as) (b :: bs)
section
variable {α β : Type} {R S : α → β → Prop} {as as' : List α} {bs bs' : List β}
theorem Al2.mono (h : Al2 R as bs) (k : ∀ a b, R a b → S a b) : Al2 S as bs := by
  induction h with
  | nil => exact .nil
  | cons h _ ih => exact .cons (k _ _ h) ih
theorem Al2.length (h : Al2 R as bs) : as.length = bs.length := by
  induction h with
  | nil => rfl
  | cons h _ ih => rw [List.length_cons, List.length_cons, ih]
theorem Al2.append (h : Al2 R as bs) (k : Al2 R as' bs') : Al2 R (as ++ as') (bs ++ bs') := by
  induction h with
  | nil => exact k
  | cons h _ ih => exact .cons h ih
theorem Al2.get (h : Al2 R as bs) : ∀ {i : Nat} {b : β}, bs[i]? = some b → ∃ a, as[i]? = some a ∧ R a b := by
  induction h with
  | nil => intro i b e; simp at e
  | cons h _ ih =>
    intro i b e
    cases i with
    | zero => exact ⟨_, rfl, by simp at e; subst e; exact h⟩
    | succ i => simpa using ih (by simpa using e)
theorem Al2.getL (h : Al2 R as bs) : ∀ {i : Nat} {a : α}, as[i]? = some a → ∃ b, bs[i]? = some b ∧ R a b := by
  induction h with
  | nil => intro i b e; simp at e
  | cons h _ ih =>
    intro i b e
    cases i with
    | zero => exact ⟨_, rfl, by simp at e; subst e; exact h⟩
    | succ i => simpa using ih (by simpa using e)
theorem Al2.of (hl : as.length = bs.length) (h : ∀ (i : Nat) a b, as[i]? = some a → bs[i]? = some b → R a b) : Al2 R as bs := by
  induction as generalizing bs with
  | nil => cases bs with
    | nil => exact .nil
    | cons b bs => simp at hl
  | cons a as ih => cases bs with
    | nil => simp at hl
    | cons b bs => exact .cons (h 0 a b rfl rfl) (ih (by simpa using hl) fun i x y hx hy => h (i + 1) x y (by simpa using hx) (by simpa using hy))
theorem Al2.pure {f : α → β} (h : Al2 (fun a b => b = f a) as bs) : bs = as.map f := by
  induction h with
  | nil => rfl
  | cons h _ ih => rw [List.map_cons, h, ih]
theorem Al2.memR (h : Al2 R as bs) {b : β} (hb : b ∈ bs) : ∃ a ∈ as, R a b := by
  obtain ⟨i, hi⟩ := List.mem_iff_getElem?.mp hb
  obtain ⟨a, h1, h2⟩ := h.get hi
  exact ⟨a, List.mem_iff_getElem?.mpr ⟨i, h1⟩, h2⟩
theorem Al2.mapL {γ : Type} {f : γ → α} {gs : List γ} (h : Al2 R (gs.map f) bs) : Al2 (fun g b => R (f g) b) gs bs := by
  induction gs generalizing bs with
  | nil => cases h; exact .nil
  | cons g gs ih =>
    cases h with
    | cons h t => exact .cons h (ih t)
theorem Al2.mapL' {γ : Type} {f : γ → α} {gs : List γ} (h : Al2 (fun g b => R (f g) b) gs bs) : Al2 R (gs.map f) bs := by
  induction h with
  | nil => exact .nil
  | cons h _ ih => exact .cons h ih
theorem Al2.revR (h : Al2 R as bs) : Al2 R as.reverse bs.reverse := by
  induction h with
  | nil => exact .nil
  | cons h _ ih =>
    rw [List.reverse_cons, List.reverse_cons]
    exact ih.append (.cons h .nil)
end
theorem filt_all {α : Type} (l : List α) : l.filter (fun _ => true) = l := List.filter_eq_self.mpr fun _ _ => rfl
section
variable {J : It} {n : Nat} {G : Hp → Prop} {Y : Nat → Hp → V → Hp → Prop}
/-- [te for g in J if tt] -/
theorem lcw {α : Type} (w : Walk J n G Y) (zs : List α) (hz : zs.length = n) (keep : α → Bool) (R : α → V → Hp → Prop) {g : TG} {tt : TT} {te : TE} {sl : List Nat} {σ : L2.St} {H1 : Hp} {D : Addr} {Qd : Hp → Prop}
    (rex : ∀ z v H H', Same H H' → R z v H → R z v H') (rbut : ∀ z v H H' D ys, H D = some (HO.lst ys) → But D H H' → R z v H → R z v H') (hn : n < sizeLine) (hG : ∀ H, Same H1 H → G H) (hY : ∀ i H x H', Y i H x H' → Same H H')
    (step : ∀ i x z H H', zs[i]? = some z → Same H1 H → Y i H x H' → ∀ (Nx : Hp → Prop) (Q' : VK), (keep z = false → ∀ H'', Same H' H'' → Nx H'') → (keep z = true → ∀ v H'', Same H' H'' → R z v H'' → Q' v H'') →
      g x (wipe σ sl) H' fun σ2 H2 => wipe σ2 sl = wipe σ sl ∧ tt σ2 H2 fun b H3 => if b = true then te σ2 H3 Q' else Nx H3)
    (hD : H1 D = none) (hd : ∀ H' vs, Same H1 H' → H' D = some (.lst vs) → Al2 (fun z v => R z v H') (zs.filter keep) vs → Qd H') :
    ∃ W : Nat → Nat → Hp → Prop, (∃ m, W 0 m (upd H1 D (.lst []))) ∧ ∀ i m H, W i m H →
      (J.stop i H ∧ Qd H) ∨ (J.go i H ∧ ∃ Nx : Hp → Prop, (∀ H', Nx H' → ∃ m', m' < m ∧ W (i + 1) m' H') ∧ ∀ x H', J.yld i H x H' → g x (wipe σ sl) H' fun σ2 H2 => wipe σ2 sl = wipe σ sl ∧ tt σ2 H2 fun b H3 =>
        if b = true then te σ2 H3 fun y H4 => ∃ acc, H4 D = some (.lst acc) ∧ acc.length < sizeLine ∧ Nx (upd H4 D (.lst (acc ++ [y]))) else Nx H3) := by
  refine lc_it w (fun i H' => Same H1 H' ∧ ∃ vs : List V, H' D = some (.lst vs) ∧ Al2 (fun z v => R z v H') ((zs.take i).filter keep) vs) ⟨same_new hD, [], upd_same, by simpa using Al2.nil⟩ (fun i H' _ ⟨e, _⟩ => hG H' e) (fun i x H H' hi ⟨e, vs, hv, ha⟩ y => ?_) fun H' ⟨e, vs, hv, ha⟩ => hd H' vs e hv (by rw [← hz, List.take_length] at ha; exact ha)
  have hlt : i < zs.length := by omega
  have hzi : zs[i]? = some zs[i] := List.getElem?_eq_getElem hlt
  have tk : zs.take (i + 1) = zs.take i ++ [zs[i]] := by rw [List.take_add_one, hzi]; rfl
  have eY := hY i H x H' y
  have hlen := ha.length
  have hfl : ((zs.take i).filter keep).length ≤ i := Nat.le_trans (List.length_filter_le _ _) (by rw [List.length_take]; omega)
  refine step i x zs[i] H H' hzi e y _ _ (fun kf H'' e2 => ?_) fun kt v H'' e2 hr => ?_
  · refine ⟨(e.trans eY).trans e2, vs, e2 _ _ (eY _ _ hv), ?_⟩
    rw [tk, List.filter_append, List.filter_cons, kf]
    simpa using ha.mono fun z v h => rex z v _ _ (eY.trans e2) h
  · have hv2 := e2 _ _ (eY _ _ hv)
    refine ⟨vs, hv2, by omega, But.upd.same hD ((e.trans eY).trans e2), vs ++ [v], upd_same, ?_⟩
    rw [tk, List.filter_append, List.filter_cons, kt]
    refine Al2.append (ha.mono fun z v h => rbut z v _ _ _ _ hv2 But.upd (rex z v _ _ (eY.trans e2) h)) (.cons (rbut _ _ _ _ _ _ hv2 But.upd hr) .nil)
/-- the same, the items plain -/
theorem lcp {α : Type} (w : Walk J n G Y) (zs : List α) (hz : zs.length = n) (keep : α → Bool) (f : α → V) {g : TG} {tt : TT} {te : TE} {sl : List Nat} {σ : L2.St} {H1 : Hp} {D : Addr} {Qd : Hp → Prop}
    (hn : n < sizeLine) (hG : ∀ H, Same H1 H → G H) (hY : ∀ i H x H', Y i H x H' → Same H H')
    (step : ∀ i x z H H', zs[i]? = some z → Same H1 H → Y i H x H' → ∀ (Nx : Hp → Prop) (Q' : VK), (keep z = false → ∀ H'', Same H' H'' → Nx H'') → (keep z = true → ∀ H'', Same H' H'' → Q' (f z) H'') →
      g x (wipe σ sl) H' fun σ2 H2 => wipe σ2 sl = wipe σ sl ∧ tt σ2 H2 fun b H3 => if b = true then te σ2 H3 Q' else Nx H3)
    (hD : H1 D = none) (hd : ∀ H', Same H1 H' → H' D = some (.lst ((zs.filter keep).map f)) → Qd H') :
    ∃ W : Nat → Nat → Hp → Prop, (∃ m, W 0 m (upd H1 D (.lst []))) ∧ ∀ i m H, W i m H →
      (J.stop i H ∧ Qd H) ∨ (J.go i H ∧ ∃ Nx : Hp → Prop, (∀ H', Nx H' → ∃ m', m' < m ∧ W (i + 1) m' H') ∧ ∀ x H', J.yld i H x H' → g x (wipe σ sl) H' fun σ2 H2 => wipe σ2 sl = wipe σ sl ∧ tt σ2 H2 fun b H3 =>
        if b = true then te σ2 H3 fun y H4 => ∃ acc, H4 D = some (.lst acc) ∧ acc.length < sizeLine ∧ Nx (upd H4 D (.lst (acc ++ [y]))) else Nx H3) :=
  lcw w zs hz keep (fun z v _ => v = f z) (fun _ _ _ _ _ h => h) (fun _ _ _ _ _ _ _ _ h => h) hn hG hY (fun i x z H H' h1 h2 h3 Nx Q' k1 k2 => step i x z H H' h1 h2 h3 Nx Q' k1 fun kt H'' e => k2 kt _ H'' e rfl) hD fun H' vs e hv ha => hd H' e (by rw [hv, ha.pure])
/-- {k: True for g in J}, the keys ints -/
def insK (is : List Int) (k : Int) : List Int := if k ∈ is then is else is ++ [k]
def insAll (ks : List Int) : List Int := ks.foldl insK []
abbrev trueK (is : List Int) : List (Key × V) := is.map fun k => (Sum.inl k, V.bl true)
theorem putK_true {is : List Int} {k : Int} : putK (trueK is) (Sum.inl k) (V.bl true) = trueK (insK is k) := by
  have ea : (trueK is).any (fun kv => decide (kv.1 = Sum.inl k)) = decide (k ∈ is) := by
    induction is with
    | nil => rfl
    | cons j is ih =>
      have eu : trueK (j :: is) = (Sum.inl j, V.bl true) :: trueK is := rfl
      rw [eu, List.any_cons, ih]
      have : decide ((Sum.inl j : Key) = Sum.inl k) = decide (k = j) := decide_eq_decide.mpr ⟨fun h => by injection h with h; exact h.symm, fun h => by rw [h]⟩
      show (decide ((Sum.inl j : Key) = Sum.inl k) || _) = _
      rw [this]
      simp only [List.mem_cons, Bool.decide_or]
  unfold putK insK
  rw [ea]
  by_cases h : k ∈ is
  · rw [decide_eq_true h, if_pos rfl, if_pos h]
    rw [List.map_map]
    refine List.map_congr_left fun j _ => ?_
    show (if (Sum.inl j : Key) = Sum.inl k then ((Sum.inl j : Key), V.bl true) else (Sum.inl j, V.bl true)) = (Sum.inl j, V.bl true)
    split <;> rfl
  · rw [decide_eq_false h, if_neg (by decide), if_neg h]
    show _ = (is ++ [k]).map _
    rw [List.map_append]
    rfl
theorem insK_mem {is : List Int} {k j : Int} : j ∈ insK is k ↔ j ∈ is ∨ j = k := by
  unfold insK
  split
  · exact ⟨.inl, fun h => h.elim id fun e => by subst e; assumption⟩
  · rw [List.mem_append, List.mem_singleton]
theorem insK_nodup {is : List Int} {k : Int} (h : is.Nodup) : (insK is k).Nodup := by
  unfold insK
  split
  · exact h
  · rename_i hn
    rw [List.nodup_append]
    refine ⟨h, by simp, fun a ha b hb => ?_⟩
    rw [List.mem_singleton] at hb
    subst hb
    exact fun e => hn (e ▸ ha)
theorem insAll_snoc (ks : List Int) (k : Int) : insAll (ks ++ [k]) = insK (insAll ks) k := by
  unfold insAll
  rw [List.foldl_append]
  rfl
theorem foldl_ins_mem {ks : List Int} : ∀ {is : List Int} {j : Int}, j ∈ ks.foldl insK is ↔ j ∈ is ∨ j ∈ ks := by
  induction ks with
  | nil => intro is j; simp
  | cons k ks ih =>
    intro is j
    rw [List.foldl_cons, ih, insK_mem, List.mem_cons, or_assoc]
theorem insAll_mem {ks : List Int} {j : Int} : j ∈ insAll ks ↔ j ∈ ks := by
  unfold insAll
  rw [foldl_ins_mem]
  simp
theorem foldl_ins_nodup {ks : List Int} : ∀ {is : List Int}, is.Nodup → (ks.foldl insK is).Nodup := by
  induction ks with
  | nil => intro is h; exact h
  | cons k ks ih => intro is h; exact ih (insK_nodup h)
theorem insAll_nodup {ks : List Int} : (insAll ks).Nodup := foldl_ins_nodup List.nodup_nil
theorem insK_len (is : List Int) (k : Int) : (insK is k).length ≤ is.length + 1 := by
  unfold insK
  split
  · omega
  · rw [List.length_append]; simp
theorem foldl_ins_len {ks : List Int} : ∀ {is : List Int}, (ks.foldl insK is).length ≤ is.length + ks.length := by
  induction ks with
  | nil => intro is; simp
  | cons k ks ih =>
    intro is
    have := insK_len is k
    have := ih (is := insK is k)
    rw [List.foldl_cons, List.length_cons]
    omega
theorem insAll_len (ks : List Int) : (insAll ks).length ≤ ks.length := by
  have := foldl_ins_len (ks := ks) (is := [])
  unfold insAll
  simpa using this
theorem dcw {α : Type} (w : Walk J n G Y) (zs : List α) (hz : zs.length = n) (mk : α → Int) {g : TG} {tk tv : TE} {sl : List Nat} {σ : L2.St} {H1 : Hp} {D : Addr} {Qd : Hp → Prop}
    (hn : n < sizeLine) (hG : ∀ H, Same H1 H → G H) (hY : ∀ i H x H', Y i H x H' → Same H H')
    (step : ∀ i x z H H', zs[i]? = some z → Same H1 H → Y i H x H' → ∀ (Q' : V → V → Hp → Prop), (∀ H'', Same H' H'' → Q' (.int (mk z)) (.bl true) H'') →
      g x (wipe σ sl) H' fun σ2 H2 => wipe σ2 sl = wipe σ sl ∧ tk σ2 H2 fun y H3 => tv σ2 H3 fun v H4 => Q' y v H4)
    (hD : H1 D = none) (hd : ∀ H', Same H1 H' → H' D = some (.dK (trueK (insAll (zs.map mk)))) → Qd H') :
    ∃ W : Nat → Nat → Hp → Prop, (∃ m, W 0 m (upd H1 D (.dK []))) ∧ ∀ i m H, W i m H →
      (J.stop i H ∧ Qd H) ∨ (J.go i H ∧ ∃ Nx : Hp → Prop, (∀ H', Nx H' → ∃ m', m' < m ∧ W (i + 1) m' H') ∧ ∀ x H', J.yld i H x H' → g x (wipe σ sl) H' fun σ2 H2 => wipe σ2 sl = wipe σ sl ∧ tYes σ2 H2 fun b H3 =>
        if b = true then tk σ2 H3 fun y H4 => tv σ2 H4 fun z H5 => ∃ kvs k, y = kV k ∧ H5 D = some (.dK kvs) ∧ kvs.length < sizeLine ∧ Nx (upd H5 D (.dK (putK kvs k z))) else Nx H3) := by
  refine ⟨fun i m H' => m = n - i ∧ i ≤ n ∧ Same H1 H' ∧ H' D = some (.dK (trueK (insAll ((zs.take i).map mk)))), ⟨n, by simp, Nat.zero_le _, same_new hD, upd_same⟩, ?_⟩
  rintro i m H ⟨rfl, hi, e, hv⟩
  by_cases hlt : i < n
  · have hlz : i < zs.length := by omega
    have hzi : zs[i]? = some zs[i] := List.getElem?_eq_getElem hlz
    have tk' : zs.take (i + 1) = zs.take i ++ [zs[i]] := by rw [List.take_add_one, hzi]; rfl
    refine .inr ⟨w.goes i H hlt (hG H e), fun H' => Same H1 H' ∧ H' D = some (.dK (trueK (insAll ((zs.take (i + 1)).map mk)))), fun H' p' => ⟨n - (i + 1), by omega, rfl, hlt, p'⟩, fun x H' y => ?_⟩
    have y' := w.yields i H x H' hlt (hG H e) y
    have eY := hY i H x H' y'
    refine step i x zs[i] H H' hzi e y' _ fun H'' e2 => ?_
    have hv2 := e2 _ _ (eY _ _ hv)
    have hl : (trueK (insAll ((zs.take i).map mk))).length < sizeLine := by
      have := insAll_len ((zs.take i).map mk)
      rw [List.length_map, List.length_take] at this
      rw [List.length_map]
      omega
    refine ⟨_, Sum.inl (mk zs[i]), rfl, hv2, hl, But.upd.same hD ((e.trans eY).trans e2), ?_⟩
    rw [upd_same, putK_true, tk', List.map_append, List.map_singleton, insAll_snoc]
  · have : i = n := by omega
    subst this
    rw [← hz, List.take_length] at hv
    exact .inl ⟨w.stops H (hG H e), hd H e hv⟩
/-- {key: True for g in J}, the keys tuples, no two alike -/
theorem dcwT {α : Type} (w : Walk J n G Y) (zs : List α) (hz : zs.length = n) (key : α → TK) (nd : (zs.map key).Nodup) {g : TG} {tk tv : TE} {sl : List Nat} {σ : L2.St} {H1 : Hp} {D : Addr} {Qd : Hp → Prop}
    (hn : n < sizeLine) (hG : ∀ H, Same H1 H → G H) (hY : ∀ i H x H', Y i H x H' → Same H H')
    (step : ∀ i x z H H', zs[i]? = some z → Same H1 H → Y i H x H' → ∀ (Q' : V → V → Hp → Prop), (∀ q H'', Same H' H'' → H'' q = some (.tup ((key z).map kV)) → Q' (.ref q) (.bl true) H'') →
      g x (wipe σ sl) H' fun σ2 H2 => wipe σ2 sl = wipe σ sl ∧ tk σ2 H2 fun y H3 => tv σ2 H3 fun v H4 => Q' y v H4)
    (hD : H1 D = none) (hd : ∀ H', Same H1 H' → H' D = some (.dT (trueD (zs.map key))) → Qd H') :
    ∃ W : Nat → Nat → Hp → Prop, (∃ m, W 0 m (upd H1 D (.dT []))) ∧ ∀ i m H, W i m H →
      (J.stop i H ∧ Qd H) ∨ (J.go i H ∧ ∃ Nx : Hp → Prop, (∀ H', Nx H' → ∃ m', m' < m ∧ W (i + 1) m' H') ∧ ∀ x H', J.yld i H x H' → g x (wipe σ sl) H' fun σ2 H2 => wipe σ2 sl = wipe σ sl ∧ tYes σ2 H2 fun b H3 =>
        if b = true then tk σ2 H3 fun y H4 => tv σ2 H4 fun z H5 => ∃ (kvs : List (TK × V)) (k : TK) (q : Addr), y = .ref q ∧ H5 q = some (.tup (k.map kV)) ∧ H5 D = some (.dT kvs) ∧ kvs.length < sizeLine ∧ Nx (upd H5 D (.dT (putK kvs k z))) else Nx H3) := by
  refine ⟨fun i m H' => m = n - i ∧ i ≤ n ∧ Same H1 H' ∧ H' D = some (.dT (trueD ((zs.take i).map key))), ⟨n, by simp, Nat.zero_le _, same_new hD, upd_same⟩, ?_⟩
  rintro i m H ⟨rfl, hi, e, hv⟩
  by_cases hlt : i < n
  · have hlz : i < zs.length := by omega
    have hzi : zs[i]? = some zs[i] := List.getElem?_eq_getElem hlz
    have tk' : zs.take (i + 1) = zs.take i ++ [zs[i]] := by rw [List.take_add_one, hzi]; rfl
    refine .inr ⟨w.goes i H hlt (hG H e), fun H' => Same H1 H' ∧ H' D = some (.dT (trueD ((zs.take (i + 1)).map key))), fun H' p' => ⟨n - (i + 1), by omega, rfl, hlt, p'⟩, fun x H' y => ?_⟩
    have y' := w.yields i H x H' hlt (hG H e) y
    have eY := hY i H x H' y'
    refine step i x zs[i] H H' hzi e y' _ fun q H'' e2 hq => ?_
    have hv2 := e2 _ _ (eY _ _ hv)
    have hl : (trueD ((zs.take i).map key)).length < sizeLine := by
      rw [List.length_map, List.length_map, List.length_take]
      omega
    have hno : valV (trueD ((zs.take i).map key)) (key zs[i]) = none := by
      cases hq : valV (trueD ((zs.take i).map key)) (key zs[i]) with
      | none => rfl
      | some v =>
        exfalso
        have h1 := valV_any (key zs[i]) (trueD ((zs.take i).map key))
        rw [hq, Option.isSome_some, List.any_eq_true] at h1
        obtain ⟨kv, hm, hk⟩ := h1
        obtain ⟨k0, hk0, rfl⟩ := List.mem_map.mp hm
        obtain ⟨z0, hz0, rfl⟩ := List.mem_map.mp hk0
        have hk2 : key z0 = key zs[i] := of_decide_eq_true hk
        have sp : zs = zs.take i ++ zs[i] :: zs.drop (i + 1) := by rw [← List.drop_eq_getElem_cons hlz, List.take_append_drop]
        have nd2 := nd
        rw [sp, List.map_append, List.nodup_append] at nd2
        exact nd2.2.2 _ (List.mem_map_of_mem hz0) _ (by rw [List.map_cons]; exact List.mem_cons_self) hk2
    refine ⟨_, key zs[i], q, rfl, hq, hv2, hl, But.upd.same hD ((e.trans eY).trans e2), ?_⟩
    rw [upd_same, putK_new _ hno, tk', List.map_append]
    have ap : ∀ (a b : List TK), trueD (a ++ b) = trueD a ++ trueD b := fun a b => List.map_append
    rw [ap]
    rfl
  · have : i = n := by omega
    subst this
    rw [← hz, List.take_length] at hv
    exact .inl ⟨w.stops H (hG H e), hd H e hv⟩
end
theorem yAt_same {xs : List V} {i : Nat} {H H' : Hp} {x : V} (h : YAt xs i H x H') : Same H H' := by
  rw [h.1]
  exact Same.refl _
/-! ### a dict walked: it is locked, and freed -/
theorem lock_same {H H' : Hp} {d : Addr} {od : Obj} {u : HO} (hd : H d = some u) (e : Same (upd H d (.frz od u)) H') : Same H (upd H' d u) := fun b o h => by
  by_cases q : b = d
  · subst q
    rw [upd_same, ← hd, h]
  · rw [upd_ne q]
    exact e _ _ (by rw [upd_ne q]; exact h)
theorem lock_rd {H : Hp} {d b : Addr} {od : Obj} {u v : HO} (hd : H d = some u) (hb : H b = some v) : Rd (upd H d (.frz od u)) b v := by
  by_cases q : b = d
  · subst q
    rw [hd] at hb
    injection hb with hb
    subst hb
    exact .inr ⟨od, upd_same⟩
  · exact .inl (by rw [upd_ne q]; exact hb)
theorem Rd.ex {H H' : Hp} {a : Addr} {u : HO} (e : Same H H') (h : Rd H a u) : Rd H' a u := by
  rcases h with h | ⟨o, h⟩
  · exact .inl (e _ _ h)
  · exact .inr ⟨o, e _ _ h⟩
theorem DGet.rd {H : Hp} {a b : Addr} {kvs : List (TK × V)} {k : TK} (e : Rd H a (.dT kvs)) (eb : H b = some (.tup (k.map kV))) : DGet H a (.ref b) (valV kvs k) := .inr ⟨kvs, k, b, e, rfl, eb, rfl⟩
theorem valV_true {ks : List TK} {k : TK} : (valV (trueD ks) k).isSome = hasK ks k := by
  rw [← valV_any]
  unfold hasK
  rw [List.any_map]
  rfl
theorem ty_cl {K : PySem.W.Frag} {mg : Str → Option Value} {C : Addr} {x : Str} {H : Hp} {a dx : Addr} {fs : List (Str × V)} (c : Cl K mg x) (T : Txt K mg C) (h : H a = some (.ins c.C dx fs)) : TyX K H (.ref a) (.ref c.C) := .base (.ins h c.cl c.ha T.hn T.htk c.hm)
theorem pD_eqv (p q : Int × Int) : PyData.eqv (pD p) (pD q) = decide (p = q) := by
  obtain ⟨a, b⟩ := p
  obtain ⟨c, d⟩ := q
  unfold pD
  show PyData.eqvAll _ _ = _
  simp only [PyData.eqvAll, PyData.eqv, Prod.mk.injEq, Bool.decide_and, Bool.and_true]
  rfl
/-! ### comprehensions that draw from the pool -/
section
variable {J : It} {n : Nat} {G : Hp → Prop} {Y : Nat → Hp → V → Hp → Prop}
theorem PoolAt.neL {pl D : Addr} {H : Hp} (h : PoolAt pl H) (hD : H D = none) : D ≠ pl := by
  obtain ⟨i, j, hp, _⟩ := h
  exact (ne_of_none hp hD).symm
/-- [te for g in J], each item drawn -/
theorem lcd (w : Walk J n G Y) {pl : Addr} (R : Nat → V → Hp → Prop) {g : TG} {te : TE} {sl : List Nat} {σ : L2.St} {H1 : Hp} {D : Addr} {Qd : Hp → Prop}
    (rbut : ∀ i v H H', PoolAt pl H → But pl H H' → R i v H → R i v H') (rlst : ∀ i v H H' D ys, D ≠ pl → H D = some (HO.lst ys) → But D H H' → R i v H → R i v H') (hn : n < sizeLine) (hp : PoolAt pl H1) (hG : ∀ H, But pl H1 H → PoolAt pl H → G H) (hY : ∀ i H x H', Y i H x H' → Same H H')
    (step : ∀ i x H H', i < n → But pl H1 H → PoolAt pl H' → Y i H x H' → ∀ (Q' : VK), (∀ v H'', But pl H' H'' → PoolAt pl H'' → R i v H'' → Q' v H'') → g x (wipe σ sl) H' fun σ2 H2 => wipe σ2 sl = wipe σ sl ∧ te σ2 H2 Q')
    (hD : H1 D = none) (hd : ∀ H' vs, But pl H1 H' → PoolAt pl H' → H' D = some (.lst vs) → vs.length = n → (∀ i v, vs[i]? = some v → R i v H') → Qd H') :
    ∃ W : Nat → Nat → Hp → Prop, (∃ m, W 0 m (upd H1 D (.lst []))) ∧ ∀ i m H, W i m H →
      (J.stop i H ∧ Qd H) ∨ (J.go i H ∧ ∃ Nx : Hp → Prop, (∀ H', Nx H' → ∃ m', m' < m ∧ W (i + 1) m' H') ∧ ∀ x H', J.yld i H x H' → g x (wipe σ sl) H' fun σ2 H2 => wipe σ2 sl = wipe σ sl ∧ tYes σ2 H2 fun b H3 =>
        if b = true then te σ2 H3 fun y H4 => ∃ acc, H4 D = some (.lst acc) ∧ acc.length < sizeLine ∧ Nx (upd H4 D (.lst (acc ++ [y]))) else Nx H3) := by
  have nD : D ≠ pl := hp.neL hD
  have pD' : ∀ {H : Hp} {o : HO}, PoolAt pl H → PoolAt pl (upd H D o) := fun {H o} h => by
    obtain ⟨i, j, h1, h2⟩ := h
    exact ⟨i, j, by rw [upd_ne nD.symm]; exact h1, h2⟩
  have bD : ∀ {H : Hp} {o : HO}, But pl H1 H → But pl H1 (upd H D o) := fun {H o} b c u hc hu => by
    rw [upd_ne (ne_of_none hu hD)]
    exact b c u hc hu
  refine lc_it w (fun i H' => But pl H1 H' ∧ PoolAt pl H' ∧ ∃ vs : List V, H' D = some (.lst vs) ∧ vs.length = i ∧ ∀ j v, vs[j]? = some v → R j v H') ⟨bD (But.refl _ _), pD' hp, [], upd_same, rfl, fun j v h => by simp at h⟩ (fun i H' _ ⟨e, p, _⟩ => hG H' e p) (fun i x H H' hi ⟨e, p, vs, hv, hlen, ha⟩ y => ?_) fun H' ⟨e, p, vs, hv, hlen, ha⟩ => hd H' vs e p hv hlen ha
  have eY := hY i H x H' y
  refine step i x H H' hi e (p.ex eY) y _ fun v H'' b2 p2 hr => ?_
  have hv2 : H'' D = some (.lst vs) := b2 _ _ nD (eY _ _ hv)
  refine ⟨vs, hv2, by omega, bD ((e.trans (But.of eY)).trans b2), pD' p2, vs ++ [v], upd_same, by rw [List.length_append, hlen]; rfl, fun j u hu => ?_⟩
  by_cases hj : j < vs.length
  · rw [List.getElem?_append_left hj] at hu
    exact rlst _ _ _ _ _ _ nD hv2 But.upd (rbut _ _ _ _ p ((But.of eY).trans b2) (ha j u hu))
  · have hj2 : j = vs.length := by
      have := (List.getElem?_eq_some_iff.mp hu).1
      rw [List.length_append] at this
      simp at this
      omega
    subst hj2
    rw [List.getElem?_append_right (Nat.le_refl _)] at hu
    simp at hu
    subst hu
    rw [hlen]
    exact rlst _ _ _ _ _ _ nD hv2 But.upd hr
end
end Fo
set_option Elab.async false
set_option linter.all false
set_option maxRecDepth 100000
set_option maxHeartbeats 2000000
namespace Fo
open PySem L2
/-! ### the law's own words of triangles -/
def rLenK (K : PySem.W.Frag) : List V → Hp → VK → Prop := fun xs H Q => ∃ p ys, xs = [V.ref p] ∧ (SqL K H p ys ∨ SqT K H p ys) ∧ Q (V.int ys.length) H
abbrev Tp (H : Hp) (q : Addr) (p : I2) : Prop := H q = some (.tup [.int p.1, .int p.2])
theorem seq_gen {t1 t2 : TS} {D : Ends} {σ : L2.St} {H : Hp} (cond : L2.St → Hp → Prop) (h1 : ∀ N : L2.St → Hp → Prop, (∀ σ' H', cond σ' H' → N σ' H') → t1 { D with nx := N } σ H) (h2 : ∀ σ' H', cond σ' H' → t2 D σ' H') : tSeq t1 t2 D σ H := h1 _ h2
/-- three tuples of numbers -/
structure T3 (H : Hp) (qa qb qc : Addr) (a b c : I2) : Prop where
  a : Tp H qa a
  b : Tp H qb b
  c : Tp H qc c
theorem T3.ex {H H' : Hp} {qa qb qc : Addr} {a b c : I2} (e : Same H H') (h : T3 H qa qb qc a b c) : T3 H' qa qb qc a b c := ⟨e _ _ h.a, e _ _ h.b, e _ _ h.c⟩
def spLSide : Sp := fun vs H Q _ => ∃ (n : Nat) (qa qb qp : Addr) (a b p : I2), vs = [.ref qa, .ref qb, .ref qp] ∧ T3 H qa qb qp a b p ∧ n < 1000 ∧ Sm2 n a ∧ Sm2 n b ∧ Sm2 n p ∧ Q (.int (sd a b p)) H
def CBd (a : I2) : Prop := (-6 ≤ a.1 ∧ a.1 ≤ 6 + 3) ∧ -6 ≤ a.2 ∧ a.2 ≤ 6 + 2
def spCorn : Sp := fun vs H Q _ => ∃ p : Addr, vs = [.ref p, .int 6] ∧ PoolAt p H ∧ ∀ l qa qb qc a b c H', But p H H' → PoolAt p H' → H' l = some (.lst [.ref qa, .ref qb, .ref qc]) → T3 H' qa qb qc a b c → 0 < sd a b c → Sm2 5 a → Sm2 5 b → Sm2 5 c → CBd a → CBd b → CBd c → Q (.ref l) H'
def spWays (K : PySem.W.Frag) : Sp := fun vs H Q _ => ∃ (l : Addr) (x y z : V), vs = [.ref l] ∧ SqL K H l [x, y, z] ∧ ∀ m e1 e2 e3 H', H m = none → Same H H' → H' m = some (.lst [.ref e1, .ref e2, .ref e3]) → H' e1 = some (.tup [x, y]) → H' e2 = some (.tup [y, z]) → H' e3 = some (.tup [z, x]) → Q (.ref m) H'
section
variable {P : Program} {w : World} {K : PySem.W.Frag} {mg : Str → Option Value} {base : Heap}
theorem scLSide : FnScope ["a", "b", "p"] ["a", "b", "p"] (defScope sLSide) := ⟨rfl, rfl, rfl, by decide +kernel, rfl, by decide +kernel, by decide +kernel⟩
theorem ok_lside {f : Addr} {fd : FuncData} (F : Fun K "_law_side" "_law_side" sLSide f fd) : FnOk P w K mg base CX0 1 f fd ["a", "b", "p"] spLSide := by
  refine F.ok scLSide (fun vs H Q E h => ?_) (fun cdv A outer s H vs Q E hr h => ?_)
  · obtain ⟨n, qa, qb, qp, a, b, p, rfl, _⟩ := h
    rfl
  · obtain ⟨n, qa, qb, qp, a, b, p, rfl, t, n1, sa, sb, sp, k⟩ := h
    refine ⟨_, pss_one (ps_ret (pe_op op_sub
      (pe_op op_mulW (pe_op op_sub (pe_ix ix_tup (pv 1) pe_int (fun _ _ => rfl)) (pe_ix ix_tup (pv 0) pe_int (fun _ _ => rfl))) (pe_op op_sub (pe_ix ix_tup (pv 2) pe_int (fun _ _ => rfl)) (pe_ix ix_tup (pv 0) pe_int (fun _ _ => rfl))))
      (pe_op op_mulW (pe_op op_sub (pe_ix ix_tup (pv 1) pe_int (fun _ _ => rfl)) (pe_ix ix_tup (pv 0) pe_int (fun _ _ => rfl))) (pe_op op_sub (pe_ix ix_tup (pv 2) pe_int (fun _ _ => rfl)) (pe_ix ix_tup (pv 0) pe_int (fun _ _ => rfl)))))), ?_⟩
    refine ⟨_, rfl, qb, _, _, _, rfl, rfl, SqT.of t.b, atI_nat (j := 0) rfl, _, rfl, qa, _, _, _, rfl, rfl, SqT.of t.a, atI_nat (j := 0) rfl, _, _, rfl, rfl, ?_⟩
    refine ⟨_, rfl, qp, _, _, _, rfl, rfl, SqT.of t.c, atI_nat (j := 1) rfl, _, rfl, qa, _, _, _, rfl, rfl, SqT.of t.a, atI_nat (j := 1) rfl, _, _, rfl, rfl, ?_⟩
    refine ⟨_, _, rfl, rfl, (sb.1.sub sa.1).mul (sp.2.sub sa.2) (Nat.succ_pos _) n1, ?_⟩
    refine ⟨_, rfl, qb, _, _, _, rfl, rfl, SqT.of t.b, atI_nat (j := 1) rfl, _, rfl, qa, _, _, _, rfl, rfl, SqT.of t.a, atI_nat (j := 1) rfl, _, _, rfl, rfl, ?_⟩
    refine ⟨_, rfl, qp, _, _, _, rfl, rfl, SqT.of t.c, atI_nat (j := 0) rfl, _, rfl, qa, _, _, _, rfl, rfl, SqT.of t.a, atI_nat (j := 0) rfl, _, _, rfl, rfl, ?_⟩
    refine ⟨_, _, rfl, rfl, (sb.2.sub sa.2).mul (sp.1.sub sa.1) (Nat.succ_pos _) n1, ?_⟩
    exact ⟨_, _, rfl, rfl, k⟩
theorem scWays : FnScope ["corners_here", "k"] ["corners_here"] (defScope sWays) := ⟨rfl, rfl, rfl, by decide +kernel, rfl, by decide +kernel, by decide +kernel⟩
theorem ok_ways {f : Addr} {fd : FuncData} (F : Fun K "_law_ways" "_law_ways" sWays f fd) (T : TxtL mg) : FnOk P w K mg base CX0 1 f fd ["corners_here"] (spWays K) := by
  refine F.ok scWays (fun vs H Q E h => ?_) (fun cdv A outer s H vs Q E hr h => ?_)
  · obtain ⟨l, x, y, z, rfl, _⟩ := h
    rfl
  · obtain ⟨l, x, y, z, rfl, hl, k⟩ := h
    refine ⟨_, pss_one (ps_ret (pe_lc (own := [("k", 1)]) (g := gName 1) (tt := tYes) rfl scWays.nd (pi_range1 rfl T.range (pa_cons (pe_callB call_len_seq (by rfl) T.len PySem.boot_len (pa_cons (pv 0) pa_nil)) pa_nil))
      (blkOk_by (own := [("k", 1)]) (N := ["corners_here", "k"]) (sc := defScope sWays) (by decide +kernel)) (fun _ _ _ _ _ => pg_name (i := 1) scWays.nd rfl (Or.inl rfl)) (fun _ _ _ _ _ => pts_nil)
      (fun _ _ _ _ _ => pe_tup (pa_cons (pe_ix (r := rIxL K) ix_list (pv 0) (pv 1) (fun _ _ => rfl)) (pa_cons (pe_ix (r := rIxL K) ix_list (pv 0) (pe_op op_mod (pe_op op_add (pv 1) pe_int) (pe_callB (r := rLenK K) call_len_seq (by rfl) T.len PySem.boot_len (pa_cons (pv 0) pa_nil))) (fun _ _ => rfl)) pa_nil))))), ?_⟩
    refine ⟨_, rfl, l, _, rfl, .inl hl, 3, rfl, by decide, by decide, fun D0 nD => ?_⟩
    refine lc_rAll (lo := 0) (n := 3) (sl := [1]) (fun i v H' => ∃ e, v = .ref e ∧ H' e = some (.tup (if i = 0 then [x, y] else if i = 1 then [y, z] else [z, x]))) (fun i v H H' e h => by obtain ⟨q, h1, h2⟩ := h; exact ⟨q, h1, e _ _ h2⟩)
      (fun i v H H' D ys hD b h => by obtain ⟨q, h1, h2⟩ := h; exact ⟨q, h1, b _ _ (ne_of h2 hD (by intro z; cases z)) h2⟩) (by decide) ?_ ?_ nD
    · intro i H2 hi e2 Q' k'
      have hl2 := e2.seq hl
      have : i = 0 ∨ i = 1 ∨ i = 2 := by omega
      refine ⟨rfl, ?_⟩
      rcases this with rfl | rfl | rfl
      · refine ⟨_, rfl, _, rfl, l, _, _, _, rfl, rfl, hl2, atI_nat (j := 0) rfl, _, rfl, _, rfl, _, _, rfl, rfl, _, rfl, l, _, rfl, .inl hl2, _, _, rfl, rfl, (by show (0 : Int) < 3; decide), l, _, _, _, rfl, rfl, hl2, (show atI [x, y, z] (1 : Int) = some y from atI_nat (j := 1) rfl), (by show 2 ≤ sizeLine; decide), fun t nt => ?_⟩
        exact k' _ _ (same_new nt) ⟨t, rfl, upd_same⟩
      · refine ⟨_, rfl, _, rfl, l, _, _, _, rfl, rfl, hl2, atI_nat (j := 1) rfl, _, rfl, _, rfl, _, _, rfl, rfl, _, rfl, l, _, rfl, .inl hl2, _, _, rfl, rfl, (by show (0 : Int) < 3; decide), l, _, _, _, rfl, rfl, hl2, (show atI [x, y, z] (2 : Int) = some z from atI_nat (j := 2) rfl), (by show 2 ≤ sizeLine; decide), fun t nt => ?_⟩
        exact k' _ _ (same_new nt) ⟨t, rfl, upd_same⟩
      · refine ⟨_, rfl, _, rfl, l, _, _, _, rfl, rfl, hl2, atI_nat (j := 2) rfl, _, rfl, _, rfl, _, _, rfl, rfl, _, rfl, l, _, rfl, .inl hl2, _, _, rfl, rfl, (by show (0 : Int) < 3; decide), l, _, _, _, rfl, rfl, hl2, (by rw [show ((0 + ((2 : Nat) : Int) + 1) % (([x, y, z] : List V).length : Int)) = ((0 : Nat) : Int) from by simp]; exact atI_nat (j := 0) rfl), (by show 2 ≤ sizeLine; decide), fun t nt => ?_⟩
        exact k' _ _ (same_new nt) ⟨t, rfl, upd_same⟩
    · intro H2 vs e2 hv hlen hR
      obtain ⟨x1, x2, x3, rfl⟩ := len3' hlen
      obtain ⟨t1, rfl, r1⟩ := hR 0 x1 rfl
      obtain ⟨t2, rfl, r2⟩ := hR 1 x2 rfl
      obtain ⟨t3, rfl, r3⟩ := hR 2 x3 rfl
      exact k D0 t1 t2 t3 H2 nD e2 hv r1 r2 r3
theorem scCorn : FnScope ["pool", "size_here", "a", "b", "c"] ["pool", "size_here"] (defScope sCorn) := ⟨rfl, rfl, rfl, by decide +kernel, rfl, by decide +kernel, by decide +kernel⟩
theorem sm5 {x : Int} (h0 : -31 ≤ x) (h1 : x ≤ 31) : Sm 5 x := by
  unfold Sm
  omega
theorem ok_corn {f fD fPr fLs : Addr} {fd fdD fdPr fdLs : FuncData} (F : Fun K "_law_corners" "_law_corners" sCorn f fd) (T : TxtL mg) (FD : Fun K "_law_draw" "_law_draw" sDraw fD fdD) (bD : Binds K fdD ["pool", "many"] []) (mD : mg "_law_draw" = some (.ref fD))
    (FPr : Fun K "_law_pair" "_law_pair" sPair fPr fdPr) (bPr : Binds K fdPr ["pool", "size_here"] []) (mPr : mg "_law_pair" = some (.ref fPr)) (FLs : Fun K "_law_side" "_law_side" sLSide fLs fdLs) (bLs : Binds K fdLs ["a", "b", "p"] []) (mLs : mg "_law_side" = some (.ref fLs)) :
    FnOk P w K mg base CX0 3 f fd ["pool", "size_here"] spCorn := by
  have GD : FnOk P w K mg base CX0 1 fD fdD ["pool", "many"] spDraw := ok_draw FD T
  have GP : FnOk P w K mg base CX0 2 fPr fdPr ["pool", "size_here"] spPair := ok_pair FPr T FD bD mD
  have GL : FnOk P w K mg base CX0 1 fLs fdLs ["a", "b", "p"] spLSide := ok_lside FLs
  refine F.ok scCorn (fun vs H Q E h => ?_) (fun cdv A outer s H vs Q E hr h => ?_)
  · obtain ⟨p, rfl, _⟩ := h
    rfl
  · obtain ⟨p, rfl, hp, k⟩ := h
    have hr1 : Room 1 _ := hr.mono (by decide)
    refine ⟨_, pss_cons (ps_par3 (i := 2) (j := 3) (l := 4) (by rfl) scCorn.nd rfl rfl rfl (by decide) (by decide) (by decide) rfl rfl rfl (pa_cons (pe_call GP hr rfl mPr FPr.kp bPr .nil pass0 (pa_cons (pv 0) (pa_cons (pv 1) pa_nil))) (pa_cons (pe_call GP hr rfl mPr FPr.kp bPr .nil pass0 (pa_cons (pv 0) (pa_cons (pv 1) pa_nil))) (pa_cons (pe_call GP hr rfl mPr FPr.kp bPr .nil pass0 (pa_cons (pv 0) (pa_cons (pv 1) pa_nil))) pa_nil))) (by rfl))
      (pss_cons (ps_if (pt_cmpR op_eq (pe_call GL hr1 rfl mLs FLs.kp bLs .nil pass0 (pa_cons (pv 2) (pa_cons (pv 3) (pa_cons (pv 4) pa_nil)))) pe_int (nomark _))
        (pss_one (ps_par (i := 3) (j := 4) (by rfl) scCorn.nd rfl rfl (by decide) rfl rfl (pa_cons (pe_tup (pa_cons (pe_op op_add (pe_op op_add (pe_ix ix_tup (pv 2) pe_int (fun _ _ => rfl)) pe_int) (pe_call GD hr1 rfl mD FD.kp bD .nil pass0 (pa_cons (pv 0) (pa_cons pe_int pa_nil)))) (pa_cons (pe_ix ix_tup (pv 2) pe_int (fun _ _ => rfl)) pa_nil)))
          (pa_cons (pe_tup (pa_cons (pe_op op_add (pe_ix ix_tup (pv 2) pe_int (fun _ _ => rfl)) (pe_call GD hr1 rfl mD FD.kp bD .nil pass0 (pa_cons (pv 0) (pa_cons pe_int pa_nil)))) (pa_cons (pe_op op_add (pe_ix ix_tup (pv 2) pe_int (fun _ _ => rfl)) pe_int) pa_nil))) pa_nil)) (by rfl))) pss_nil)
      (pss_one (ps_ret (pe_ifExp (pt_cmpR op_gt (pe_call GL hr1 rfl mLs FLs.kp bLs .nil pass0 (pa_cons (pv 2) (pa_cons (pv 3) (pa_cons (pv 4) pa_nil)))) pe_int (nomark _)) (pe_lst (pa_cons (pv 2) (pa_cons (pv 3) (pa_cons (pv 4) pa_nil)))) (pe_lst (pa_cons (pv 2) (pa_cons (pv 4) (pa_cons (pv 3) pa_nil)))))))), ?_⟩
    refine seq_gen (fun σ' H' => ∃ qa qb qc a b c, σ' = [some (.ref p), some (.int 6), some (.ref qa), some (.ref qb), some (.ref qc)] ∧ But p H H' ∧ PoolAt p H' ∧ T3 H' qa qb qc a b c ∧ (-6 ≤ a.1 ∧ a.1 ≤ 6 ∧ -6 ≤ a.2 ∧ a.2 ≤ 6) ∧ (-6 ≤ b.1 ∧ b.1 ≤ 6 ∧ -6 ≤ b.2 ∧ b.2 ≤ 6) ∧ (-6 ≤ c.1 ∧ c.1 ≤ 6 ∧ -6 ≤ c.2 ∧ c.2 ≤ 6)) (fun N hN => ?_) ?_
    · refine ⟨_, rfl, _, rfl, p, 6, rfl, hp, by decide, by decide, fun q1 x1 y1 H1 b1 p1 h1 c1 c2 c3 c4 => ?_⟩
      refine ⟨_, rfl, _, rfl, p, 6, rfl, p1, by decide, by decide, fun q2 x2 y2 H2 b2 p2 h2 d1 d2 d3 d4 => ?_⟩
      refine ⟨_, rfl, _, rfl, p, 6, rfl, p2, by decide, by decide, fun q3 x3 y3 H3 b3 p3 h3 e1 e2 e3 e4 => ?_⟩
      refine ⟨_, _, _, rfl, ?_⟩
      exact hN _ _ ⟨q1, q2, q3, (x1, y1), (x2, y2), (x3, y3), rfl, (b1.trans b2).trans b3, p3, ⟨b3 _ _ (tup_ne p2 (b2 _ _ (tup_ne p1 h1) h1)) (b2 _ _ (tup_ne p1 h1) h1), b3 _ _ (tup_ne p2 h2) h2, h3⟩, ⟨c1, c2, c3, c4⟩, ⟨d1, d2, d3, d4⟩, ⟨e1, e2, e3, e4⟩⟩
    rintro σ H2 ⟨qa, qb, qc, a, b, c, rfl, b2, p2, t2, ra, rb, rc⟩
    refine seq_gen (fun σ' H' => ∃ qb qc b c, σ' = [some (.ref p), some (.int 6), some (.ref qa), some (.ref qb), some (.ref qc)] ∧ But p H H' ∧ PoolAt p H' ∧ T3 H' qa qb qc a b c ∧ sd a b c ≠ 0 ∧ Sm2 5 b ∧ Sm2 5 c ∧ CBd b ∧ CBd c) (fun N hN => ?_) ?_
    · refine ⟨_, rfl, _, rfl, _, rfl, 5, qa, qb, qc, a, b, c, rfl, t2, by decide, ⟨sm5 (by omega) (by omega), sm5 (by omega) (by omega)⟩, ⟨sm5 (by omega) (by omega), sm5 (by omega) (by omega)⟩, ⟨sm5 (by omega) (by omega), sm5 (by omega) (by omega)⟩, rfl, _, rfl, ?_⟩
      by_cases hz : sd a b c = 0
      · rw [int_eqT hz]
        refine iteT ?_
        refine ⟨_, rfl, qa, _, _, _, rfl, rfl, SqT.of t2.a, atI_nat (j := 0) rfl, _, _, rfl, rfl, _, rfl, p, 3, rfl, p2, by decide, by decide, fun r1 H3 r10 r11 b3 p3 => ?_⟩
        have a3 := b3 _ _ (tup_ne p2 t2.a) t2.a
        refine ⟨_, _, rfl, rfl, _, rfl, qa, _, _, _, rfl, rfl, SqT.of a3, atI_nat (j := 1) rfl, (by show 2 ≤ sizeLine; decide), fun s1 ns1 => ?_⟩
        have g1 := same_new (o := .tup [.int (a.1 + 1 + r1), .int a.2]) ns1
        have a4 := g1 _ _ a3
        have p4 := p3.ex g1
        refine ⟨_, rfl, qa, _, _, _, rfl, rfl, SqT.of a4, atI_nat (j := 0) rfl, _, rfl, p, 3, rfl, p4, by decide, by decide, fun r2 H5 r20 r21 b5 p5 => ?_⟩
        have a5 := b5 _ _ (tup_ne p4 a4) a4
        have s5 := b5 _ _ (tup_ne p4 (upd_same (H := H3) (a := s1) (o := .tup [.int (a.1 + 1 + r1), .int a.2]))) upd_same
        refine ⟨_, _, rfl, rfl, _, rfl, qa, _, _, _, rfl, rfl, SqT.of a5, atI_nat (j := 1) rfl, _, _, rfl, rfl, (by show 2 ≤ sizeLine; decide), fun s2 ns2 => ?_⟩
        have g2 := same_new (o := .tup [.int (a.1 + r2), .int (a.2 + 2)]) ns2
        refine ⟨_, _, rfl, ?_⟩
        have g23 := g2
        refine hN _ _ ⟨s1, s2, (a.1 + 1 + r1, a.2), (a.1 + r2, a.2 + 2), rfl, (((b2.trans b3).trans (But.of g1)).trans b5).trans (But.of g23), p5.ex g23, ⟨g23 _ _ a5, g23 _ _ s5, upd_same⟩, ?_, ⟨sm5 (by show -31 ≤ a.1 + 1 + r1; omega) (by show a.1 + 1 + r1 ≤ 31; omega), sm5 (by show -31 ≤ a.2; omega) (by show a.2 ≤ 31; omega)⟩, ⟨sm5 (by show -31 ≤ a.1 + r2; omega) (by show a.1 + r2 ≤ 31; omega), sm5 (by show -31 ≤ a.2 + 2; omega) (by show a.2 + 2 ≤ 31; omega)⟩, ⟨⟨by show -6 ≤ a.1 + 1 + r1; omega, by show a.1 + 1 + r1 ≤ 6 + 3; omega⟩, by show -6 ≤ a.2; omega, by show a.2 ≤ 6 + 2; omega⟩, ⟨⟨by show -6 ≤ a.1 + r2; omega, by show a.1 + r2 ≤ 6 + 3; omega⟩, by show -6 ≤ a.2 + 2; omega, by show a.2 + 2 ≤ 6 + 2; omega⟩⟩
        have e : sd a (a.1 + 1 + r1, a.2) (a.1 + r2, a.2 + 2) = 2 * (1 + r1) := by
          unfold sd sideI
          grind
        rw [e]
        omega
      · rw [int_eqF hz]
        refine iteF ?_
        exact hN _ _ ⟨qb, qc, b, c, rfl, b2, p2, t2, hz, ⟨sm5 (by omega) (by omega), sm5 (by omega) (by omega)⟩, ⟨sm5 (by omega) (by omega), sm5 (by omega) (by omega)⟩, by unfold CBd; omega, by unfold CBd; omega⟩
    rintro σ H3 ⟨qb, qc, b, c, rfl, b3, p3, t3, nz, sb, sc, bb, bc⟩
    have ba : CBd a := by unfold CBd; omega
    have sa : Sm2 5 a := ⟨sm5 (by omega) (by omega), sm5 (by omega) (by omega)⟩
    refine ⟨_, rfl, _, rfl, _, rfl, 5, qa, qb, qc, a, b, c, rfl, t3, by decide, sa, sb, sc, _, _, rfl, rfl, _, rfl, ?_⟩
    by_cases hs : 0 < sd a b c
    · rw [decide_eq_true hs]
      refine iteT ?_
      refine ⟨_, rfl, _, rfl, _, rfl, (by show 3 ≤ sizeLine; decide), fun l nl => ?_⟩
      have g := same_new (o := .lst [.ref qa, .ref qb, .ref qc]) nl
      exact k l qa qb qc a b c _ (b3.trans (But.of g)) (p3.ex g) upd_same (t3.ex g) hs sa sb sc ba bb bc
    · rw [decide_eq_false hs]
      refine iteF ?_
      refine ⟨_, rfl, _, rfl, _, rfl, (by show 3 ≤ sizeLine; decide), fun l nl => ?_⟩
      have g := same_new (o := .lst [.ref qa, .ref qc, .ref qb]) nl
      have t4 := t3.ex g
      have e : sd a c b = - sd a b c := by
        unfold sd sideI
        grind
      exact k l qa qc qb a c b _ (b3.trans (But.of g)) (p3.ex g) upd_same ⟨t4.a, t4.c, t4.b⟩ (by omega) sa sc sb ba bc bb
end
end Fo
set_option Elab.async false
set_option linter.all false
set_option maxRecDepth 100000
set_option maxHeartbeats 2000000
namespace Fo
open PySem L2
/-! ### the layers below, by bundles -/
structure PtB (K : PySem.W.Frag) (mg : Str → Option Value) : Type where
  C : Addr
  fW : Addr
  fI : Addr
  fP : Addr
  fA : Addr
  fO : Addr
  fdW : FuncData
  fdI : FuncData
  fdP : FuncData
  fdA : FuncData
  fdO : FuncData
  D : Defs K mg C fW fI fP fA fO fdW fdI fdP fdA fdO
structure TrB (K : PySem.W.Frag) (mg : Str → Option Value) (C : Addr) : Type where
  CT : Addr
  fS : Addr
  fTI : Addr
  fCo : Addr
  fEd : Addr
  fAr : Addr
  fEq : Addr
  fAd : Addr
  pAr : Addr
  fdS : FuncData
  fdTI : FuncData
  fdCo : FuncData
  fdEd : FuncData
  fdAr : FuncData
  fdEq : FuncData
  fdAd : FuncData
  d : TDefs K mg C CT fS fTI fCo fEd fAr fEq fAd pAr fdS fdTI fdCo fdEd fdAr fdEq fdAd
/-- two ways to read an expression -/
theorem pe_alt {X : Cx} {e : Expr} {t u : TE} (h : PE X e t) (k : PE X e u) : PE X e (fun σ H Q => t σ H Q ∨ u σ H Q) :=
  ⟨fun pins s σ H Q I z => z.elim (fun z => h.run pins s σ H Q I z) fun z => k.run pins s σ H Q I z⟩
theorem ps_alt {X : Cx} {st : Stmt} {t u : TS} (h : PS X st t) (k : PS X st u) : PS X st (fun D σ H => t D σ H ∨ u D σ H) :=
  ⟨fun pins s σ H D I z => z.elim (fun z => h.run pins s σ H D I z) fun z => k.run pins s σ H D I z⟩
end Fo
set_option Elab.async false
set_option linter.all false
set_option maxRecDepth 100000
set_option maxHeartbeats 2000000
namespace Fo
open PySem L2
/-! ### expressions over points, triangles, grids, samples: what they are -/
theorem But.none {p D : Addr} {H H' : Hp} (b : But p H H') (hp : PoolAt p H') (h : H' D = none) : H D = none := by
  cases e : H D with
  | none => rfl
  | some u =>
    have n : D ≠ p := fun z => by
      obtain ⟨i, j, q, _⟩ := hp
      rw [z, q] at h
      cases h
    have := b D u n e
    rw [h] at this
    cases this
theorem Same.none {D : Addr} {H H' : Hp} (e : Same H H') (h : H' D = none) : H D = none := by
  cases q : H D with
  | none => rfl
  | some u => rw [e _ _ q] at h; cases h
theorem IsPt.butL {C D : Addr} {v : V} {x y : Int} {H H' : Hp} {ys : List V} (hD : H D = some (HO.lst ys)) (b : But D H H') (h : IsPt C v x y H) : IsPt C v x y H' := by
  obtain ⟨a, rfl, ⟨dx, h⟩ | h⟩ := h
  · exact ⟨a, rfl, .inl ⟨dx, b _ _ (ne_of h hD (by intro z; cases z)) h⟩⟩
  · exact ⟨a, rfl, .inr (b _ _ (ne_of h hD (by intro z; cases z)) h)⟩
def RP (C : Addr) (p : I2) : RV := fun v H => IsP C v p.1 p.2 H
def RPt (C : Addr) (p : I2) : RV := fun v H => IsPt C v p.1 p.2 H
def RT (C CT : Addr) (a b c : I2) : RV := fun v H => IsT C CT v a b c H
theorem RP.st {C : Addr} {p : I2} : Stb (RP C p) := fun _ _ _ e h => IsP.ex e h
theorem RPt.st {C : Addr} {p : I2} : Stb (RPt C p) := fun _ _ _ e h => IsPt.ex e h
theorem RT.st {C CT : Addr} {a b c : I2} : Stb (RT C CT a b c) := fun _ _ _ e h => IsT.ex e h
theorem IsP.butP' {C pl : Addr} {v : V} {x y : Int} {H H' : Hp} (p : PoolAt pl H) (b : But pl H H') (h : IsP C v x y H) : IsP C v x y H' := by
  obtain ⟨i, j, hp, _⟩ := p
  exact h.but hp b
theorem lst3_ne' {pl l : Addr} {H : Hp} {x y z : V} (p : PoolAt pl H) (h : H l = some (.lst [x, y, z])) : l ≠ pl := fun e => by
  obtain ⟨i, j, hp, _⟩ := p
  rw [e, hp] at h
  injection h with h
  injection h with h
  injection h with _ h
  injection h with _ h
  cases h
theorem IsT.butP' {C CT pl : Addr} {v : V} {a b c : I2} {H H' : Hp} (p : PoolAt pl H) (bt : But pl H H') (h : IsT C CT v a b c H) : IsT C CT v a b c H' := by
  obtain ⟨t, dx, l, v1, v2, v3, rfl, h1, h2, h3⟩ := h
  obtain ⟨i, j, hp, r⟩ := id p
  have n1 : t ≠ pl := ne_of h1 hp (by intro z; cases z)
  exact ⟨t, dx, l, v1, v2, v3, rfl, bt _ _ n1 h1, bt _ _ (lst3_ne' p h2) h2, h3.1.butP' p bt, h3.2.1.butP' p bt, h3.2.2.butP' p bt⟩
theorem T3.butP' {pl qa qb qc : Addr} {H H' : Hp} {a b c : I2} (p : PoolAt pl H) (bt : But pl H H') (h : T3 H qa qb qc a b c) : T3 H' qa qb qc a b c :=
  ⟨bt _ _ (tup_ne p h.a) h.a, bt _ _ (tup_ne p h.b) h.b, bt _ _ (tup_ne p h.c) h.c⟩
/-- min([int(x) for x in l]) -/
theorem vx_minC {G : Hp → Prop} {σ : L2.St} {K : PySem.W.Frag} {i w : Nat} {l : Addr} {ns : List Int} (hi : σ[i]? = some (some (.ref l))) (hG : ∀ H, G H → H l = some (.lst (ns.map V.int))) (hn : 0 < ns.length) (hz : ns.length < sizeLine) (hw : w < σ.length) :
    VX G σ (tCB (rMin K) (tCons (tLc (iList K (tVar i)) (gName w) tYes (tCB (fun xs H Q => (∃ i, xs = [V.int i] ∧ Q (.int i) H) ∨ ∃ k, xs = [V.bl k] ∧ Q (.int (if k then 1 else 0)) H) (tCons (tVar w) tNil)) [w]) tNil)) (fun v _ => ∃ m : Int, v = .int m ∧ m ∈ ns ∧ ∀ y ∈ ns, m ≤ y) := fun H Q g k => by
  have hl := hG H g
  refine ⟨_, hi, l, rfl, ⟨_, SqL.of hl⟩, fun D nD => ?_⟩
  refine lcp (walk_list (K := K) (a := l) (xs := ns.map V.int)) ns (by rw [List.length_map]) (fun _ => true) V.int (by rw [List.length_map]; exact hz) (fun H' e => e.seq (SqL.of hl)) (fun _ _ _ _ y => yAt_same y) (fun j x n H0 H' hz' e yy Nx Q' _ k2 => ?_) nD (fun H2 g2 hD => ?_)
  · obtain ⟨rfl, hx⟩ := yy
    rw [List.getElem?_map, hz'] at hx
    cases hx
    refine ⟨?_, _, ?_, .inl ⟨_, rfl, k2 rfl _ (Same.refl _)⟩⟩
    · show ((wipe σ [w]).set w (some (V.int n))).set w none = (wipe σ [w])
      show (((σ.set w none)).set w (some (V.int n))).set w none = σ.set w none
      rw [List.set_set, List.set_set]
    · show ((σ.set w none).set w (some (V.int n)))[w]? = _
      rw [List.set_set, List.getElem?_set_self (by simpa using hw)]
  · rw [filt_all] at hD
    exact ⟨D, ns, rfl, SqL.of hD, hn, fun m h1 h2 => k _ _ g2 ⟨m, rfl, h1, h2⟩⟩
/-- a comparison of such -/
theorem tx_gtM {G : Hp → Prop} {σ : L2.St} {ta tb : TE} {ns : List Int} {j : Int} (hx : StbG G) (h1 : VX G σ ta (fun v _ => ∃ m : Int, v = .int m ∧ m ∈ ns ∧ ∀ y ∈ ns, m ≤ y)) (h2 : VX G σ tb (RI j)) : TX G σ (tTest (tOp (rI0 fun i j => .bl (decide (j < i))) ta tb)) (∀ y ∈ ns, j < y) := fun H Q g k =>
  h1 H _ g fun x H1 e1 ⟨m, hm, m1, m2⟩ => h2 H1 _ (hx _ _ e1 g) fun y H2 e2 r2 => by
    cases hm; cases r2
    refine ⟨m, j, rfl, rfl, _, rfl, k _ H2 (e1.trans e2) ?_⟩
    rw [decide_eq_true_iff]
    exact ⟨fun h y hy => Int.lt_of_lt_of_le h (m2 y hy), fun h => h m m1⟩
theorem tx_ltM {G : Hp → Prop} {σ : L2.St} {ta tb : TE} {ns : List Int} {j : Int} (hx : StbG G) (h1 : VX G σ ta (fun v _ => ∃ m : Int, v = .int m ∧ m ∈ ns ∧ ∀ y ∈ ns, m ≤ y)) (h2 : VX G σ tb (RI j)) : TX G σ (tTest (tOp (rI0 fun i j => .bl (decide (i < j))) ta tb)) (∃ y ∈ ns, y < j) := fun H Q g k =>
  h1 H _ g fun x H1 e1 ⟨m, hm, m1, m2⟩ => h2 H1 _ (hx _ _ e1 g) fun y H2 e2 r2 => by
    cases hm; cases r2
    refine ⟨m, j, rfl, rfl, _, rfl, k _ H2 (e1.trans e2) ?_⟩
    rw [decide_eq_true_iff]
    exact ⟨fun h => ⟨m, m1, h⟩, fun ⟨y, hy, h⟩ => Int.lt_of_le_of_lt (m2 y hy) h⟩
/-- n not in a list of ints -/
theorem tx_notinI {G : Hp → Prop} {σ : L2.St} {K : PySem.W.Frag} {ta tb : TE} {n : Int} {ns : List Int} (hx : StbG G) (h1 : VX G σ ta (RI n)) (h2 : VX G σ tb (fun v H => ∃ l, v = .ref l ∧ H l = some (.lst (ns.map V.int)))) : TX G σ (tTest (tOp (rIn K true) ta tb)) (¬ n ∈ ns) := fun H Q g k =>
  h1 H _ g fun x H1 e1 r1 => h2 H1 _ (hx _ _ e1 g) fun y H2 e2 ⟨l, hy, hl⟩ => by
    cases r1; subst hy
    refine ⟨l, _, rfl, .inl (SqL.of hl), rfl, ?_, _, rfl, k _ H2 (e1.trans e2) ?_⟩
    · rw [List.all_map]
      exact List.all_eq_true.mpr fun _ _ => rfl
    · have : inV (.int n) (ns.map V.int) = decide (n ∈ ns) := by
        unfold inV
        rw [List.any_map]
        rw [Bool.eq_iff_iff, List.any_eq_true, decide_eq_true_iff]
        constructor
        · rintro ⟨m, hm, h⟩
          have : m = n := by
            have h' : eqV (.int m) (.int n) = true := h
            simpa [eqV] using h'
          exact this ▸ hm
        · intro h
          exact ⟨n, h, by simp [eqV]⟩
      rw [this]
      simp
section
variable {C CS CT CG : Addr} {G : Hp → Prop} {σ : L2.St} {ta tb tc : TE} {A B : I2 → Prop} {L M : Nat} {E : XK} {K : PySem.W.Frag}
/-- Point(x, y) -/
theorem vx_pt {x y : Int} (hx : StbG G) (h1 : VX G σ ta (RI x)) (h2 : VX G σ tb (RI y)) : VX G σ (tMake C (spInit C) [] E (tCons ta (tCons tb tNil))) (RP C (x, y)) :=
  vx_make (va_two hx RI.st h1 h2) fun vs H Q h q => by
    obtain ⟨u, v, rfl, e1, e2⟩ := h
    cases e1; cases e2
    exact make_pt fun v H' e h => q v H' e h
theorem vx_ptadd {p q : I2} (hx : StbG G) (h1 : VX G σ ta (RP C p)) (h2 : VX G σ tb (RPt C q)) : VX G σ (tOp (rOwnOp C (spBin C (· + ·)) E) ta tb) (RP C (mv p q)) :=
  vx_op hx RP.st h1 h2 fun x y H Q hp hq k => by
    obtain ⟨a, dx, rfl, h⟩ := id hp
    exact ⟨a, dx, _, rfl, h, hq.opnd, .ref a, y, p.1, p.2, q.1, q.2, rfl, hp, hq, fun w H' e h => k w H' e h⟩
theorem vx_ptmul {p : I2} {m : Int} (hx : StbG G) (h1 : VX G σ ta (RP C p)) (h2 : VX G σ tb (RI m)) (c1 : CMulW p.1 m) (c2 : CMulW p.2 m) : VX G σ (tOp (rOwnMul C (spMul C) E) ta tb) (RP C (p.1 * m, p.2 * m)) :=
  vx_op hx RP.st h1 h2 fun x y H Q hp e k => by
    cases e
    obtain ⟨a, dx, rfl, h⟩ := id hp
    exact ⟨a, dx, _, m, rfl, h, rfl, .ref a, p.1, p.2, m, rfl, hp, c1, c2, fun w H' e h => k w H' e h⟩
theorem rp_pt {p : I2} (h : VX G σ ta (RP C p)) : VX G σ ta (RPt C p) := vx_mono h fun v H h => IsP.pt h
/-- (x, y) as a point -/
theorem vx_pair {x y : Int} (hx : StbG G) (h1 : VX G σ ta (RI x)) (h2 : VX G σ tb (RI y)) : VX G σ (tTup (tCons ta (tCons tb tNil))) (RPt C (x, y)) :=
  vx_mono (vx_tup (fun vs H H' e h => by obtain ⟨u, v, rfl, e1, e2⟩ := h; exact ⟨u, v, rfl, e1, e2⟩) (va_two hx RI.st h1 h2) fun vs H h => by obtain ⟨u, v, rfl, _⟩ := h; show 2 ≤ sizeLine; decide) fun v H h => by
    obtain ⟨q, vs, rfl, h, u, w, rfl, e1, e2⟩ := h
    cases e1; cases e2
    exact ⟨q, rfl, .inr h⟩
/-- an item of a pair -/
theorem vx_ix0 {i : Nat} {q : Addr} {p : I2} (hi : σ[i]? = some (some (.ref q))) (hG : ∀ H, G H → H q = some (.tup [.int p.1, .int p.2])) : VX G σ (tOp (rIxT K) (tVar i) (tC (.int 0))) (RI p.1) := fun H Q g k =>
  ⟨_, hi, q, _, _, _, rfl, rfl, SqT.of (hG H g), atI_nat (j := 0) rfl, k _ H (Same.refl _) rfl⟩
theorem vx_ix1 {i : Nat} {q : Addr} {p : I2} (hi : σ[i]? = some (some (.ref q))) (hG : ∀ H, G H → H q = some (.tup [.int p.1, .int p.2])) : VX G σ (tOp (rIxT K) (tVar i) (tC (.int 1))) (RI p.2) := fun H Q g k =>
  ⟨_, hi, q, _, _, _, rfl, rfl, SqT.of (hG H g), atI_nat (j := 1) rfl, k _ H (Same.refl _) rfl⟩
theorem vx_tri {a b c : I2} {n : Nat} (hx : StbG G) (h1 : VX G σ ta (RPt C a)) (h2 : VX G σ tb (RPt C b)) (h3 : VX G σ tc (RPt C c)) (n1 : n < 1000) (sa : Sm2 n a) (sb : Sm2 n b) (sc : Sm2 n c) (pos : 0 < sd a b c) : VX G σ (tMake CT (spTInit C CT) [] E (tCons ta (tCons tb (tCons tc tNil)))) (RT C CT a b c) :=
  vx_make (va_three hx RPt.st RPt.st h1 h2 h3) fun vs H Q h q => by
    obtain ⟨x, y, z, rfl, e1, e2, e3⟩ := h
    refine make_tri e1 e2 e3 n1 sa sb sc (by omega) fun t H' e h => q t H' e ?_
    have e1 : onB a b c = b := by unfold onB; rw [if_pos pos]
    have e2 : onC a b c = c := by unfold onC; rw [if_pos pos]
    rw [e1, e2] at h
    exact h
/-- the length of such a comprehension -/
def capN (B : Nat) : Nat := (B + 1) * (2 * (B * B) + 2 * B + 1)
/-- triangle.moved(by) -/
theorem vx_moved {a b c by' : I2} {n : Nat} (hx : StbG G) (h1 : VX G σ ta (RT C CT a b c)) (h2 : VX G σ tb (RPt C by')) (n1 : n < 999) (sa : Sm2 n a) (sb : Sm2 n b) (sc : Sm2 n c) (sy : Sm2 n by') (pos : 0 < sd a b c) : VX G σ (tMeth CT "moved" (spMoved C CT) [] E ta (tCons tb tNil)) (RT C CT (mv a by') (mv b by') (mv c by')) :=
  vx_meth hx RT.st h1 (fun x H h => by
    obtain ⟨t, dx, l, v1, v2, v3, rfl, h1, _⟩ := h
    exact ⟨t, dx, _, rfl, h1, tipF_no _ (by decide +kernel)⟩) (va_one h2) fun x vs H Q h1 h2 q => by
    obtain ⟨y, rfl, h2⟩ := h2
    exact ⟨n, x, y, a, b, c, by', rfl, h1, h2, n1, sa, sb, sc, sy, pos, fun v H' e h => q v H' e h⟩
theorem vx_px {mg : Str → Option Value} {p : I2} (T : Txt K mg C) (h : VX G σ ta (RP C p)) : VX G σ (tFld K ta "x") (RI p.1) := vx_fld h fun x H ⟨a, dx, e, h⟩ => ⟨a, C, dx, _, _, e, h, T.cl, T.nX, ptF_x _ _, rfl⟩
theorem vx_py {mg : Str → Option Value} {p : I2} (T : Txt K mg C) (h : VX G σ ta (RP C p)) : VX G σ (tFld K ta "y") (RI p.2) := vx_fld h fun x H ⟨a, dx, e, h⟩ => ⟨a, C, dx, _, _, e, h, T.cl, T.nY, ptF_y _ _, rfl⟩
theorem vx_side {a b p : I2} {n : Nat} (hx : StbG G) (h1 : VX G σ ta (RPt C a)) (h2 : VX G σ tb (RPt C b)) (h3 : VX G σ tc (RPt C p)) (n1 : n < 1000) (sa : Sm2 n a) (sb : Sm2 n b) (sp : Sm2 n p) : VX G σ (tCall (spSide C) [] E (tCons ta (tCons tb (tCons tc tNil)))) (RI (sd a b p)) :=
  vx_call (va_three hx RPt.st RPt.st h1 h2 h3) fun vs H Q h q => by
    obtain ⟨x, y, z, rfl, e1, e2, e3⟩ := h
    exact ⟨n, x, y, z, a.1, a.2, b.1, b.2, p.1, p.2, rfl, e1, e2, e3, n1, sa.1, sa.2, sb.1, sb.2, sp.1, sp.2, fun H' e => q _ H' e rfl⟩
theorem vx_mulW {i j : Int} (hx : StbG G) (h1 : VX G σ ta (RI i)) (h2 : VX G σ tb (RI j)) (hc : CMulW i j) : VX G σ (tOp (rI CMulW fun i j => .int (i * j)) ta tb) (RI (i * j)) := vx_op hx RI.st h1 h2 fun x y H Q e1 e2 q => by
  cases e1; cases e2
  exact ⟨i, j, rfl, rfl, hc, q _ H (Same.refl _) rfl⟩
theorem vx_ixL {i j : Nat} {l : Addr} {xs : List V} {v : V} {R : RV} (hi : σ[i]? = some (some (.ref l))) (hG : ∀ H, G H → H l = some (.lst xs)) (hj : xs[j]? = some v) (hR : ∀ H, G H → R v H) : VX G σ (tOp (rIxL K) (tVar i) (tC (.int (j : Nat)))) R := fun H Q g k =>
  ⟨_, hi, l, _, _, _, rfl, rfl, SqL.of (hG H g), atI_nat (j := j) hj, k _ H (Same.refl _) (hR H g)⟩
theorem st_parL {i j : Nat} {A : List V → Hp → Prop} {t : TA} {D : L2.Ends} {H : Hp} (h : VA G σ t A) (g : G H) (hA : ∀ vs H, A vs H → ∃ x y, vs = [x, y]) (k : ∀ x y H', Same H H' → A [x, y] H' → D.nx ((σ.set i (some x)).set j (some y)) H') : tPar i j t D σ H :=
  h H _ g fun vs H' e r => by
    obtain ⟨x, y, rfl⟩ := hA vs H' r
    exact ⟨x, y, rfl, k x y H' e r⟩
end
end Fo
set_option Elab.async false
set_option linter.all false
set_option maxRecDepth 100000
set_option maxHeartbeats 2000000
namespace Fo
open PySem L2
/-! ### two triangles that a line keeps apart are kept apart by an edge of one of them -/
def cr (a b : I2) : Int := a.1 * b.2 - a.2 * b.1
theorem cr_anti (a b : I2) : cr a b = - cr b a := by unfold cr; grind
theorem cr_plu (a b d e : I2) : cr a b * cr d e - cr a d * cr b e + cr a e * cr b d = 0 := by unfold cr; grind
theorem cr_v1 (D p q : I2) : D.1 * cr p q = p.1 * cr D q - q.1 * cr D p := by unfold cr; grind
theorem cr_v2 (D p q : I2) : D.2 * cr p q = p.2 * cr D q - q.2 * cr D p := by unfold cr; grind
theorem two_zero {D p q : I2} (hD : D ≠ (0, 0)) (h : 0 < cr p q) (h1 : cr D p = 0) (h2 : cr D q = 0) : False := by
  have e1 := cr_v1 D p q
  have e2 := cr_v2 D p q
  rw [h1, h2] at e1 e2
  simp only [Int.mul_zero, Int.sub_self] at e1 e2
  rcases Int.mul_eq_zero.mp e1 with z | z
  · rcases Int.mul_eq_zero.mp e2 with z2 | z2
    · exact hD (Prod.ext z z2)
    · omega
  · omega
theorem pos_of {x y : Int} (hx : 0 < x) (h : 0 < x * y) : 0 < y := by
  apply Int.not_le.mp
  intro hy
  have := Int.mul_nonpos_of_nonneg_of_nonpos (Int.le_of_lt hx) hy
  omega
/-- p first, of p and r: then p also before s -/
theorem first {D p q r s : I2} (hD : D ≠ (0, 0)) (Dp : 0 ≤ cr D p) (Dq : 0 ≤ cr D q) (Dr : cr D r ≤ 0) (Ds : cr D s ≤ 0) (pq : 0 < cr p q) (rs : 0 < cr r s) (pr : cr p r ≤ 0) : cr p s ≤ 0 := by
  apply Int.not_lt.mp
  intro ps
  have e1 := cr_plu D p r s
  have e2 := cr_plu D p q s
  have t1 : 0 ≤ cr D p * cr r s := Int.mul_nonneg Dp (by omega)
  have t2 : cr D r * cr p s ≤ 0 := Int.mul_nonpos_of_nonpos_of_nonneg Dr (by omega)
  have t3 : 0 ≤ cr D s * cr p r := Int.mul_nonneg_of_nonpos_of_nonpos Ds pr
  have z1 : cr D p * cr r s = 0 := by omega
  have z2 : cr D r * cr p s = 0 := by omega
  have z3 : cr D p = 0 := by rcases Int.mul_eq_zero.mp z1 with z | z <;> omega
  have z4 : cr D r = 0 := by rcases Int.mul_eq_zero.mp z2 with z | z <;> omega
  rw [z3] at e2
  simp only [Int.zero_mul] at e2
  have t4 : 0 ≤ cr D q * cr p s := Int.mul_nonneg Dq (by omega)
  have t5 : cr D s * cr p q ≤ 0 := Int.mul_nonpos_of_nonpos_of_nonneg Ds (by omega)
  have z5 : cr D s * cr p q = 0 := by omega
  have z6 : cr D s = 0 := by rcases Int.mul_eq_zero.mp z5 with z | z <;> omega
  exact two_zero hD rs z4 z6
def mi (a : I2) : I2 := (-a.1, -a.2)
def fl (a : I2) : I2 := (-a.1, a.2)
theorem cr_mi1 (a b : I2) : cr (mi a) b = - cr a b := by unfold cr mi; grind
theorem cr_mi2 (a b : I2) : cr a (mi b) = - cr a b := by unfold cr mi; grind
theorem cr_fl (a b : I2) : cr (fl a) (fl b) = - cr a b := by unfold cr fl; grind
theorem mi_ne {a : I2} (h : a ≠ (0, 0)) : mi a ≠ (0, 0) := fun e => h (by
  have h1 := congrArg Prod.fst e
  have h2 := congrArg Prod.snd e
  simp only [mi] at h1 h2
  exact Prod.ext (by show a.1 = 0; omega) (by show a.2 = 0; omega))
theorem fl_ne {a : I2} (h : a ≠ (0, 0)) : fl a ≠ (0, 0) := fun e => h (by
  have h1 := congrArg Prod.fst e
  have h2 := congrArg Prod.snd e
  simp only [fl] at h1 h2
  exact Prod.ext (by show a.1 = 0; omega) (by show a.2 = 0; omega))
/-- the four lines through O and R -/
theorem sat4 {D p q r s w : I2} (hD : D ≠ (0, 0)) (Dp : 0 ≤ cr D p) (Dq : 0 ≤ cr D q) (Dr : cr D r ≤ 0) (Ds : cr D s ≤ 0) (Dw : 0 ≤ cr D w) (pq : 0 < cr p q) (rs : 0 < cr r s) :
    (0 ≤ cr p w ∧ cr p r ≤ 0 ∧ cr p s ≤ 0) ∨ (cr q w ≤ 0 ∧ 0 ≤ cr q r ∧ 0 ≤ cr q s) ∨ (cr r w ≤ 0 ∧ cr r p ≤ 0 ∧ cr r q ≤ 0) ∨ (0 ≤ cr s w ∧ 0 ≤ cr s p ∧ 0 ≤ cr s q) := by
  -- the other way round: t and u change places, or the plane is mirrored
  have fR : 0 < cr p r → cr r q ≤ 0 := fun h => by
    have := first (D := mi D) (p := r) (q := s) (r := p) (s := q) (mi_ne hD) (by rw [cr_mi1]; omega) (by rw [cr_mi1]; omega) (by rw [cr_mi1]; omega) (by rw [cr_mi1]; omega) rs pq (by rw [cr_anti]; omega)
    exact this
  have fQ : 0 ≤ cr q s → 0 ≤ cr q r := fun h => by
    have := first (D := mi (fl D)) (p := fl q) (q := fl p) (r := fl s) (s := fl r) (mi_ne (fl_ne hD)) (by rw [cr_mi1, cr_fl]; omega) (by rw [cr_mi1, cr_fl]; omega) (by rw [cr_mi1, cr_fl]; omega) (by rw [cr_mi1, cr_fl]; omega) (by rw [cr_fl, cr_anti]; omega) (by rw [cr_fl, cr_anti]; omega) (by rw [cr_fl]; omega)
    rw [cr_fl] at this
    omega
  have fS : cr q s < 0 → 0 ≤ cr s p := fun h => by
    have := first (D := fl D) (p := fl s) (q := fl r) (r := fl q) (s := fl p) (fl_ne hD) (by rw [cr_fl]; omega) (by rw [cr_fl]; omega) (by rw [cr_fl]; omega) (by rw [cr_fl]; omega) (by rw [cr_fl, cr_anti]; omega) (by rw [cr_fl, cr_anti]; omega) (by rw [cr_fl, cr_anti]; omega)
    rw [cr_fl] at this
    omega
  have a1 := cr_anti r p
  have a2 := cr_anti s q
  have a3 := cr_anti r q
  have a4 := cr_anti s p
  have nn : ¬ (cr D p = 0 ∧ cr D q = 0) := fun z => two_zero hD pq z.1 z.2
  have nm : ¬ (cr D r = 0 ∧ cr D s = 0) := fun z => two_zero hD rs z.1 z.2
  by_cases h1 : cr p r ≤ 0
  · have h2 := first hD Dp Dq Dr Ds pq rs h1
    by_cases h3 : 0 ≤ cr p w
    · exact .inl ⟨h3, h1, h2⟩
    · by_cases h4 : 0 ≤ cr q s
      · refine .inr (.inl ⟨?_, fQ h4, h4⟩)
        apply Int.not_lt.mp
        intro h5
        have e := cr_plu D p q w
        have t1 : 0 ≤ cr D p * cr q w := Int.mul_nonneg Dp (by omega)
        have t2 : cr D q * cr p w ≤ 0 := Int.mul_nonpos_of_nonneg_of_nonpos Dq (by omega)
        have t3 : 0 ≤ cr D w * cr p q := Int.mul_nonneg Dw (by omega)
        have z1 : cr D p * cr q w = 0 := by omega
        have z2 : cr D q * cr p w = 0 := by omega
        refine nn ⟨?_, ?_⟩
        · rcases Int.mul_eq_zero.mp z1 with z | z <;> omega
        · rcases Int.mul_eq_zero.mp z2 with z | z <;> omega
      · refine .inr (.inr (.inr ⟨?_, fS (by omega), by omega⟩))
        apply Int.not_lt.mp
        intro h5
        have e := cr_plu D p s w
        have t1 : cr D p * cr s w ≤ 0 := Int.mul_nonpos_of_nonneg_of_nonpos Dp (by omega)
        have t2 : 0 ≤ cr D s * cr p w := Int.mul_nonneg_of_nonpos_of_nonpos Ds (by omega)
        have t3 : cr D w * cr p s ≤ 0 := Int.mul_nonpos_of_nonneg_of_nonpos Dw h2
        have z1 : cr D p * cr s w = 0 := by omega
        have z2 : cr D s * cr p w = 0 := by omega
        have z3 : cr D p = 0 := by rcases Int.mul_eq_zero.mp z1 with z | z <;> omega
        have e3 := cr_plu D p q w
        rw [z3] at e3
        simp only [Int.zero_mul] at e3
        have t4 : cr D q * cr p w ≤ 0 := Int.mul_nonpos_of_nonneg_of_nonpos Dq (by omega)
        have t5 : 0 ≤ cr D w * cr p q := Int.mul_nonneg Dw (by omega)
        have z5 : cr D q * cr p w = 0 := by omega
        refine nn ⟨z3, ?_⟩
        rcases Int.mul_eq_zero.mp z5 with z | z <;> omega
  · have h2 := fR (by omega)
    by_cases h3 : cr r w ≤ 0
    · exact .inr (.inr (.inl ⟨h3, by omega, h2⟩))
    · by_cases h4 : 0 ≤ cr q s
      · have h5 := fQ h4
        refine .inr (.inl ⟨?_, h5, h4⟩)
        apply Int.not_lt.mp
        intro h6
        have e := cr_plu D q r w
        have t1 : 0 ≤ cr D q * cr r w := Int.mul_nonneg Dq (by omega)
        have t2 : cr D r * cr q w ≤ 0 := Int.mul_nonpos_of_nonpos_of_nonneg Dr (by omega)
        have t3 : 0 ≤ cr D w * cr q r := Int.mul_nonneg Dw (by omega)
        have z1 : cr D q * cr r w = 0 := by omega
        have z2 : cr D q = 0 := by rcases Int.mul_eq_zero.mp z1 with z | z <;> omega
        have e2 := cr_plu D p q w
        rw [z2] at e2
        simp only [Int.zero_mul] at e2
        have t4 : 0 ≤ cr D p * cr q w := Int.mul_nonneg Dp (by omega)
        have t5 : 0 ≤ cr D w * cr p q := Int.mul_nonneg Dw (by omega)
        have z3 : cr D p * cr q w = 0 := by omega
        refine nn ⟨?_, z2⟩
        rcases Int.mul_eq_zero.mp z3 with z | z <;> omega
      · refine .inr (.inr (.inr ⟨?_, fS (by omega), by omega⟩))
        apply Int.not_lt.mp
        intro h5
        have e := cr_plu D r s w
        have t1 : 0 ≤ cr D r * cr s w := Int.mul_nonneg_of_nonpos_of_nonpos Dr (by omega)
        have t2 : cr D s * cr r w ≤ 0 := Int.mul_nonpos_of_nonpos_of_nonneg Ds (by omega)
        have t3 : 0 ≤ cr D w * cr r s := Int.mul_nonneg Dw (by omega)
        have z1 : cr D r * cr s w = 0 := by omega
        have z2 : cr D s * cr r w = 0 := by omega
        refine nm ⟨?_, ?_⟩
        · rcases Int.mul_eq_zero.mp z1 with z | z <;> omega
        · rcases Int.mul_eq_zero.mp z2 with z | z <;> omega
def vec (a b : I2) : I2 := (b.1 - a.1, b.2 - a.2)
/-- no corner of d e f is left of a b -/
def cutE (a b d e f : I2) : Bool := decide (sd a b d ≤ 0) && (decide (sd a b e ≤ 0) && decide (sd a b f ≤ 0))
/-- an edge of a b c has all of d e f on its right -/
def cutT (a b c d e f : I2) : Bool := cutE a b d e f || (cutE b c d e f || cutE c a d e f)
theorem cutE_of {a b d e f : I2} (h1 : sd a b d ≤ 0) (h2 : sd a b e ≤ 0) (h3 : sd a b f ≤ 0) : cutE a b d e f = true := by
  unfold cutE
  simp [h1, h2, h3]
/-- O the corner of t that is nearest to the line, R that of u -/
theorem sat_at {D O P Q R S T : I2} (hD : D ≠ (0, 0)) (hP : 0 ≤ cr D (vec O P)) (hQ : 0 ≤ cr D (vec O Q)) (hS : cr D (vec R S) ≤ 0) (hT : cr D (vec R T) ≤ 0) (hw : 0 ≤ cr D (vec R O)) (ht : 0 < sd O P Q) (hu : 0 < sd R S T) :
    cutE O P R S T = true ∨ cutE Q O R S T = true ∨ cutE R S O P Q = true ∨ cutE T R O P Q = true := by
  have e1 : cr (vec O P) (vec O Q) = sd O P Q := by unfold cr vec sd sideI; rfl
  have e2 : cr (vec R S) (vec R T) = sd R S T := by unfold cr vec sd sideI; rfl
  rcases sat4 hD hP hQ hS hT hw (by rw [e1]; exact ht) (by rw [e2]; exact hu) with ⟨a1, a2, a3⟩ | ⟨a1, a2, a3⟩ | ⟨a1, a2, a3⟩ | ⟨a1, a2, a3⟩
  · refine .inl (cutE_of ?_ ?_ ?_)
    · have : sd O P R = - cr (vec O P) (vec R O) := by unfold cr vec sd sideI; grind
      omega
    · have : sd O P S = cr (vec O P) (vec R S) - cr (vec O P) (vec R O) := by unfold cr vec sd sideI; grind
      omega
    · have : sd O P T = cr (vec O P) (vec R T) - cr (vec O P) (vec R O) := by unfold cr vec sd sideI; grind
      omega
  · refine .inr (.inl (cutE_of ?_ ?_ ?_))
    · have : sd Q O R = cr (vec O Q) (vec R O) := by unfold cr vec sd sideI; grind
      omega
    · have : sd Q O S = cr (vec O Q) (vec R O) - cr (vec O Q) (vec R S) := by unfold cr vec sd sideI; grind
      omega
    · have : sd Q O T = cr (vec O Q) (vec R O) - cr (vec O Q) (vec R T) := by unfold cr vec sd sideI; grind
      omega
  · refine .inr (.inr (.inl (cutE_of ?_ ?_ ?_)))
    · have : sd R S O = cr (vec R S) (vec R O) := by unfold cr vec sd sideI; grind
      omega
    · have : sd R S P = cr (vec R S) (vec R O) + cr (vec R S) (vec O P) := by unfold cr vec sd sideI; grind
      omega
    · have : sd R S Q = cr (vec R S) (vec R O) + cr (vec R S) (vec O Q) := by unfold cr vec sd sideI; grind
      omega
  · refine .inr (.inr (.inr (cutE_of ?_ ?_ ?_)))
    · have : sd T R O = - cr (vec R T) (vec R O) := by unfold cr vec sd sideI; grind
      omega
    · have : sd T R P = - cr (vec R T) (vec R O) - cr (vec R T) (vec O P) := by unfold cr vec sd sideI; grind
      omega
    · have : sd T R Q = - cr (vec R T) (vec R O) - cr (vec R T) (vec O Q) := by unfold cr vec sd sideI; grind
      omega
theorem cutE_rot (a b d e f : I2) : cutE a b e f d = cutE a b d e f := by
  unfold cutE
  cases decide (sd a b d ≤ 0) <;> cases decide (sd a b e ≤ 0) <;> cases decide (sd a b f ≤ 0) <;> rfl
theorem cutT_rot (a b c d e f : I2) : cutT b c a d e f = cutT a b c d e f := by
  unfold cutT
  cases cutE a b d e f <;> cases cutE b c d e f <;> cases cutE c a d e f <;> rfl
theorem cutT_rot2 (a b c d e f : I2) : cutT a b c e f d = cutT a b c d e f := by
  unfold cutT
  rw [cutE_rot a b d e f, cutE_rot b c d e f, cutE_rot c a d e f]
def apartT (a b c d e f : I2) : Bool := cutT a b c d e f || cutT d e f a b c
theorem apartT_rot (a b c d e f : I2) : apartT b c a d e f = apartT a b c d e f := by
  unfold apartT
  rw [cutT_rot a b c d e f, cutT_rot2 d e f a b c]
theorem apartT_rot2 (a b c d e f : I2) : apartT a b c e f d = apartT a b c d e f := by
  unfold apartT
  rw [cutT_rot2 a b c d e f, cutT_rot d e f a b c]
theorem apartT_comm (a b c d e f : I2) : apartT d e f a b c = apartT a b c d e f := by
  unfold apartT
  rw [Bool.or_comm]
theorem sd_rot (a b c : I2) : sd b c a = sd a b c := by unfold sd sideI; grind
theorem sat_min {U V O P Q R S T : I2} (hV : U ≠ V) (h1 : sd U V O ≤ sd U V P) (h2 : sd U V O ≤ sd U V Q) (h3 : sd U V S ≤ sd U V R) (h4 : sd U V T ≤ sd U V R) (h5 : sd U V R ≤ sd U V O) (ht : 0 < sd O P Q) (hu : 0 < sd R S T) : apartT O P Q R S T = true := by
  have hl : ∀ x y : I2, cr (vec U V) (vec x y) = sd U V y - sd U V x := fun x y => by unfold cr vec sd sideI; grind
  have hD : vec U V ≠ (0, 0) := fun e => hV (by
    have h1 := congrArg Prod.fst e
    have h2 := congrArg Prod.snd e
    simp only [vec] at h1 h2
    exact Prod.ext (by omega) (by omega))
  unfold apartT cutT
  rcases sat_at (D := vec U V) hD (by rw [hl]; omega) (by rw [hl]; omega) (by rw [hl]; omega) (by rw [hl]; omega) (by rw [hl]; omega) ht hu with h | h | h | h <;> simp [h]
/-- two triangles on the two sides of the line U V -/
theorem sat {U V a b c d e f : I2} (hV : U ≠ V) (ha : 0 ≤ sd U V a) (hb : 0 ≤ sd U V b) (hc : 0 ≤ sd U V c) (hd : sd U V d ≤ 0) (he : sd U V e ≤ 0) (hf : sd U V f ≤ 0) (ht : 0 < sd a b c) (hu : 0 < sd d e f) : apartT a b c d e f = true := by
  have key : ∀ O P Q : I2, 0 ≤ sd U V O → sd U V O ≤ sd U V P → sd U V O ≤ sd U V Q → 0 < sd O P Q → apartT O P Q d e f = true := fun O P Q h0 h1 h2 h3 => by
    by_cases g1 : sd U V e ≤ sd U V d ∧ sd U V f ≤ sd U V d
    · exact sat_min hV h1 h2 g1.1 g1.2 (by omega) h3 hu
    · by_cases g2 : sd U V f ≤ sd U V e ∧ sd U V d ≤ sd U V e
      · rw [← apartT_rot2]
        exact sat_min hV h1 h2 g2.1 g2.2 (by omega) h3 (by rw [sd_rot]; exact hu)
      · rw [← apartT_rot2, ← apartT_rot2]
        exact sat_min hV h1 h2 (by omega) (by omega) (by omega) h3 (by rw [sd_rot, sd_rot]; exact hu)
  by_cases g1 : sd U V a ≤ sd U V b ∧ sd U V a ≤ sd U V c
  · exact key a b c ha g1.1 g1.2 ht
  · by_cases g2 : sd U V b ≤ sd U V c ∧ sd U V b ≤ sd U V a
    · rw [← apartT_rot]
      exact key b c a hb g2.1 g2.2 (by rw [sd_rot]; exact ht)
    · rw [← apartT_rot, ← apartT_rot]
      exact key c a b hc (by omega) (by omega) (by rw [sd_rot, sd_rot]; exact ht)
end Fo
set_option Elab.async false
set_option linter.all false
set_option maxRecDepth 100000
set_option maxHeartbeats 2000000
namespace Fo
open PySem L2
/-! ### the law's mesh: parts of cells of a bent grid -/
abbrev T9 := I2 × I2 × I2
theorem sd_swap (U V p : I2) : sd V U p = - sd U V p := by unfold sd sideI; grind
theorem sd_flip (U V p : I2) : sd U p V = - sd U V p := by unfold sd sideI; grind
theorem sd_0 (U V : I2) : sd U V U = 0 := by unfold sd sideI; grind
theorem sd_1 (U V : I2) : sd U V V = 0 := by unfold sd sideI; grind
theorem ne_of_sd {U V p : I2} (h : sd U V p ≠ 0) : U ≠ V := fun e => h (by subst e; unfold sd sideI; grind)
/-- within the hull -/
def In (vs : List I2) (p : I2) : Prop := ∀ U V : I2, (∀ v ∈ vs, 0 ≤ sd U V v) → 0 ≤ sd U V p
theorem In.mem {vs : List I2} {p : I2} (h : p ∈ vs) : In vs p := fun U V k => k p h
theorem In.mid {vs : List I2} {x y m : I2} (hx : In vs x) (hy : In vs y) (h1 : 2 * m.1 = x.1 + y.1) (h2 : 2 * m.2 = x.2 + y.2) : In vs m := fun U V k => by
  have a := hx U V k
  have b := hy U V k
  have : 2 * sd U V m = sd U V x + sd U V y := by unfold sd sideI; grind
  omega
theorem In.trans {vs ws : List I2} {p : I2} (h : ∀ v ∈ ws, In vs v) (hp : In ws p) : In vs p := fun U V k => hp U V fun v hv => h v hv U V k
/-- within the hull, against the clock, and small -/
structure Good (vs : List I2) (t : T9) : Prop where
  a : In vs t.1
  b : In vs t.2.1
  c : In vs t.2.2
  pos : 0 < sd t.1 t.2.1 t.2.2
  sa : Sm2 6 t.1
  sb : Sm2 6 t.2.1
  sc : Sm2 6 t.2.2
theorem Good.up {vs ws : List I2} {t : T9} (h : ∀ v ∈ ws, In vs v) (g : Good ws t) : Good vs t := ⟨g.a.trans h, g.b.trans h, g.c.trans h, g.pos, g.sa, g.sb, g.sc⟩
def Ap (t u : T9) : Prop := apartT t.1 t.2.1 t.2.2 u.1 u.2.1 u.2.2 = true
theorem Ap.symm {t u : T9} (h : Ap t u) : Ap u t := by
  unfold Ap at *
  rw [apartT_comm]
  exact h
theorem good_apart {vs ws : List I2} {t u : T9} {U V : I2} (hV : U ≠ V) (h1 : ∀ v ∈ vs, 0 ≤ sd U V v) (h2 : ∀ w ∈ ws, sd U V w ≤ 0) (ht : Good vs t) (hu : Good ws u) : Ap t u := by
  have k : ∀ p, In ws p → sd U V p ≤ 0 := fun p hp => by
    have := hp V U fun w hw => by rw [sd_swap]; have := h2 w hw; omega
    rw [sd_swap] at this
    omega
  exact sat hV (ht.a U V h1) (ht.b U V h1) (ht.c U V h1) (k _ hu.a) (k _ hu.b) (k _ hu.c) ht.pos hu.pos
/-- some, each within, any two apart -/
def Parts (vs : List I2) (ts : List T9) : Prop := (∀ t ∈ ts, Good vs t) ∧ ts.Pairwise Ap
theorem parts_one {x y z : I2} (h : 0 < sd x y z) (sx : Sm2 6 x) (sy : Sm2 6 y) (sz : Sm2 6 z) : Parts [x, y, z] [(x, y, z)] := by
  refine ⟨fun t ht => ?_, List.pairwise_singleton _ _⟩
  rw [List.mem_singleton] at ht
  subst ht
  exact ⟨.mem (by simp), .mem (by simp), .mem (by simp), h, sx, sy, sz⟩
theorem mid_sm {x y m : I2} (sx : Sm2 6 x) (sy : Sm2 6 y) (h1 : 2 * m.1 = x.1 + y.1) (h2 : 2 * m.2 = x.2 + y.2) : Sm2 6 m := by
  have a := sx.1
  have b := sx.2
  have c := sy.1
  have d := sy.2
  constructor
  · show Sm 6 _
    unfold Sm at *
    omega
  · show Sm 6 _
    unfold Sm at *
    omega
theorem parts_two {x y z m : I2} (h : 0 < sd x y z) (sx : Sm2 6 x) (sy : Sm2 6 y) (sz : Sm2 6 z) (h1 : 2 * m.1 = x.1 + y.1) (h2 : 2 * m.2 = x.2 + y.2) : Parts [x, y, z] [(x, m, z), (m, y, z)] := by
  have im : In [x, y, z] m := In.mid (.mem (by simp)) (.mem (by simp)) h1 h2
  have sm := mid_sm sx sy h1 h2
  have e1 : 2 * sd x m z = sd x y z := by unfold sd sideI; grind
  have e2 : 2 * sd m y z = sd x y z := by unfold sd sideI; grind
  have g1 : Good [x, y, z] (x, m, z) := ⟨.mem (by simp), im, .mem (by simp), by show 0 < sd x m z; omega, sx, sm, sz⟩
  have g2 : Good [x, y, z] (m, y, z) := ⟨im, .mem (by simp), .mem (by simp), by show 0 < sd m y z; omega, sm, sy, sz⟩
  refine ⟨fun t ht => ?_, ?_⟩
  · rcases List.mem_cons.mp ht with rfl | ht
    · exact g1
    · rw [List.mem_singleton] at ht
      subst ht
      exact g2
  · refine List.Pairwise.cons (fun u hu => ?_) (List.pairwise_singleton _ _)
    rw [List.mem_singleton] at hu
    subst hu
    have e3 : sd m z x = sd x m z := by unfold sd sideI; grind
    have e4 : sd m z y = - sd m y z := sd_flip ..
    show apartT x m z m y z = true
    exact sat (U := m) (V := z) (ne_of_sd (p := x) (by omega)) (by omega) (by rw [sd_0]; omega) (by rw [sd_1]; omega) (by rw [sd_0]; omega) (by omega) (by rw [sd_1]; omega) g1.pos g2.pos
theorem Parts.up {vs ws : List I2} {ts : List T9} (h : ∀ v ∈ ws, In vs v) (g : Parts ws ts) : Parts vs ts := ⟨fun t ht => (g.1 t ht).up h, g.2⟩
/-- two parts of a cell, on both sides of U V -/
theorem Parts.join {vs ws xs : List I2} {ts us : List T9} {U V : I2} (hV : U ≠ V) (h1 : ∀ v ∈ vs, 0 ≤ sd U V v) (h2 : ∀ w ∈ ws, sd U V w ≤ 0) (hv : ∀ v ∈ vs, v ∈ xs) (hw : ∀ w ∈ ws, w ∈ xs) (ht : Parts vs ts) (hu : Parts ws us) :
    Parts xs (ts ++ us) ∧ Parts xs (us ++ ts) := by
  have t' := Parts.up (vs := xs) (fun v h => .mem (hv v h)) ht
  have u' := Parts.up (vs := xs) (fun v h => .mem (hw v h)) hu
  have k : ∀ t ∈ ts, ∀ u ∈ us, Ap t u := fun t h u h' => good_apart hV h1 h2 (ht.1 t h) (hu.1 u h')
  refine ⟨⟨fun t h => ?_, List.pairwise_append.mpr ⟨ht.2, hu.2, k⟩⟩, fun t h => ?_, List.pairwise_append.mpr ⟨hu.2, ht.2, fun u hu' t ht' => (k t ht' u hu').symm⟩⟩
  · rcases List.mem_append.mp h with h | h
    · exact t'.1 t h
    · exact u'.1 t h
  · rcases List.mem_append.mp h with h | h
    · exact u'.1 t h
    · exact t'.1 t h
/-- near (8 k, 8 r) -/
structure Nr (p : I2) (r k : Nat) : Prop where
  x0 : 8 * (k : Int) - 1 ≤ p.1
  x1 : p.1 ≤ 8 * (k : Int) + 1
  y0 : 8 * (r : Int) - 1 ≤ p.2
  y1 : p.2 ≤ 8 * (r : Int) + 1
theorem big {x y z w : Int} (hx : 6 ≤ x) (hy : 6 ≤ y) (hz : -2 ≤ z) (hz' : z ≤ 2) (hw : -10 ≤ w) (hw' : w ≤ 10) : 0 < x * y - z * w := by
  have h1 : 6 * 6 ≤ x * y := Int.mul_le_mul hx hy (by decide) (by omega)
  have h2 : z = -2 ∨ z = -1 ∨ z = 0 ∨ z = 1 ∨ z = 2 := by omega
  rcases h2 with rfl | rfl | rfl | rfl | rfl <;> omega
theorem upL {U V p : I2} {r k r' : Nat} (hU : Nr U r (k + 1)) (hV : Nr V (r + 1) (k + 1)) (hp : Nr p r' k) (h : r' = r ∨ r' = r + 1) : 0 < sd U V p := by
  have e : sd U V p = (V.2 - U.2) * (U.1 - p.1) - (V.1 - U.1) * (U.2 - p.2) := by unfold sd sideI; grind
  obtain ⟨a1, a2, a3, a4⟩ := hU
  obtain ⟨b1, b2, b3, b4⟩ := hV
  obtain ⟨c1, c2, c3, c4⟩ := hp
  rw [e]
  refine big ?_ ?_ ?_ ?_ ?_ ?_ <;> rcases h with rfl | rfl <;> omega
theorem upR {U V p : I2} {r k r' : Nat} (hU : Nr U r k) (hV : Nr V (r + 1) k) (hp : Nr p r' (k + 1)) (h : r' = r ∨ r' = r + 1) : sd U V p < 0 := by
  have e : - sd U V p = (V.2 - U.2) * (p.1 - U.1) - (V.1 - U.1) * (p.2 - U.2) := by unfold sd sideI; grind
  obtain ⟨a1, a2, a3, a4⟩ := hU
  obtain ⟨b1, b2, b3, b4⟩ := hV
  obtain ⟨c1, c2, c3, c4⟩ := hp
  have : 0 < - sd U V p := by
    rw [e]
    refine big ?_ ?_ ?_ ?_ ?_ ?_ <;> rcases h with rfl | rfl <;> omega
  omega
theorem riU {U V p : I2} {r k k' : Nat} (hU : Nr U r k) (hV : Nr V r (k + 1)) (hp : Nr p (r + 1) k') (h : k' = k ∨ k' = k + 1) : 0 < sd U V p := by
  have e : sd U V p = (V.1 - U.1) * (p.2 - U.2) - (V.2 - U.2) * (p.1 - U.1) := rfl
  obtain ⟨a1, a2, a3, a4⟩ := hU
  obtain ⟨b1, b2, b3, b4⟩ := hV
  obtain ⟨c1, c2, c3, c4⟩ := hp
  rw [e]
  refine big ?_ ?_ ?_ ?_ ?_ ?_ <;> rcases h with rfl | rfl <;> omega
theorem riD {U V p : I2} {r k k' : Nat} (hU : Nr U (r + 1) k) (hV : Nr V (r + 1) (k + 1)) (hp : Nr p r k') (h : k' = k ∨ k' = k + 1) : sd U V p < 0 := by
  have e : - sd U V p = (V.1 - U.1) * (U.2 - p.2) - (V.2 - U.2) * (U.1 - p.1) := by unfold sd sideI; grind
  obtain ⟨a1, a2, a3, a4⟩ := hU
  obtain ⟨b1, b2, b3, b4⟩ := hV
  obtain ⟨c1, c2, c3, c4⟩ := hp
  have : 0 < - sd U V p := by
    rw [e]
    refine big ?_ ?_ ?_ ?_ ?_ ?_ <;> rcases h with rfl | rfl <;> omega
  omega
def corn (G : Nat → Nat → I2) (r k : Nat) : List I2 := [G r k, G r (k + 1), G (r + 1) (k + 1), G (r + 1) k]
theorem all4 {a b c d : I2} {P : I2 → Prop} (ha : P a) (hb : P b) (hc : P c) (hd : P d) : ∀ v ∈ [a, b, c, d], P v := fun v hv => by
  simp only [List.mem_cons, List.not_mem_nil, or_false] at hv
  rcases hv with rfl | rfl | rfl | rfl <;> assumption
theorem all3 {a b c : I2} {P : I2 → Prop} (ha : P a) (hb : P b) (hc : P c) : ∀ v ∈ [a, b, c], P v := fun v hv => by
  simp only [List.mem_cons, List.not_mem_nil, or_false] at hv
  rcases hv with rfl | rfl | rfl <;> assumption
section
variable {G : Nat → Nat → I2} {w h : Nat}
/-- the two ways a cell is cut -/
theorem cell1 {a b c d : I2} {r k : Nat} (ha : Nr a r k) (hb : Nr b r (k + 1)) (hc : Nr c (r + 1) (k + 1)) (hd : Nr d (r + 1) k) {ts us : List T9} (ht : Parts [a, b, c] ts) (hu : Parts [a, c, d] us) : Parts [a, b, c, d] (ts ++ us) := by
  have p1 : 0 < sd a b c := riU ha hb hc (.inr rfl)
  have p2 : sd a d c < 0 := upR ha hd hc (.inr rfl)
  have e1 : sd a c b = - sd a b c := sd_flip ..
  have e2 : sd a c d = - sd a d c := sd_flip ..
  exact (Parts.join (U := a) (V := c) (ne_of_sd (p := d) (by omega)) (all3 (by rw [sd_0]; omega) (by rw [sd_1]; omega) (by omega)) (all3 (by rw [sd_0]; omega) (by omega) (by rw [sd_1]; omega)) (by simp) (by simp) hu ht).2
theorem cell2 {a b c d : I2} {r k : Nat} (ha : Nr a r k) (hb : Nr b r (k + 1)) (hc : Nr c (r + 1) (k + 1)) (hd : Nr d (r + 1) k) {ts us : List T9} (ht : Parts [a, b, d] ts) (hu : Parts [b, c, d] us) : Parts [a, b, c, d] (ts ++ us) := by
  have p1 : 0 < sd a b d := riU ha hb hd (.inl rfl)
  have p2 : 0 < sd b c d := upL hb hc hd (.inr rfl)
  have e1 : sd b d a = sd a b d := sd_rot ..
  have e2 : sd b d c = - sd b c d := sd_flip ..
  exact (Parts.join (U := b) (V := d) (ne_of_sd (p := a) (by omega)) (all3 (by omega) (by rw [sd_0]; omega) (by rw [sd_1]; omega)) (all3 (by rw [sd_0]; omega) (by omega) (by rw [sd_1]; omega)) (by simp) (by simp) ht hu).1
variable (hG : ∀ r k, r ≤ h → k ≤ w → Nr (G r k) r k)
include hG
theorem apH {r : Nat} (hr : r < h) (hw : 2 ≤ w) {t u : T9} (ht : Good (corn G r 0) t) (hu : Good (corn G r 1) u) : Ap t u := by
  have n0 := hG r 0 (by omega) (by omega)
  have n1 := hG r 1 (by omega) (by omega)
  have n2 := hG r 2 (by omega) (by omega)
  have m0 := hG (r + 1) 0 (by omega) (by omega)
  have m1 := hG (r + 1) 1 (by omega) (by omega)
  have m2 := hG (r + 1) 2 (by omega) (by omega)
  have l0 := upL n1 m1 n0 (.inl rfl)
  have l1 := upL n1 m1 m0 (.inr rfl)
  have r0 := upR n1 m1 n2 (.inl rfl)
  have r1 := upR n1 m1 m2 (.inr rfl)
  exact good_apart (U := G r 1) (V := G (r + 1) 1) (ne_of_sd (p := G r 0) (by omega)) (all4 (Int.le_of_lt l0) (by rw [sd_0]; omega) (by rw [sd_1]; omega) (Int.le_of_lt l1)) (all4 (by rw [sd_0]; omega) (Int.le_of_lt r0) (Int.le_of_lt r1) (by rw [sd_1]; omega)) ht hu
theorem apV {k : Nat} (hk : k < w) (hh : 2 ≤ h) {t u : T9} (ht : Good (corn G 0 k) t) (hu : Good (corn G 1 k) u) : Ap t u := by
  have n0 := hG 0 k (by omega) (by omega)
  have n1 := hG 0 (k + 1) (by omega) (by omega)
  have m0 := hG 1 k (by omega) (by omega)
  have m1 := hG 1 (k + 1) (by omega) (by omega)
  have o0 := hG 2 k (by omega) (by omega)
  have o1 := hG 2 (k + 1) (by omega) (by omega)
  have l0 := riD m0 m1 n0 (.inl rfl)
  have l1 := riD m0 m1 n1 (.inr rfl)
  have r0 := riU m0 m1 o0 (.inl rfl)
  have r1 := riU m0 m1 o1 (.inr rfl)
  exact (good_apart (U := G 1 k) (V := G 1 (k + 1)) (ne_of_sd (p := G 0 k) (by omega)) (all4 (by rw [sd_0]; omega) (by rw [sd_1]; omega) (Int.le_of_lt r1) (Int.le_of_lt r0)) (all4 (Int.le_of_lt l0) (Int.le_of_lt l1) (by rw [sd_1]; omega) (by rw [sd_0]; omega)) hu ht).symm
theorem apD1 (hw : 2 ≤ w) (hh : 2 ≤ h) {t u : T9} (ht : Good (corn G 0 0) t) (hu : Good (corn G 1 1) u) : Ap t u := by
  obtain ⟨a1, a2, a3, a4⟩ := hG 0 0 (by omega) (by omega)
  obtain ⟨b1, b2, b3, b4⟩ := hG 0 1 (by omega) (by omega)
  obtain ⟨c1, c2, c3, c4⟩ := hG 1 0 (by omega) (by omega)
  obtain ⟨d1, d2, d3, d4⟩ := hG 1 1 (by omega) (by omega)
  obtain ⟨e1, e2, e3, e4⟩ := hG 1 2 (by omega) (by omega)
  obtain ⟨f1, f2, f3, f4⟩ := hG 2 1 (by omega) (by omega)
  obtain ⟨g1, g2, g3, g4⟩ := hG 2 2 (by omega) (by omega)
  have e : ∀ p, sd (G 1 1) ((G 1 1).1 + 1, (G 1 1).2 - 1) p = (p.2 - (G 1 1).2) + (p.1 - (G 1 1).1) := fun p => by unfold sd sideI; grind
  exact (good_apart (vs := [G 1 1, G 1 2, G 2 2, G 2 1]) (ws := [G 0 0, G 0 1, G 1 1, G 1 0]) (U := G 1 1) (V := ((G 1 1).1 + 1, (G 1 1).2 - 1)) (ne_of_sd (p := G 0 0) (by rw [e]; omega)) (all4 (by rw [e]; omega) (by rw [e]; omega) (by rw [e]; omega) (by rw [e]; omega)) (all4 (by rw [e]; omega) (by rw [e]; omega) (by rw [e]; omega) (by rw [e]; omega)) hu ht).symm
theorem apD2 (hw : 2 ≤ w) (hh : 2 ≤ h) {t u : T9} (ht : Good (corn G 0 1) t) (hu : Good (corn G 1 0) u) : Ap t u := by
  obtain ⟨a1, a2, a3, a4⟩ := hG 0 1 (by omega) (by omega)
  obtain ⟨b1, b2, b3, b4⟩ := hG 0 2 (by omega) (by omega)
  obtain ⟨c1, c2, c3, c4⟩ := hG 1 0 (by omega) (by omega)
  obtain ⟨d1, d2, d3, d4⟩ := hG 1 1 (by omega) (by omega)
  obtain ⟨e1, e2, e3, e4⟩ := hG 1 2 (by omega) (by omega)
  obtain ⟨f1, f2, f3, f4⟩ := hG 2 0 (by omega) (by omega)
  obtain ⟨g1, g2, g3, g4⟩ := hG 2 1 (by omega) (by omega)
  have e : ∀ p, sd (G 1 1) ((G 1 1).1 + 1, (G 1 1).2 + 1) p = (p.2 - (G 1 1).2) - (p.1 - (G 1 1).1) := fun p => by unfold sd sideI; grind
  exact (good_apart (vs := [G 1 0, G 1 1, G 2 1, G 2 0]) (ws := [G 0 1, G 0 2, G 1 2, G 1 1]) (U := G 1 1) (V := ((G 1 1).1 + 1, (G 1 1).2 + 1)) (ne_of_sd (p := G 1 0) (by rw [e]; omega)) (all4 (by rw [e]; omega) (by rw [e]; omega) (by rw [e]; omega) (by rw [e]; omega)) (all4 (by rw [e]; omega) (by rw [e]; omega) (by rw [e]; omega) (by rw [e]; omega)) hu ht).symm
theorem cells_apart {r k r' k' : Nat} (hr : r < h) (hk : k < w) (hr' : r' < h) (hk' : k' < w) (h2 : h ≤ 2) (w2 : w ≤ 2) (ne : ¬ (r = r' ∧ k = k')) {t u : T9} (ht : Good (corn G r k) t) (hu : Good (corn G r' k') u) : Ap t u := by
  have z1 : r = 0 ∨ r = 1 := by omega
  have z2 : k = 0 ∨ k = 1 := by omega
  have z3 : r' = 0 ∨ r' = 1 := by omega
  have z4 : k' = 0 ∨ k' = 1 := by omega
  rcases z1 with rfl | rfl <;> rcases z2 with rfl | rfl <;> rcases z3 with rfl | rfl <;> rcases z4 with rfl | rfl
  · exact absurd ⟨rfl, rfl⟩ ne
  · exact apH hG hr (by omega) ht hu
  · exact apV hG hk (by omega) ht hu
  · exact apD1 hG (by omega) (by omega) ht hu
  · exact (apH hG hr (by omega) hu ht).symm
  · exact absurd ⟨rfl, rfl⟩ ne
  · exact apD2 hG (by omega) (by omega) ht hu
  · exact apV hG hk (by omega) ht hu
  · exact (apV hG hk (by omega) hu ht).symm
  · exact (apD2 hG (by omega) (by omega) hu ht).symm
  · exact absurd ⟨rfl, rfl⟩ ne
  · exact apH hG hr (by omega) ht hu
  · exact (apD1 hG (by omega) (by omega) hu ht).symm
  · exact (apV hG hk (by omega) hu ht).symm
  · exact (apH hG hr (by omega) hu ht).symm
  · exact absurd ⟨rfl, rfl⟩ ne
end
end Fo
set_option Elab.async false
set_option linter.all false
set_option maxRecDepth 100000
set_option maxHeartbeats 2000000
namespace Fo
open PySem L2
/-! ### apart, and Mesh -/
def spCut (C CT : Addr) (g : I2 → I2 → I2 → I2 → I2 → I2 → Bool) : Sp := fun vs H Q _ => ∃ (n : Nat) (t u : V) (a b c d e f : I2), vs = [t, u] ∧ IsT C CT t a b c H ∧ IsT C CT u d e f H ∧ n < 1000 ∧ Sm2 n a ∧ Sm2 n b ∧ Sm2 n c ∧ Sm2 n d ∧ Sm2 n e ∧ Sm2 n f ∧ ∀ H', Same H H' → Q (.bl (g a b c d e f)) H'
section
variable {P : Program} {w : World} {K : PySem.W.Frag} {mg : Str → Option Value} {base : Heap}
variable {C fW fI fP fA fO CT fS fTI fCo fEd fAr fEq fAd pAr : Addr} {fdW fdI fdP fdA fdO fdS fdTI fdCo fdEd fdAr fdEq fdAd : FuncData}
abbrev cutSc : Scope := { kind := .function, names := [(".0", .local), ("a", .cell), ("b", .cell), ("all", .globalImplicit), ("other", .cell)], isGenerator := false, isCoroutine := false }
abbrev cutN : List Str := ["triangle", "other", "a", "b", "corner"]
theorem scCut : FnScope cutN ["triangle", "other"] (defScope sCut) := ⟨rfl, rfl, rfl, by decide +kernel, rfl, by decide +kernel, by decide +kernel⟩
theorem ok_cut {f' : Addr} {fd' : FuncData} (F : Fun K "is_cut_off" "is_cut_off" sCut f' fd') (d' : TDefs K mg C CT fS fTI fCo fEd fAr fEq fAd pAr fdS fdTI fdCo fdEd fdAr fdEq fdAd) (D : Defs K mg C fW fI fP fA fO fdW fdI fdP fdA fdO) (zA : mg "any" = none) :
    FnOk P w K mg base CX0 8 f' fd' ["triangle", "other"] (spCut C CT cutT) := by
  have GS : FnOk P w K mg base CX0 7 fS fdS ["a", "b", "point"] (spSide C) := ok_side d'.FS D
  have GE : FnOk P w K mg base CX0 1 fEd fdEd ["self"] (spEdges C CT) := d'.GEd
  have GCo : FnOk P w K mg base CX0 1 fCo fdCo ["self"] (spCorners C CT) := d'.GCo
  have T := d'.TT
  refine F.ok scCut (fun vs H Q E h => ?_) (fun cdv A outer s H vs Q E hr h => ?_)
  · obtain ⟨n, t, u, a, b, c, d, e, f, rfl, _⟩ := h
    rfl
  · obtain ⟨n, t, u, a, b, c, d, e, f, rfl, ht, hu, n1, sa, sb, sc, sd', se, sf, k⟩ := h
    have hr1 : Room 1 _ := hr.mono (by decide)
    refine ⟨_, pss_one (ps_ret (pe_callB (cr_any rfl) (by rfl) zA (by decide +kernel) (pa_cons
        (pe_lc (own := [("a", 2), ("b", 3)]) (g := gTup K 2 (gCons (gName 2) (gCons (gName 3) gNil))) (tt := tYes) rfl scCut.nd (pi_list (pe_meth0 (pv 0) T.cl d'.mEd GE hr1 d'.bEd .nil pass0))
          (blkOk_by (own := [("a", 2), ("b", 3)]) (N := cutN) (sc := defScope sCut) (by decide +kernel))
          (fun _ _ _ _ _ => pg_tup rfl (pgs_cons (pg_name (i := 2) scCut.nd rfl (Or.inr rfl)) (pgs_cons (pg_name (i := 3) scCut.nd rfl (Or.inr rfl)) pgs_nil)))
          (fun _ _ _ _ _ => pts_nil)
          (fun _ _ _ _ _ => pe_callB (r := rAll K) (cr_all rfl) (by rfl) T.all (by decide +kernel) (pa_cons
            (pe_lc (own := [("corner", 4)]) (wi := iList K (tMeth CT "corners" (spCorners C CT) [] E0 (tVar 1) tNil)) (g := gName 4) (tt := tYes) rfl scCut.nd (pi_list (pe_meth0 (pv 1) T.cl d'.mCo GCo hr1 d'.bCo .nil pass0))
              (blkOk_by (own := [("corner", 4)]) (N := cutN) (sc := cutSc) (by decide +kernel))
              (fun _ _ _ _ _ => pg_name (i := 4) scCut.nd rfl (Or.inl rfl))
              (fun _ _ _ _ _ => pts_nil)
              (fun _ _ _ _ _ => pe_cmpR op_le (pe_call GS hr rfl d'.mS d'.FS.kp d'.bS .nil pass0 (pa_cons (pv 2) (pa_cons (pv 3) (pa_cons (pv 4) pa_nil)))) pe_int (nomark _))) pa_nil))) pa_nil))), ?_⟩
    obtain ⟨q, dx, l, v1, v2, v3, rfl, h1, _⟩ := id ht
    refine ⟨_, rfl, q, dx, _, rfl, h1, tipF_no _ (by decide +kernel), _, a, b, c, rfl, ht, fun v H1 g01 hE => ?_⟩
    obtain ⟨m, t1, t2, t3, w1, w2, w3, rfl, g0, g1, g2, g3, th⟩ := hE
    refine ⟨m, rfl, ⟨_, SqL.of g0⟩, fun D0 nD => ?_⟩
    refine lc_all (K := K) (xs := [.ref t1, .ref t2, .ref t3]) (sl := [2, 3]) (fun i v _ => v = .bl (if i = 0 then cutE a b d e f else if i = 1 then cutE b c d e f else cutE c a d e f)) (fun _ _ _ _ _ h => h) (fun _ _ _ _ _ _ _ _ h => h) (SqL.of g0) (by show 3 ≤ 1000; decide) ?_ ?_ nD
    · intro i x H2 hx g12 Q' k'
      have th2 := th.ex g12
      have hu2 := hu.ex (g01.trans g12)
      obtain ⟨u', dxu, lu, y1, y2, y3, rfl, hu1, _⟩ := id hu2
      rcases two3 hx with ⟨rfl, rfl⟩ | ⟨rfl, rfl⟩ | ⟨rfl, rfl⟩
      · refine ⟨t1, _, rfl, SqT.of (g12 _ _ g1), rfl, _, _, rfl, _, _, rfl, rfl, rfl, ?_⟩
        refine ⟨_, rfl, u', dxu, _, rfl, hu1, tipF_no _ (by decide +kernel), _, d, e, f, rfl, hu2, fun lc z1 z2 z3 H3 nlc g23 hlc th3 => ?_⟩
        refine ⟨lc, rfl, ⟨_, SqL.of hlc⟩, fun D1 nD1 => ?_⟩
        refine lc_all (K := K) (xs := [z1, z2, z3]) (sl := [4]) (fun i v _ => v = .bl (decide ((if i = 0 then sd a b d else if i = 1 then sd a b e else sd a b f) ≤ 0))) (fun _ _ _ _ _ h => h) (fun _ _ _ _ _ _ _ _ h => h) (SqL.of hlc) (by show 3 ≤ 1000; decide) ?_ ?_ nD1
        · intro i x H4 hx g34 Q'' k''
          have pp := (th2.1.ex (g23.trans g34)).pt
          have pq := (th2.2.1.ex (g23.trans g34)).pt
          have th4 := th3.ex g34
          rcases two3 hx with ⟨rfl, rfl⟩ | ⟨rfl, rfl⟩ | ⟨rfl, rfl⟩
          · refine ⟨rfl, _, rfl, _, rfl, _, rfl, n, w1, w2, _, a.1, a.2, b.1, b.2, d.1, d.2, rfl, pp, pq, th4.1.pt, n1, sa.1, sa.2, sb.1, sb.2, sd'.1, sd'.2, fun H5 g45 => ?_⟩
            exact ⟨_, _, rfl, rfl, k'' _ _ g45 rfl⟩
          · refine ⟨rfl, _, rfl, _, rfl, _, rfl, n, w1, w2, _, a.1, a.2, b.1, b.2, e.1, e.2, rfl, pp, pq, th4.2.1.pt, n1, sa.1, sa.2, sb.1, sb.2, se.1, se.2, fun H5 g45 => ?_⟩
            exact ⟨_, _, rfl, rfl, k'' _ _ g45 rfl⟩
          · refine ⟨rfl, _, rfl, _, rfl, _, rfl, n, w1, w2, _, a.1, a.2, b.1, b.2, f.1, f.2, rfl, pp, pq, th4.2.2.pt, n1, sa.1, sa.2, sb.1, sb.2, sf.1, sf.2, fun H5 g45 => ?_⟩
            exact ⟨_, _, rfl, rfl, k'' _ _ g45 rfl⟩
        · intro H4 vs g34 hv hlen hR
          obtain ⟨x1, x2, x3, rfl⟩ := len3' hlen
          have r1 := hR 0 x1 rfl
          have r2 := hR 1 x2 rfl
          have r3 := hR 2 x3 rfl
          subst r1 r2 r3
          refine ⟨D1, [decide (sd a b d ≤ 0), decide (sd a b e ≤ 0), decide (sd a b f ≤ 0)], rfl, SqL.of hv, ?_⟩
          have ec : ([decide (sd a b d ≤ 0), decide (sd a b e ≤ 0), decide (sd a b f ≤ 0)].all id) = cutE a b d e f := by simp [cutE]
          rw [ec]
          exact k' _ _ (g23.trans g34) rfl
      · refine ⟨t2, _, rfl, SqT.of (g12 _ _ g2), rfl, _, _, rfl, _, _, rfl, rfl, rfl, ?_⟩
        refine ⟨_, rfl, u', dxu, _, rfl, hu1, tipF_no _ (by decide +kernel), _, d, e, f, rfl, hu2, fun lc z1 z2 z3 H3 nlc g23 hlc th3 => ?_⟩
        refine ⟨lc, rfl, ⟨_, SqL.of hlc⟩, fun D1 nD1 => ?_⟩
        refine lc_all (K := K) (xs := [z1, z2, z3]) (sl := [4]) (fun i v _ => v = .bl (decide ((if i = 0 then sd b c d else if i = 1 then sd b c e else sd b c f) ≤ 0))) (fun _ _ _ _ _ h => h) (fun _ _ _ _ _ _ _ _ h => h) (SqL.of hlc) (by show 3 ≤ 1000; decide) ?_ ?_ nD1
        · intro i x H4 hx g34 Q'' k''
          have pp := (th2.2.1.ex (g23.trans g34)).pt
          have pq := (th2.2.2.ex (g23.trans g34)).pt
          have th4 := th3.ex g34
          rcases two3 hx with ⟨rfl, rfl⟩ | ⟨rfl, rfl⟩ | ⟨rfl, rfl⟩
          · refine ⟨rfl, _, rfl, _, rfl, _, rfl, n, w2, w3, _, b.1, b.2, c.1, c.2, d.1, d.2, rfl, pp, pq, th4.1.pt, n1, sb.1, sb.2, sc.1, sc.2, sd'.1, sd'.2, fun H5 g45 => ?_⟩
            exact ⟨_, _, rfl, rfl, k'' _ _ g45 rfl⟩
          · refine ⟨rfl, _, rfl, _, rfl, _, rfl, n, w2, w3, _, b.1, b.2, c.1, c.2, e.1, e.2, rfl, pp, pq, th4.2.1.pt, n1, sb.1, sb.2, sc.1, sc.2, se.1, se.2, fun H5 g45 => ?_⟩
            exact ⟨_, _, rfl, rfl, k'' _ _ g45 rfl⟩
          · refine ⟨rfl, _, rfl, _, rfl, _, rfl, n, w2, w3, _, b.1, b.2, c.1, c.2, f.1, f.2, rfl, pp, pq, th4.2.2.pt, n1, sb.1, sb.2, sc.1, sc.2, sf.1, sf.2, fun H5 g45 => ?_⟩
            exact ⟨_, _, rfl, rfl, k'' _ _ g45 rfl⟩
        · intro H4 vs g34 hv hlen hR
          obtain ⟨x1, x2, x3, rfl⟩ := len3' hlen
          have r1 := hR 0 x1 rfl
          have r2 := hR 1 x2 rfl
          have r3 := hR 2 x3 rfl
          subst r1 r2 r3
          refine ⟨D1, [decide (sd b c d ≤ 0), decide (sd b c e ≤ 0), decide (sd b c f ≤ 0)], rfl, SqL.of hv, ?_⟩
          have ec : ([decide (sd b c d ≤ 0), decide (sd b c e ≤ 0), decide (sd b c f ≤ 0)].all id) = cutE b c d e f := by simp [cutE]
          rw [ec]
          exact k' _ _ (g23.trans g34) rfl
      · refine ⟨t3, _, rfl, SqT.of (g12 _ _ g3), rfl, _, _, rfl, _, _, rfl, rfl, rfl, ?_⟩
        refine ⟨_, rfl, u', dxu, _, rfl, hu1, tipF_no _ (by decide +kernel), _, d, e, f, rfl, hu2, fun lc z1 z2 z3 H3 nlc g23 hlc th3 => ?_⟩
        refine ⟨lc, rfl, ⟨_, SqL.of hlc⟩, fun D1 nD1 => ?_⟩
        refine lc_all (K := K) (xs := [z1, z2, z3]) (sl := [4]) (fun i v _ => v = .bl (decide ((if i = 0 then sd c a d else if i = 1 then sd c a e else sd c a f) ≤ 0))) (fun _ _ _ _ _ h => h) (fun _ _ _ _ _ _ _ _ h => h) (SqL.of hlc) (by show 3 ≤ 1000; decide) ?_ ?_ nD1
        · intro i x H4 hx g34 Q'' k''
          have pp := (th2.2.2.ex (g23.trans g34)).pt
          have pq := (th2.1.ex (g23.trans g34)).pt
          have th4 := th3.ex g34
          rcases two3 hx with ⟨rfl, rfl⟩ | ⟨rfl, rfl⟩ | ⟨rfl, rfl⟩
          · refine ⟨rfl, _, rfl, _, rfl, _, rfl, n, w3, w1, _, c.1, c.2, a.1, a.2, d.1, d.2, rfl, pp, pq, th4.1.pt, n1, sc.1, sc.2, sa.1, sa.2, sd'.1, sd'.2, fun H5 g45 => ?_⟩
            exact ⟨_, _, rfl, rfl, k'' _ _ g45 rfl⟩
          · refine ⟨rfl, _, rfl, _, rfl, _, rfl, n, w3, w1, _, c.1, c.2, a.1, a.2, e.1, e.2, rfl, pp, pq, th4.2.1.pt, n1, sc.1, sc.2, sa.1, sa.2, se.1, se.2, fun H5 g45 => ?_⟩
            exact ⟨_, _, rfl, rfl, k'' _ _ g45 rfl⟩
          · refine ⟨rfl, _, rfl, _, rfl, _, rfl, n, w3, w1, _, c.1, c.2, a.1, a.2, f.1, f.2, rfl, pp, pq, th4.2.2.pt, n1, sc.1, sc.2, sa.1, sa.2, sf.1, sf.2, fun H5 g45 => ?_⟩
            exact ⟨_, _, rfl, rfl, k'' _ _ g45 rfl⟩
        · intro H4 vs g34 hv hlen hR
          obtain ⟨x1, x2, x3, rfl⟩ := len3' hlen
          have r1 := hR 0 x1 rfl
          have r2 := hR 1 x2 rfl
          have r3 := hR 2 x3 rfl
          subst r1 r2 r3
          refine ⟨D1, [decide (sd c a d ≤ 0), decide (sd c a e ≤ 0), decide (sd c a f ≤ 0)], rfl, SqL.of hv, ?_⟩
          have ec : ([decide (sd c a d ≤ 0), decide (sd c a e ≤ 0), decide (sd c a f ≤ 0)].all id) = cutE c a d e f := by simp [cutE]
          rw [ec]
          exact k' _ _ (g23.trans g34) rfl
    · intro H2 vs g12 hv hlen hR
      obtain ⟨x1, x2, x3, rfl⟩ := len3' hlen
      have r1 := hR 0 x1 rfl
      have r2 := hR 1 x2 rfl
      have r3 := hR 2 x3 rfl
      subst r1 r2 r3
      refine ⟨D0, [cutE a b d e f, cutE b c d e f, cutE c a d e f], rfl, SqL.of hv, ?_⟩
      have ec : ([cutE a b d e f, cutE b c d e f, cutE c a d e f].any id) = cutT a b c d e f := by simp [cutT]
      rw [ec]
      exact k _ (g01.trans g12)
end
end Fo
set_option Elab.async false
set_option linter.all false
set_option maxRecDepth 100000
set_option maxHeartbeats 2000000
namespace Fo
open PySem L2
def pieF (l : Addr) : List (Str × V) := putF "pieces" (.ref l) []
theorem pieF_p (l : Addr) : (pieF l).lookup ("pieces" : Str) = some (.ref l) := by
  unfold pieF
  rw [lookup_putF, if_pos rfl]
theorem pieF_no (l : Addr) {m : Str} (h : ¬ m = "pieces") : (pieF l).lookup m = none := by
  unfold pieF
  rw [lookup_putF, if_neg h]
  rfl
/-- these triangles -/
def EachT (C CT : Addr) (H : Hp) (xs : List V) (ts : List T9) : Prop := xs.length = ts.length ∧ ∀ (i : Nat) (v : V), xs[i]? = some v → ∃ t : T9, ts[i]? = some t ∧ IsT C CT v t.1 t.2.1 t.2.2 H
theorem EachT.ex {C CT : Addr} {H H' : Hp} {xs : List V} {ts : List T9} (e : Same H H') (h : EachT C CT H xs ts) : EachT C CT H' xs ts := ⟨h.1, fun i v hv => by
  obtain ⟨t, h1, h2⟩ := h.2 i v hv
  exact ⟨t, h1, h2.ex e⟩⟩
def SmT (t : T9) : Prop := Sm2 6 t.1 ∧ Sm2 6 t.2.1 ∧ Sm2 6 t.2.2
def spMInit (C CT CM : Addr) : Sp := fun vs H Q _ => ∃ (p dx l : Addr) (xs : List V) (ts : List T9), vs = [.ref p, .ref l] ∧ H p = some (.ins CM dx []) ∧ H l = some (.lst xs) ∧ EachT C CT H xs ts ∧ ts.length ≤ 60 ∧ (∀ t ∈ ts, SmT t) ∧ ts.Pairwise Ap ∧
  ∀ l' H', But p H H' → H' p = some (.ins CM dx (pieF l')) → H' l' = some (.lst xs) → Q .non H'
/-- a Mesh of these -/
def IsM (C CT CM : Addr) (v : V) (ts : List T9) (H : Hp) : Prop := ∃ (m dx l : Addr) (xs : List V), v = .ref m ∧ H m = some (.ins CM dx (pieF l)) ∧ H l = some (.lst xs) ∧ EachT C CT H xs ts
theorem IsM.ex {C CT CM : Addr} {v : V} {ts : List T9} {H H' : Hp} (e : Same H H') (h : IsM C CT CM v ts H) : IsM C CT CM v ts H' := by
  obtain ⟨m, dx, l, xs, rfl, h1, h2, h3⟩ := h
  exact ⟨m, dx, l, xs, rfl, e _ _ h1, e _ _ h2, h3.ex e⟩
def spMTris (C CT CM : Addr) : Sp := fun vs H Q _ => ∃ (v : V) (ts : List T9), vs = [v] ∧ IsM C CT CM v ts H ∧ ∀ l xs H', H l = none → Same H H' → H' l = some (.lst xs) → EachT C CT H' xs ts → Q (.ref l) H'
structure MDefs (K : PySem.W.Frag) (mg : Str → Option Value) (CM fCu fAp fMI fMT : Addr) (fdCu fdAp fdMI fdMT : FuncData) : Prop where
  cl : Cls K CM
  nP : NoAttr K CM "pieces"
  mgM : mg "Mesh" = some (.ref CM)
  mM : ∃ t, mg "MOST_TRIANGLES" = some (.int 60 t)
  zR : mg "range" = none
  zA : mg "any" = none
  zE : mg "enumerate" = none
  zL : mg "list" = none
  FCu : Fun K "is_cut_off" "is_cut_off" sCut fCu fdCu
  bCu : Binds K fdCu ["triangle", "other"] []
  mCu : mg "is_cut_off" = some (.ref fCu)
  FAp : Fun K "apart" "apart" sApart fAp fdAp
  bAp : Binds K fdAp ["one", "other"] []
  mAp : mg "apart" = some (.ref fAp)
  MM : Mk K CM fMI
  FMI : Fun K "__init__" "Mesh.__init__" sMInit fMI fdMI
  bMI : Binds K fdMI ["self", "triangles"] []
  FMT : Fun K "triangles" "Mesh.triangles" sMTris fMT fdMT
  bMT : Binds K fdMT ["self"] []
  mMT : Meth K CM "triangles" fMT
section
variable {P : Program} {w : World} {K : PySem.W.Frag} {mg : Str → Option Value} {base : Heap}
variable {C fW fI fP fA fO CT fS fTI fCo fEd fAr fEq fAd pAr CM fCu fAp fMI fMT : Addr} {fdW fdI fdP fdA fdO fdS fdTI fdCo fdEd fdAr fdEq fdAd fdCu fdAp fdMI fdMT : FuncData}
theorem scApart : FnScope ["one", "other"] ["one", "other"] (defScope sApart) := ⟨rfl, rfl, rfl, by decide +kernel, rfl, by decide +kernel, by decide +kernel⟩
theorem ok_apart (M : MDefs K mg CM fCu fAp fMI fMT fdCu fdAp fdMI fdMT) (d' : TDefs K mg C CT fS fTI fCo fEd fAr fEq fAd pAr fdS fdTI fdCo fdEd fdAr fdEq fdAd) (D : Defs K mg C fW fI fP fA fO fdW fdI fdP fdA fdO) :
    FnOk P w K mg base CX0 9 fAp fdAp ["one", "other"] (spCut C CT apartT) := by
  have GC : FnOk P w K mg base CX0 8 fCu fdCu ["triangle", "other"] (spCut C CT cutT) := ok_cut M.FCu d' D M.zA
  refine M.FAp.ok scApart (fun vs H Q E h => ?_) (fun cdv A outer s H vs Q E hr h => ?_)
  · obtain ⟨n, t, u, a, b, c, d, e, f, rfl, _⟩ := h
    rfl
  · obtain ⟨n, t, u, a, b, c, d, e, f, rfl, ht, hu, n1, sa, sb, sc, sd', se, sf, k⟩ := h
    refine ⟨_, pss_one (ps_ret (pe_or (pe_call GC hr rfl M.mCu M.FCu.kp M.bCu .nil pass0 (pa_cons (pv 0) (pa_cons (pv 1) pa_nil))) (pe_one (pe_call GC hr rfl M.mCu M.FCu.kp M.bCu .nil pass0 (pa_cons (pv 1) (pa_cons (pv 0) pa_nil)))))), ?_⟩
    refine ⟨_, rfl, _, rfl, n, t, u, a, b, c, d, e, f, rfl, ht, hu, n1, sa, sb, sc, sd', se, sf, fun H1 g1 => ⟨_, rfl, ?_⟩⟩
    have ek : apartT a b c d e f = (cutT a b c d e f || cutT d e f a b c) := rfl
    cases hc : cutT a b c d e f with
    | true =>
      refine iteT ?_
      have := k _ g1
      rw [ek, hc] at this
      exact this
    | false =>
      refine iteF ?_
      refine ⟨_, rfl, _, rfl, n, u, t, d, e, f, a, b, c, rfl, hu.ex g1, ht.ex g1, n1, sd', se, sf, sa, sb, sc, fun H2 g2 => ?_⟩
      have := k _ (g1.trans g2)
      rw [ek, hc] at this
      exact this
abbrev miN : List Str := ["self", "triangles", "number", "thing", "triangle", "other"]
theorem scMInit : FnScope miN ["self", "triangles"] (defScope sMInit) := ⟨rfl, rfl, rfl, by decide +kernel, rfl, by decide +kernel, by decide +kernel⟩
theorem ok_mInit (M : MDefs K mg CM fCu fAp fMI fMT fdCu fdAp fdMI fdMT) (d' : TDefs K mg C CT fS fTI fCo fEd fAr fEq fAd pAr fdS fdTI fdCo fdEd fdAr fdEq fdAd) (D : Defs K mg C fW fI fP fA fO fdW fdI fdP fdA fdO) :
    FnOk P w K mg base CX0 10 fMI fdMI ["self", "triangles"] (spMInit C CT CM) := by
  have GA : FnOk P w K mg base CX0 9 fAp fdAp ["one", "other"] (spCut C CT apartT) := ok_apart M d' D
  have T := D.T
  have TT := d'.TT
  obtain ⟨tM, mM⟩ := M.mM
  refine M.FMI.ok scMInit (fun vs H Q E h => ?_) (fun cdv A outer s H vs Q E hr hq => ?_)
  · obtain ⟨p, dx, l, xs, ts, rfl, _⟩ := h
    rfl
  · obtain ⟨p, dx, l, xs, ts, rfl, hp, hl, hE, lt, sm, pw, k⟩ := hq
    refine ⟨_, pss_cons (ps_if (PW.pt (pw_or (pt_not (pt_val (pe_callB call_isi (by rfl) T.isi (by decide +kernel) (pa_cons (pv 1) (pa_cons (pe_bltn (v := .ty "list") (by rfl) M.zL (by decide +kernel) rfl) pa_nil)))))
        (pw_or1 (pt_cmpR op_gt (pe_callB call_len_seq (by rfl) T.len PySem.boot_len (pa_cons (pv 1) pa_nil)) (pe_glob (v := .int 60) rfl mM ⟨_, rfl⟩) (nomark _))))) (pss_one ps_never) pss_nil)
      (pss_cons (ps_for PassesOwn.never rfl (pi_enum (by rfl) M.zE (pa_cons (pv 1) pa_nil)) (pg_tup rfl (pgs_cons (pg_name (i := 2) scMInit.nd rfl (Or.inl rfl)) (pgs_cons (pg_name (i := 3) scMInit.nd rfl (Or.inl rfl)) pgs_nil)))
        (pss_one (ps_if (pt_not (pt_val (pe_callB call_isi (by rfl) T.isi (by decide +kernel) (pa_cons (pv 3) (pa_cons (pe_glob (v := .ref CT) rfl TT.mgT rfl) pa_nil))))) (pss_one ps_never) pss_nil)))
      (pss_cons (ps_for PassesOwn.never rfl (pi_enum (by rfl) M.zE (pa_cons (pv 1) pa_nil)) (pg_tup rfl (pgs_cons (pg_name (i := 2) scMInit.nd rfl (Or.inl rfl)) (pgs_cons (pg_name (i := 4) scMInit.nd rfl (Or.inl rfl)) pgs_nil)))
        (pss_one (ps_for PassesOwn.never rfl (pi_range1 rfl M.zR (pa_cons (pv 2) pa_nil)) (pg_name (i := 5) scMInit.nd rfl (Or.inl rfl))
          (pss_one (ps_if (pt_not (pt_val (pe_call GA hr rfl M.mAp M.FAp.kp M.bAp .nil pass0 (pa_cons (pv 4) (pa_cons (pe_ix (r := rIxL K) ix_list (pv 1) (pv 5) (fun _ _ => rfl)) pa_nil))))) (pss_one ps_never) pss_nil)))))
      (pss_one (ps_fld (pv 0) (pe_callTy call_list_of (by rfl) M.zL (by decide +kernel) (pa_cons (pv 1) pa_nil)) rfl)))), ?_⟩
    have lx : xs.length ≤ 60 := by rw [hE.1]; exact lt
    refine ⟨_, rfl, _, _, _, _, true, rfl, .ty _, .base (.lst hl), kit_ty (by decide +kernel), true, rfl, ?_⟩
    refine iteF ?_
    refine ⟨_, rfl, l, _, rfl, .inl (SqL.of hl), _, _, rfl, rfl, _, rfl, ?_⟩
    rw [decide_eq_false (show ¬ (60 : Int) < (xs.length : Int) by omega)]
    refine iteF ?_
    refine ⟨_, rfl, l, xs, rfl, SqL.of hl, ?_⟩
    refine for_enumL (K := K) (a := l) (xs := xs) (fun j σ' H' => ∃ v2 v3 v4 v5 : Option V, σ' = [some (.ref p), some (.ref l), v2, v3, v4, v5] ∧ Same H H') ⟨_, _, _, _, rfl, Same.refl _⟩ (fun j σ' H' h => by
      obtain ⟨_, _, _, _, _, e⟩ := h
      exact SqL.of (e _ _ hl)) ?_ ?_
    · rintro j x t σ H2 hx ⟨v2, v3, v4, v5, rfl, e2⟩ nt
      obtain ⟨t9, hq, hw⟩ := hE.2 j x hx
      have g := same_new (o := .tup [.int (j : Nat), x]) nt
      have e3 := e2.trans g
      obtain ⟨t1, dx1, l1, x1, x2, x3, rfl, p1, _⟩ := id (hw.ex e3)
      refine ⟨t, _, rfl, SqT.of upd_same, rfl, _, _, rfl, _, _, rfl, rfl, ?_⟩
      refine ⟨_, rfl, _, _, _, _, true, rfl, .own CT, ty_tri TT D.T p1, TT.kTT, true, rfl, ?_⟩
      refine iteF ?_
      exact ⟨_, _, _, _, rfl, e3⟩
    · rintro σ H2 ⟨v2, v3, v4, v5, rfl, e2⟩
      have hl2 := e2 _ _ hl
      refine ⟨_, rfl, l, xs, rfl, SqL.of hl2, ?_⟩
      refine for_enumL (K := K) (a := l) (xs := xs) (fun j σ' H' => ∃ v2 v3 v4 v5 : Option V, σ' = [some (.ref p), some (.ref l), v2, v3, v4, v5] ∧ Same H H') ⟨_, _, _, _, rfl, e2⟩ (fun j σ' H' h => by
        obtain ⟨_, _, _, _, _, e⟩ := h
        exact SqL.of (e _ _ hl)) ?_ ?_
      · rintro j x t σ H3 hx ⟨v2, v3, v4, v5, rfl, e3⟩ nt
        obtain ⟨t9, hq, hw⟩ := hE.2 j x hx
        have hj : j < xs.length := (List.getElem?_eq_some_iff.mp hx).1
        have g := same_new (o := .tup [.int (j : Nat), x]) nt
        have e4 := e3.trans g
        refine ⟨t, _, rfl, SqT.of upd_same, rfl, _, _, rfl, _, _, rfl, rfl, ?_⟩
        refine ⟨_, rfl, _, rfl, by omega, by omega, ?_⟩
        refine for_range (lo := 0) (n := j) (fun i σ' H' => ∃ v3 v5 : Option V, σ' = [some (.ref p), some (.ref l), some (.int (j : Nat)), v3, some x, v5] ∧ Same H H') ⟨_, _, rfl, e4⟩ ?_ ?_
        · rintro i σ H4 hi ⟨v3, v5, rfl, e5⟩
          have hi' : i < xs.length := by omega
          obtain ⟨y, hy⟩ : ∃ y, xs[i]? = some y := ⟨_, List.getElem?_eq_getElem hi'⟩
          obtain ⟨u9, hq2, hw2⟩ := hE.2 i y hy
          refine ⟨_, rfl, _, rfl, _, rfl, l, _, _, _, rfl, rfl, SqL.of (e5 _ _ hl), (show atI xs (0 + (i : Int)) = some y by rw [Int.zero_add]; exact atI_nat hy), ?_⟩
          have ap : Ap t9 u9 := (List.pairwise_iff_getElem.mp pw i j (by rw [← hE.1]; exact hi') (by rw [← hE.1]; exact hj) hi |> fun z => by
            have z1 := (List.getElem?_eq_some_iff.mp hq).2
            have z2 := (List.getElem?_eq_some_iff.mp hq2).2
            rw [z1, z2] at z
            exact z.symm)
          have m1 := sm _ (List.mem_of_getElem? hq)
          have m2 := sm _ (List.mem_of_getElem? hq2)
          refine ⟨6, x, y, t9.1, t9.2.1, t9.2.2, u9.1, u9.2.1, u9.2.2, rfl, hw.ex e5, hw2.ex e5, by decide, m1.1, m1.2.1, m1.2.2, m2.1, m2.2.1, m2.2.2, fun H5 g5 => ⟨_, rfl, ?_⟩⟩
          rw [show apartT t9.1 t9.2.1 t9.2.2 u9.1 u9.2.1 u9.2.2 = true from ap]
          refine iteF ?_
          exact ⟨_, _, rfl, e5.trans g5⟩
        · rintro σ H4 ⟨v3, v5, rfl, e5⟩
          exact ⟨_, _, _, _, rfl, e5⟩
      · rintro σ H3 ⟨v2, v3, v4, v5, rfl, e3⟩
        refine ⟨_, rfl, l, _, rfl, .inl (SqL.of (e3 _ _ hl)), fun l' nl' => ?_⟩
        have g := same_new (o := .lst xs) nl'
        have hp3 := (e3.trans g) _ _ hp
        refine ⟨_, rfl, p, CM, dx, [], rfl, hp3, M.cl, M.nP, (by show 0 < 1000; decide), ?_⟩
        have pl' : l' ≠ p := (ne_of_none (e3 _ _ hp) nl').symm
        exact k l' _ ((But.of (e3.trans g)).trans But.upd) upd_same (by rw [upd_ne pl']; exact upd_same)
theorem scMTris : FnScope ["self"] ["self"] (defScope sMTris) := ⟨rfl, rfl, rfl, by decide +kernel, rfl, by decide +kernel, by decide +kernel⟩
theorem ok_mTris (M : MDefs K mg CM fCu fAp fMI fMT fdCu fdAp fdMI fdMT) : FnOk P w K mg base CX0 1 fMT fdMT ["self"] (spMTris C CT CM) := by
  refine M.FMT.ok scMTris (fun vs H Q E h => ?_) (fun cdv A outer s H vs Q E hr hq => ?_)
  · obtain ⟨v, ts, rfl, _⟩ := h
    rfl
  · obtain ⟨v, ts, rfl, ⟨m, dx, l, xs, rfl, h1, h2, h3⟩, k⟩ := hq
    refine ⟨_, pss_one (ps_ret (pe_callTy call_list_of (by rfl) M.zL (by decide +kernel) (pa_cons (pe_fld (pv 0) rfl) pa_nil))), ?_⟩
    refine ⟨_, rfl, m, CM, dx, _, _, rfl, h1, M.cl, M.nP, pieF_p _, l, _, rfl, .inl (SqL.of h2), fun l' nl' => ?_⟩
    exact k l' xs _ nl' (same_new nl') upd_same (h3.ex (same_new nl'))
end
end Fo
set_option Elab.async false
set_option linter.all false
set_option maxRecDepth 100000
set_option maxHeartbeats 2000000
namespace Fo
open PySem L2
/-! ### the law's mesh, as it is drawn -/
theorem PoolAt.ne {p l : Addr} {H : Hp} (h : PoolAt p H) (hl : H l = none) : l ≠ p := by
  obtain ⟨i, j, hp, _⟩ := h
  exact (ne_of_none hp hl).symm
theorem TL.butP {H H' : Hp} {pl : Addr} {xs : List V} {ps : List (Int × Int)} (hp : PoolAt pl H) (e : But pl H H') (h : TL H xs ps) : TL H' xs ps := by
  induction h with
  | nil => exact .nil
  | cons h _ ih => exact .cons (e _ _ (tup_ne hp h) h) ih
/-- a row of pairs, apart from the pool and from the list l -/
def RowAt (pl l : Addr) (H : Hp) (v : V) (ps : List I2) : Prop := ∃ (rl : Addr) (vs : List V), v = .ref rl ∧ rl ≠ pl ∧ rl ≠ l ∧ H rl = some (.lst vs) ∧ TL H vs ps
theorem RowAt.ex {pl l : Addr} {H H' : Hp} {v : V} {ps : List I2} (e : Same H H') (h : RowAt pl l H v ps) : RowAt pl l H' v ps := by
  obtain ⟨rl, vs, rfl, n1, n2, h1, h2⟩ := h
  exact ⟨rl, vs, rfl, n1, n2, e _ _ h1, h2.ex e⟩
theorem RowAt.butP {pl l : Addr} {H H' : Hp} {v : V} {ps : List I2} (hp : PoolAt pl H) (e : But pl H H') (h : RowAt pl l H v ps) : RowAt pl l H' v ps := by
  obtain ⟨rl, vs, rfl, n1, n2, h1, h2⟩ := h
  exact ⟨rl, vs, rfl, n1, n2, e _ _ n1 h1, h2.butP hp e⟩
theorem RowAt.but {pl l : Addr} {H H' : Hp} {v : V} {ps : List I2} {ys : List V} (hl : H l = some (.lst ys)) (e : But l H H') (h : RowAt pl l H v ps) : RowAt pl l H' v ps := by
  obtain ⟨rl, vs, rfl, n1, n2, h1, h2⟩ := h
  exact ⟨rl, vs, rfl, n1, n2, e _ _ n2 h1, h2.but hl e⟩
/-- rows of pairs that are near (8 k, 8 r) -/
def GridAt (pl l : Addr) (g : List (List I2)) (w : Nat) (H : Hp) : Prop := ∃ rows : List V, H l = some (.lst rows) ∧ l ≠ pl ∧ rows.length = g.length ∧ ∀ (r : Nat) (v : V), rows[r]? = some v → ∃ ps : List I2, g[r]? = some ps ∧ RowAt pl l H v ps ∧ ps.length = w + 1 ∧ ∀ (k : Nat) (p : I2), ps[k]? = some p → Nr p r k
theorem GridAt.ex {pl l : Addr} {g : List (List I2)} {w : Nat} {H H' : Hp} (e : Same H H') (h : GridAt pl l g w H) : GridAt pl l g w H' := by
  obtain ⟨rows, h1, h2, h3, h4⟩ := h
  refine ⟨rows, e _ _ h1, h2, h3, fun r v hv => ?_⟩
  obtain ⟨ps, g1, g2, g3⟩ := h4 r v hv
  exact ⟨ps, g1, g2.ex e, g3⟩
theorem GridAt.butP {pl l : Addr} {g : List (List I2)} {w : Nat} {H H' : Hp} (hp : PoolAt pl H) (e : But pl H H') (h : GridAt pl l g w H) : GridAt pl l g w H' := by
  obtain ⟨rows, h1, h2, h3, h4⟩ := h
  refine ⟨rows, e _ _ h2 h1, h2, h3, fun r v hv => ?_⟩
  obtain ⟨ps, g1, g2, g3⟩ := h4 r v hv
  exact ⟨ps, g1, g2.butP hp e, g3⟩
def spCP : Sp := fun vs H Q _ => ∃ (pl : Addr) (w h : Nat), vs = [.ref pl, .int (w : Int), .int (h : Int)] ∧ PoolAt pl H ∧ w ≤ 2 ∧ h ≤ 2 ∧ ∀ l g H', But pl H H' → PoolAt pl H' → GridAt pl l g w H' → g.length = h + 1 → Q (.ref l) H'
theorem get_snoc {α : Type} {xs : List α} {y v : α} {i : Nat} (h : (xs ++ [y])[i]? = some v) : xs[i]? = some v ∨ (i = xs.length ∧ v = y) := by
  by_cases hi : i < xs.length
  · rw [List.getElem?_append_left hi] at h
    exact .inl h
  · have hl := (List.getElem?_eq_some_iff.mp h).1
    rw [List.length_append] at hl
    have e : i = xs.length := by
      simp at hl
      omega
    subst e
    rw [List.getElem?_append_right (Nat.le_refl _)] at h
    simp at h
    exact .inr ⟨rfl, h.symm⟩
section
variable {P : Program} {w : World} {K : PySem.W.Frag} {mg : Str → Option Value} {base : Heap}
abbrev cpN : List Str := ["pool", "wide", "high", "found", "row", "k"]
theorem scCP : FnScope cpN ["pool", "wide", "high"] (defScope sCP) := ⟨rfl, rfl, rfl, by decide +kernel, rfl, by decide +kernel, by decide +kernel⟩
theorem ok_cp {f fD : Addr} {fd fdD : FuncData} (F : Fun K "_law_corner_points" "_law_corner_points" sCP f fd) (T : TxtL mg) (FD : Fun K "_law_draw" "_law_draw" sDraw fD fdD) (bD : Binds K fdD ["pool", "many"] []) (mD : mg "_law_draw" = some (.ref fD)) : FnOk P w K mg base CX0 2 f fd ["pool", "wide", "high"] spCP := by
  have GD : FnOk P w K mg base CX0 1 fD fdD ["pool", "many"] spDraw := ok_draw FD T
  refine F.ok scCP (fun vs H Q E h => ?_) (fun cdv A outer s H vs Q E hr h => ?_)
  · obtain ⟨pl, w, h, rfl, _⟩ := h
    rfl
  · obtain ⟨pl, w, h, rfl, hp, w2, h2, k⟩ := h
    refine ⟨_, pss_cons (ps_set (i := 3) scCP.nd rfl (Or.inl rfl) (pe_lst pa_nil))
      (pss_cons (ps_for PassesOwn.never rfl (pi_range1 rfl T.range (pa_cons (pe_op op_add (pv 2) pe_int) pa_nil)) (pg_name (i := 4) scCP.nd rfl (Or.inr rfl))
        (pss_one (ps_expr (pe_bm PySem.F.plainAttrs_list PySem.F.slot_list_append PySem.F.type_list_append mt_append (pv 3) (pa_cons
          (pe_lc (own := [("k", 5)]) (g := gName 5) (tt := tYes) rfl scCP.nd (pi_range1 rfl T.range (pa_cons (pe_op op_add (pv 1) pe_int) pa_nil)) (blkOk_by (own := [("k", 5)]) (N := cpN) (sc := defScope sCP) (by decide +kernel)) (fun _ _ _ _ _ => pg_name (i := 5) scCP.nd rfl (Or.inl rfl)) (fun _ _ _ _ _ => pts_nil)
            (fun _ _ _ _ _ => pe_tup (pa_cons (pe_op op_sub (pe_op op_add (pe_op op_mul pe_int (pv 5)) (pe_call GD hr rfl mD FD.kp bD .nil pass0 (pa_cons (pv 0) (pa_cons pe_int pa_nil)))) pe_int)
              (pa_cons (pe_op op_sub (pe_op op_add (pe_op op_mul pe_int (pv 4)) (pe_call GD hr rfl mD FD.kp bD .nil pass0 (pa_cons (pv 0) (pa_cons pe_int pa_nil)))) pe_int) pa_nil)))) pa_nil)))))
      (pss_one (ps_ret (pv 3)))), ?_⟩
    refine ⟨(by show 0 ≤ sizeLine; decide), fun fo nfo => ?_⟩
    have g1 := same_new (o := .lst []) nfo
    have fp : fo ≠ pl := hp.ne nfo
    refine ⟨_, rfl, _, _, rfl, rfl, _, rfl, by omega, by omega, ?_⟩
    refine for_range (lo := 0) (n := ((h : Int) + 1).toNat) (fun i σ' H' => ∃ (v4 v5 : Option V) (g : List (List I2)), σ' = [some (.ref pl), some (.int (w : Int)), some (.int (h : Int)), some (.ref fo), v4, v5] ∧ But pl H H' ∧ PoolAt pl H' ∧ GridAt pl fo g w H' ∧ g.length = i)
      ⟨_, _, [], rfl, But.of g1, hp.ex g1, ⟨[], upd_same, fp, rfl, fun r v hv => by simp at hv⟩, rfl⟩ ?_ ?_
    case refine_2 =>
      rintro σ H' ⟨v4, v5, g, rfl, b1, p1, hg, gl⟩
      exact ⟨_, rfl, k fo g H' b1 p1 hg (by omega)⟩
    rintro i σ H1 hi ⟨v4, v5, g, rfl, b1, p1, hg, gl⟩
    obtain ⟨rows, hfo, _, rl, hrow⟩ := id hg
    refine ⟨_, rfl, .inl ⟨rfl, _, SqL.of hfo⟩, _, rfl, _, _, rfl, rfl, _, rfl, by omega, by omega, fun D0 nD => ?_⟩
    have pD : D0 ≠ pl := p1.ne nD
    have fD0 : D0 ≠ fo := (ne_of_none hfo nD).symm
    refine lc_range (lo := 0) (n := ((w : Int) + 1).toNat) (fun j H' => But pl H1 H' ∧ PoolAt pl H' ∧ ∃ (vs : List V) (ps : List I2), H' D0 = some (.lst vs) ∧ vs.length = j ∧ TL H' vs ps ∧ ∀ (k : Nat) (p : I2), ps[k]? = some p → Nr p i k)
      ⟨But.of (same_new nD), p1.ex (same_new nD), [], [], upd_same, rfl, .nil, fun k p h => by simp at h⟩ ?_ ?_
    · rintro j H2 hj ⟨b2, p2, vs, ps, hD, hvl, hT, hN⟩
      refine ⟨rfl, ?_⟩
      unfold tYes
      dsimp only
      rw [if_pos rfl]
      refine ⟨_, rfl, _, _, rfl, rfl, .inl ⟨by decide, by decide⟩, _, rfl, pl, 3, rfl, p2, by decide, by decide, fun r1 H3 r10 r11 b3 p3 => ?_⟩
      refine ⟨_, _, rfl, rfl, _, _, rfl, rfl, _, rfl, _, _, rfl, rfl, .inl ⟨by decide, by decide⟩, _, rfl, pl, 3, rfl, p3, by decide, by decide, fun r2 H4 r20 r21 b4 p4 => ?_⟩
      refine ⟨_, _, rfl, rfl, _, _, rfl, rfl, (by show 2 ≤ sizeLine; decide), fun tq ntq => ?_⟩
      have g5 := same_new (o := .tup [V.int (8 * (0 + (j : Int)) + r1 - 1), V.int (8 * (0 + (i : Int)) + r2 - 1)]) ntq
      have b5 := (b3.trans b4).trans (But.of g5)
      have hD5 := b5 _ _ pD hD
      have hT5 := ((hT.butP p2 b3).butP p3 b4).ex g5
      have hl := hT.length
      refine ⟨vs, hD5, Nat.lt_of_lt_of_le (by omega : vs.length < 100) (by decide), fun b' o nb hb' => ?_, ?_, vs ++ [.ref tq], ps ++ [(8 * (0 + (j : Int)) + r1 - 1, 8 * (0 + (i : Int)) + r2 - 1)], upd_same, by rw [List.length_append, hvl]; rfl, (hT5.append (.cons upd_same .nil)).but hD5 But.upd, fun k p hk => ?_⟩
      · rw [upd_ne (ne_of_none hb' nD)]
        exact b5 _ _ nb (b2 _ _ nb hb')
      · obtain ⟨i6, j6, h6, r6⟩ := p4.ex g5
        exact ⟨i6, j6, by rw [upd_ne pD.symm]; exact h6, r6⟩
      · rcases get_snoc hk with hk | ⟨rfl, rfl⟩
        · exact hN k p hk
        · exact ⟨by show 8 * (ps.length : Int) - 1 ≤ 8 * (0 + (j : Int)) + r1 - 1; omega, by show 8 * (0 + (j : Int)) + r1 - 1 ≤ 8 * (ps.length : Int) + 1; omega, by show 8 * (i : Int) - 1 ≤ 8 * (0 + (i : Int)) + r2 - 1; omega, by show 8 * (0 + (i : Int)) + r2 - 1 ≤ 8 * (i : Int) + 1; omega⟩
    · rintro H2 ⟨b2, p2, vs, ps, hD, hvl, hT, hN⟩
      have hfo2 := b2 _ _ fp hfo
      have hlp := hT.length
      refine ⟨fo, rows, .ref D0, rfl, rfl, hfo2, Nat.lt_of_lt_of_le (by omega : rows.length < 100) (by decide), ?_⟩
      have bF : But fo H2 (upd H2 fo (.lst (rows ++ [.ref D0]))) := But.upd
      refine ⟨_, _, g ++ [ps], rfl, fun b' o nb hb' => ?_, ?_, ⟨rows ++ [.ref D0], upd_same, fp, by rw [List.length_append, List.length_append, rl]; rfl, fun r v hv => ?_⟩, by rw [List.length_append, gl]; rfl⟩
      · rw [upd_ne (ne_of_none hb' nfo)]
        exact b2 _ _ nb (b1 _ _ nb hb')
      · obtain ⟨i6, j6, h6, r6⟩ := p2
        exact ⟨i6, j6, by rw [upd_ne fp.symm]; exact h6, r6⟩
      · rcases get_snoc hv with hv | ⟨rfl, rfl⟩
        · obtain ⟨qs, q1, q2, q3⟩ := hrow r v hv
          have hr' : r < g.length := (List.getElem?_eq_some_iff.mp q1).1
          exact ⟨qs, by rw [List.getElem?_append_left hr']; exact q1, (q2.butP p1 b2).but hfo2 bF, q3⟩
        · refine ⟨ps, by rw [List.getElem?_append_right (by omega), rl]; simp, ⟨D0, vs, rfl, pD, fD0, by rw [upd_ne fD0]; exact hD, hT.but hfo2 bF⟩, by omega, ?_⟩
          rw [rl, gl]
          exact hN
end
end Fo
set_option Elab.async false
set_option linter.all false
set_option maxRecDepth 100000
set_option maxHeartbeats 2000000
namespace Fo
open PySem L2
theorem T3.butP {H H' : Hp} {pl qa qb qc : Addr} {a b c : I2} (hp : PoolAt pl H) (e : But pl H H') (h : T3 H qa qb qc a b c) : T3 H' qa qb qc a b c := ⟨e _ _ (tup_ne hp h.a) h.a, e _ _ (tup_ne hp h.b) h.b, e _ _ (tup_ne hp h.c) h.c⟩
/-- three corners in a list -/
def IsTh (H : Hp) (v : V) (t : T9) : Prop := ∃ l q1 q2 q3 : Addr, v = .ref l ∧ H l = some (.lst [.ref q1, .ref q2, .ref q3]) ∧ T3 H q1 q2 q3 t.1 t.2.1 t.2.2
theorem IsTh.ex {H H' : Hp} {v : V} {t : T9} (e : Same H H') (h : IsTh H v t) : IsTh H' v t := by
  obtain ⟨l, q1, q2, q3, rfl, h1, h2⟩ := h
  exact ⟨l, q1, q2, q3, rfl, e _ _ h1, h2.ex e⟩
theorem IsTh.butP {pl : Addr} {H H' : Hp} {v : V} {t : T9} (hp : PoolAt pl H) (e : But pl H H') (h : IsTh H v t) : IsTh H' v t := by
  obtain ⟨l, q1, q2, q3, rfl, h1, h2⟩ := h
  obtain ⟨i, j, p1, _⟩ := id hp
  exact ⟨l, q1, q2, q3, rfl, e _ _ (ne_of h1 p1 (by intro z; cases z)) h1, h2.butP hp e⟩
def EachTh (H : Hp) (xs : List V) (ts : List T9) : Prop := xs.length = ts.length ∧ ∀ (i : Nat) (v : V), xs[i]? = some v → ∃ t : T9, ts[i]? = some t ∧ IsTh H v t
theorem EachTh.ex {H H' : Hp} {xs : List V} {ts : List T9} (e : Same H H') (h : EachTh H xs ts) : EachTh H' xs ts := ⟨h.1, fun i v hv => by
  obtain ⟨t, h1, h2⟩ := h.2 i v hv
  exact ⟨t, h1, h2.ex e⟩⟩
theorem EachTh.butP {pl : Addr} {H H' : Hp} {xs : List V} {ts : List T9} (hp : PoolAt pl H) (e : But pl H H') (h : EachTh H xs ts) : EachTh H' xs ts := ⟨h.1, fun i v hv => by
  obtain ⟨t, h1, h2⟩ := h.2 i v hv
  exact ⟨t, h1, h2.butP hp e⟩⟩
theorem EachTh.nil {H : Hp} : EachTh H [] [] := ⟨rfl, fun i v h => by simp at h⟩
theorem EachTh.snoc {H : Hp} {xs : List V} {ts : List T9} {v : V} {t : T9} (h : EachTh H xs ts) (hv : IsTh H v t) : EachTh H (xs ++ [v]) (ts ++ [t]) := by
  refine ⟨by rw [List.length_append, List.length_append, h.1]; rfl, fun i u hu => ?_⟩
  rcases get_snoc hu with hu | ⟨rfl, rfl⟩
  · obtain ⟨t', h1, h2⟩ := h.2 i u hu
    exact ⟨t', by rw [List.getElem?_append_left (List.getElem?_eq_some_iff.mp h1).1]; exact h1, h2⟩
  · exact ⟨t, by rw [h.1]; simp, hv⟩
theorem EachTh.append {H : Hp} {xs ys : List V} {ts us : List T9} (h : EachTh H xs ts) (h' : EachTh H ys us) : EachTh H (xs ++ ys) (ts ++ us) := by
  refine ⟨by rw [List.length_append, List.length_append, h.1, h'.1], fun i u hu => ?_⟩
  by_cases hi : i < xs.length
  · rw [List.getElem?_append_left hi] at hu
    obtain ⟨t', h1, h2⟩ := h.2 i u hu
    exact ⟨t', by rw [List.getElem?_append_left (List.getElem?_eq_some_iff.mp h1).1]; exact h1, h2⟩
  · rw [List.getElem?_append_right (by omega)] at hu
    obtain ⟨t', h1, h2⟩ := h'.2 _ u hu
    exact ⟨t', by rw [List.getElem?_append_right (by rw [← h.1]; omega), ← h.1]; exact h1, h2⟩
def spSplit : Sp := fun vs H Q _ => ∃ (pl : Addr) (v : V) (x y z : I2), vs = [.ref pl, v] ∧ PoolAt pl H ∧ IsTh H v (x, y, z) ∧ 0 < sd x y z ∧ Sm2 6 x ∧ Sm2 6 y ∧ Sm2 6 z ∧
  ∀ l xs ts H', But pl H H' → PoolAt pl H' → H' l = some (.lst xs) → EachTh H' xs ts → Parts [x, y, z] ts → 1 ≤ ts.length → ts.length ≤ 2 → Q (.ref l) H'
section
variable {P : Program} {w : World} {K : PySem.W.Frag} {mg : Str → Option Value} {base : Heap}
abbrev spN : List Str := ["pool", "three", "at", "a", "b", "c", "middle"]
theorem scSplit : FnScope spN ["pool", "three"] (defScope sSplit) := ⟨rfl, rfl, rfl, by decide +kernel, rfl, by decide +kernel, by decide +kernel⟩
theorem ok_split {f fD : Addr} {fd fdD : FuncData} (F : Fun K "_law_split" "_law_split" sSplit f fd) (T : TxtL mg) (FD : Fun K "_law_draw" "_law_draw" sDraw fD fdD) (bD : Binds K fdD ["pool", "many"] []) (mD : mg "_law_draw" = some (.ref fD)) : FnOk P w K mg base CX0 2 f fd ["pool", "three"] spSplit := by
  have GD : FnOk P w K mg base CX0 1 fD fdD ["pool", "many"] spDraw := ok_draw FD T
  refine F.ok scSplit (fun vs H Q E h => ?_) (fun cdv A outer s H vs Q E hr h => ?_)
  · obtain ⟨pl, v, x, y, z, rfl, _⟩ := h
    rfl
  · obtain ⟨pl, v, x, y, z, rfl, hp, hv, pos, sx, sy, sz, k⟩ := h
    refine ⟨_, pss_cons (ps_set (i := 2) scSplit.nd rfl (Or.inl rfl) (pe_call GD hr rfl mD FD.kp bD .nil pass0 (pa_cons (pv 0) (pa_cons pe_int pa_nil))))
      (pss_cons (ps_par3 (i := 3) (j := 4) (l := 5) (by rfl) scSplit.nd rfl rfl rfl (by decide) (by decide) (by decide) rfl rfl rfl (pa_cons (pe_ix ix_list (pv 1) (pv 2) (fun _ _ => rfl)) (pa_cons (pe_ix ix_list (pv 1) (pe_op op_mod (pe_op op_add (pv 2) pe_int) pe_int) (fun _ _ => rfl)) (pa_cons (pe_ix ix_list (pv 1) (pe_op op_mod (pe_op op_add (pv 2) pe_int) pe_int) (fun _ _ => rfl)) pa_nil))) (by rfl))
      (pss_cons (ps_if (PW.pt (pw_and (pt_cmpR op_eq (pe_op op_mod (pe_op op_add (pe_ix ix_tup (pv 3) pe_int (fun _ _ => rfl)) (pe_ix ix_tup (pv 4) pe_int (fun _ _ => rfl))) pe_int) pe_int (nomark _))
          (pw_and (pt_cmpR op_eq (pe_op op_mod (pe_op op_add (pe_ix ix_tup (pv 3) pe_int (fun _ _ => rfl)) (pe_ix ix_tup (pv 4) pe_int (fun _ _ => rfl))) pe_int) pe_int (nomark _))
            (pw_and1 (pt_cmpR op_eq (pe_call GD hr rfl mD FD.kp bD .nil pass0 (pa_cons (pv 0) (pa_cons pe_int pa_nil))) pe_int (nomark _))))))
        (pss_cons (ps_set (i := 6) scSplit.nd rfl (Or.inl rfl) (pe_tup (pa_cons (pe_op op_fdiv (pe_op op_add (pe_ix ix_tup (pv 3) pe_int (fun _ _ => rfl)) (pe_ix ix_tup (pv 4) pe_int (fun _ _ => rfl))) pe_int) (pa_cons (pe_op op_fdiv (pe_op op_add (pe_ix ix_tup (pv 3) pe_int (fun _ _ => rfl)) (pe_ix ix_tup (pv 4) pe_int (fun _ _ => rfl))) pe_int) pa_nil))))
          (pss_one (ps_ret (pe_lst (pa_cons (pe_lst (pa_cons (pv 3) (pa_cons (pv 6) (pa_cons (pv 5) pa_nil)))) (pa_cons (pe_lst (pa_cons (pv 6) (pa_cons (pv 4) (pa_cons (pv 5) pa_nil)))) pa_nil)))))) pss_nil)
      (pss_one (ps_ret (pe_lst (pa_cons (pv 1) pa_nil)))))), ?_⟩
    refine ⟨_, rfl, pl, 3, rfl, hp, by decide, by decide, fun r H1 r0 r1 b1 p1 => ?_⟩
    have hv1 := hv.butP hp b1
    obtain ⟨l, q1, q2, q3, rfl, hl, t3⟩ := id hv1
    dsimp only
    refine seq_gen (fun σ' H' => ∃ (v6 : Option V) (qa qb qc : Addr) (a b c : I2), σ' = [some (.ref pl), some (.ref l), some (.int r), some (.ref qa), some (.ref qb), some (.ref qc), v6] ∧ Same H1 H' ∧ T3 H' qa qb qc a b c ∧ 0 < sd a b c ∧ Sm2 6 a ∧ Sm2 6 b ∧ Sm2 6 c ∧ ∀ v ∈ [a, b, c], v ∈ [x, y, z]) (fun N hN => ?_) ?_
    · have rc : r = 0 ∨ r = 1 ∨ r = 2 := by omega
      rcases rc with rfl | rfl | rfl
      · refine ⟨_, rfl, _, rfl, l, _, _, _, rfl, rfl, SqL.of hl, atI_nat (j := 0) rfl, _, rfl, _, rfl, _, _, rfl, rfl, _, _, rfl, rfl, (by decide : (0 : Int) < 3), l, _, _, _, rfl, rfl, SqL.of hl, (show atI [V.ref q1, V.ref q2, V.ref q3] (1 : Int) = some (.ref q2) from atI_nat (j := 1) rfl), _, rfl, _, rfl, _, _, rfl, rfl, _, _, rfl, rfl, (by decide : (0 : Int) < 3), l, _, _, _, rfl, rfl, SqL.of hl, (show atI [V.ref q1, V.ref q2, V.ref q3] (2 : Int) = some (.ref q3) from atI_nat (j := 2) rfl), _, _, _, rfl, ?_⟩
        exact hN _ _ ⟨_, q1, q2, q3, x, y, z, rfl, Same.refl _, t3, pos, sx, sy, sz, by simp⟩
      · refine ⟨_, rfl, _, rfl, l, _, _, _, rfl, rfl, SqL.of hl, atI_nat (j := 1) rfl, _, rfl, _, rfl, _, _, rfl, rfl, _, _, rfl, rfl, (by decide : (0 : Int) < 3), l, _, _, _, rfl, rfl, SqL.of hl, (show atI [V.ref q1, V.ref q2, V.ref q3] (2 : Int) = some (.ref q3) from atI_nat (j := 2) rfl), _, rfl, _, rfl, _, _, rfl, rfl, _, _, rfl, rfl, (by decide : (0 : Int) < 3), l, _, _, _, rfl, rfl, SqL.of hl, (show atI [V.ref q1, V.ref q2, V.ref q3] (0 : Int) = some (.ref q1) from atI_nat (j := 0) rfl), _, _, _, rfl, ?_⟩
        exact hN _ _ ⟨_, q2, q3, q1, y, z, x, rfl, Same.refl _, ⟨t3.b, t3.c, t3.a⟩, by rw [sd_rot]; exact pos, sy, sz, sx, by simp⟩
      · refine ⟨_, rfl, _, rfl, l, _, _, _, rfl, rfl, SqL.of hl, atI_nat (j := 2) rfl, _, rfl, _, rfl, _, _, rfl, rfl, _, _, rfl, rfl, (by decide : (0 : Int) < 3), l, _, _, _, rfl, rfl, SqL.of hl, (show atI [V.ref q1, V.ref q2, V.ref q3] (0 : Int) = some (.ref q1) from atI_nat (j := 0) rfl), _, rfl, _, rfl, _, _, rfl, rfl, _, _, rfl, rfl, (by decide : (0 : Int) < 3), l, _, _, _, rfl, rfl, SqL.of hl, (show atI [V.ref q1, V.ref q2, V.ref q3] (1 : Int) = some (.ref q2) from atI_nat (j := 1) rfl), _, _, _, rfl, ?_⟩
        exact hN _ _ ⟨_, q3, q1, q2, z, x, y, rfl, Same.refl _, ⟨t3.c, t3.a, t3.b⟩, by rw [sd_rot, sd_rot]; exact pos, sz, sx, sy, by simp⟩
    rintro σ H1' ⟨v6, qa, qb, qc, a, b, c, rfl, e1', tt, pos', sa, sb, sc, mem⟩
    have b1 := b1.trans (But.of e1')
    have p1 := p1.ex e1'
    have hv1 := hv1.ex e1'
    -- the parts, or the whole
    have whole : ∀ (H2 : Hp), But pl H1' H2 → PoolAt pl H2 → ∀ (l2 : Addr), H2 l2 = none → Q (.ref l2) (upd H2 l2 (.lst [.ref l])) := fun H2 b2 p2 l2 n2 => by
      have g := same_new (o := .lst [V.ref l]) n2
      exact k l2 [.ref l] [(x, y, z)] _ (b1.trans (b2.trans (But.of g))) (p2.ex g) upd_same (EachTh.nil.snoc ((hv1.butP p1 b2).ex g)) (parts_one pos sx sy sz) (by simp) (by simp)
    refine seq_gen (fun σ' H' => (∃ v6, σ' = [some (.ref pl), some (.ref l), some (.int r), some (.ref qa), some (.ref qb), some (.ref qc), v6]) ∧ But pl H1' H' ∧ PoolAt pl H') (fun N hN => ?_) ?_
    · refine ⟨_, rfl, qa, _, _, _, rfl, rfl, SqT.of tt.a, atI_nat (j := 0) rfl, _, rfl, qb, _, _, _, rfl, rfl, SqT.of tt.b, atI_nat (j := 0) rfl, _, _, rfl, rfl, _, _, rfl, rfl, (by decide : (0 : Int) < 2), rfl, _, rfl, ?_⟩
      by_cases e1 : (a.1 + b.1) % 2 = 0
      · rw [int_eqT e1]
        refine iteT ?_
        refine ⟨_, rfl, qa, _, _, _, rfl, rfl, SqT.of tt.a, atI_nat (j := 1) rfl, _, rfl, qb, _, _, _, rfl, rfl, SqT.of tt.b, atI_nat (j := 1) rfl, _, _, rfl, rfl, _, _, rfl, rfl, (by decide : (0 : Int) < 2), rfl, _, rfl, ?_⟩
        by_cases e2 : (a.2 + b.2) % 2 = 0
        · rw [int_eqT e2]
          refine iteT ?_
          refine ⟨_, rfl, pl, 3, rfl, p1, by decide, by decide, fun r2 H2 r20 r21 b2 p2 => ⟨rfl, _, rfl, ?_⟩⟩
          refine ite2 (fun _ => ?_) (fun _ => hN _ _ ⟨⟨_, rfl⟩, b2, p2⟩)
          have t4 := tt.butP p1 b2
          refine ⟨_, rfl, qa, _, _, _, rfl, rfl, SqT.of t4.a, atI_nat (j := 0) rfl, _, rfl, qb, _, _, _, rfl, rfl, SqT.of t4.b, atI_nat (j := 0) rfl, _, _, rfl, rfl, _, _, rfl, rfl, ⟨by decide, by decide⟩, ?_⟩
          refine ⟨_, rfl, qa, _, _, _, rfl, rfl, SqT.of t4.a, atI_nat (j := 1) rfl, _, rfl, qb, _, _, _, rfl, rfl, SqT.of t4.b, atI_nat (j := 1) rfl, _, _, rfl, rfl, _, _, rfl, rfl, ⟨by decide, by decide⟩, (by show 2 ≤ sizeLine; decide), fun m nm => ?_⟩
          have g1 := same_new (o := .tup [V.int ((a.1 + b.1) / 2), V.int ((a.2 + b.2) / 2)]) nm
          refine ⟨_, rfl, _, rfl, _, rfl, (by show 3 ≤ sizeLine; decide), fun l1 n1 => ⟨_, rfl, _, rfl, _, rfl, (by show 3 ≤ sizeLine; decide), fun l2 n2 => ⟨(by show 2 ≤ sizeLine; decide), fun l3 n3 => ?_⟩⟩⟩
          have g2 := same_new (o := .lst [V.ref qa, V.ref m, V.ref qc]) n1
          have g3 := same_new (o := .lst [V.ref m, V.ref qb, V.ref qc]) n2
          have g4 := same_new (o := .lst [V.ref l1, V.ref l2]) n3
          have g34 := g3.trans g4
          have g24 := g2.trans g34
          have gA := g1.trans g24
          have t5 := t4.ex gA
          have hm := g24 _ _ (upd_same (H := H2) (a := m) (o := .tup [V.int ((a.1 + b.1) / 2), V.int ((a.2 + b.2) / 2)]))
          have ph := Parts.up (vs := [x, y, z]) (fun v h => In.mem (mem v h)) (parts_two (m := ((a.1 + b.1) / 2, (a.2 + b.2) / 2)) pos' sa sb sc (by show 2 * ((a.1 + b.1) / 2) = a.1 + b.1; omega) (by show 2 * ((a.2 + b.2) / 2) = a.2 + b.2; omega))
          exact k l3 [.ref l1, .ref l2] _ _ (b1.trans (b2.trans (But.of gA))) (p2.ex gA) upd_same ((EachTh.nil.snoc ⟨l1, qa, m, qc, rfl, g34 _ _ upd_same, ⟨t5.a, hm, t5.c⟩⟩).snoc ⟨l2, m, qb, qc, rfl, g4 _ _ upd_same, ⟨hm, t5.b, t5.c⟩⟩) ph (by simp) (by simp)
        · rw [int_eqF e2]
          exact iteF (hN _ _ ⟨⟨_, rfl⟩, But.refl _ _, p1⟩)
      · rw [int_eqF e1]
        exact iteF (hN _ _ ⟨⟨_, rfl⟩, But.refl _ _, p1⟩)
    rintro σ H2 ⟨⟨v6', rfl⟩, b2, p2⟩
    exact ⟨_, rfl, (by show 1 ≤ sizeLine; decide), fun l2 n2 => whole H2 b2 p2 l2 n2⟩
end
end Fo
set_option Elab.async false
set_option linter.all false
set_option maxRecDepth 100000
set_option maxHeartbeats 2000000
namespace Fo
open PySem L2
def gf (g : List (List I2)) (r k : Nat) : I2 := (g.getD r []).getD k (0, 0)
/-- what stands of the mesh before the cell (row, k) -/
def MInv (g : List (List I2)) (w row k : Nat) (ts : List T9) : Prop := (∀ t ∈ ts, ∃ r' k' : Nat, (r' < row ∨ (r' = row ∧ k' < k)) ∧ k' < w ∧ Good (corn (gf g) r' k') t) ∧ ts.Pairwise Ap
theorem MInv.step {g : List (List I2)} {w h row k : Nat} {ts ps : List T9} (hG : ∀ r k, r ≤ h → k ≤ w → Nr (gf g r k) r k) (hr : row < h) (hk : k < w) (h2 : h ≤ 2) (w2 : w ≤ 2) (m : MInv g w row k ts) (p : Parts (corn (gf g) row k) ps) : MInv g w row (k + 1) (ts ++ ps) := by
  refine ⟨fun t ht => ?_, List.pairwise_append.mpr ⟨m.2, p.2, fun t ht u hu => ?_⟩⟩
  · rcases List.mem_append.mp ht with ht | ht
    · obtain ⟨r', k', h1, h2, h3⟩ := m.1 t ht
      exact ⟨r', k', by omega, h2, h3⟩
    · exact ⟨row, k, .inr ⟨rfl, Nat.lt_succ_self _⟩, hk, p.1 t ht⟩
  · obtain ⟨r', k', h1, h3, h4⟩ := m.1 t ht
    exact cells_apart hG (by omega) h3 hr hk h2 w2 (by omega) h4 (p.1 u hu)
theorem MInv.row {g : List (List I2)} {w row : Nat} {ts : List T9} (m : MInv g w row w ts) : MInv g w (row + 1) 0 ts := ⟨fun t ht => by
  obtain ⟨r', k', h1, h2, h3⟩ := m.1 t ht
  exact ⟨r', k', by omega, h2, h3⟩, m.2⟩
theorem MInv.nil {g : List (List I2)} {w : Nat} : MInv g w 0 0 [] := ⟨fun t h => by simp at h, .nil⟩
theorem gf_of {g : List (List I2)} {ps : List I2} {p : I2} {r k : Nat} (h1 : g[r]? = some ps) (h2 : ps[k]? = some p) : gf g r k = p := by
  simp [gf, List.getD_eq_getElem?_getD, h1, h2]
/-- a row's pairs -/
theorem GridAt.row {pl l : Addr} {g : List (List I2)} {w : Nat} {H : Hp} (h : GridAt pl l g w H) {r : Nat} (hr : r < g.length) : ∃ (rows : List V) (rl : Addr) (vs : List V), H l = some (.lst rows) ∧ rows[r]? = some (.ref rl) ∧ H rl = some (.lst vs) ∧
    ∀ k, k ≤ w → ∃ q : Addr, vs[k]? = some (.ref q) ∧ Tp H q (gf g r k) ∧ Nr (gf g r k) r k := by
  obtain ⟨rows, h1, h2, h3, h4⟩ := h
  obtain ⟨v, hv⟩ : ∃ v, rows[r]? = some v := ⟨_, List.getElem?_eq_getElem (by omega)⟩
  obtain ⟨ps, p1, ⟨rl, vs, rfl, n1, n2, p2, p3⟩, p4, p5⟩ := h4 r v hv
  refine ⟨rows, rl, vs, h1, hv, p2, fun k hk => ?_⟩
  have hl := p3.length
  obtain ⟨x, hx⟩ : ∃ x, vs[k]? = some x := ⟨_, List.getElem?_eq_getElem (by omega)⟩
  obtain ⟨q, p, rfl, e1, e2⟩ := p3.get hx
  rw [gf_of p1 e1]
  exact ⟨q, hx, e2, p5 k p e1⟩
theorem nr_sm {p : I2} {r k : Nat} (h : Nr p r k) (hr : r ≤ 2) (hk : k ≤ 2) : Sm2 6 p := by
  obtain ⟨a, b, c, d⟩ := h
  exact ⟨by show Sm 6 _; unfold Sm; omega, by show Sm 6 _; unfold Sm; omega⟩
def OkTs (ts : List T9) : Prop := (∀ t ∈ ts, 0 < sd t.1 t.2.1 t.2.2 ∧ SmT t) ∧ ts.Pairwise Ap
theorem MInv.ok {g : List (List I2)} {w row k : Nat} {ts : List T9} (m : MInv g w row k ts) : OkTs ts := ⟨fun t ht => by
  obtain ⟨r', k', h1, h2, h3⟩ := m.1 t ht
  exact ⟨h3.pos, h3.sa, h3.sb, h3.sc⟩, m.2⟩
theorem OkTs.sub {ts us : List T9} (h : OkTs ts) (s : us.Sublist ts) : OkTs us := ⟨fun t ht => h.1 t (s.subset ht), h.2.sublist s⟩
def spLMesh : Sp := fun vs H Q _ => ∃ pl : Addr, vs = [.ref pl] ∧ PoolAt pl H ∧ ∀ l xs ts H', But pl H H' → PoolAt pl H' → H' l = some (.lst xs) → l ≠ pl → EachTh H' xs ts → OkTs ts → ts.length ≤ 16 → 0 < ts.length → Q (.ref l) H'
section
variable {P : Program} {w : World} {K : PySem.W.Frag} {mg : Str → Option Value} {base : Heap}
abbrev lmN : List Str := ["pool", "wide", "high", "rows", "found", "row", "k", "low", "up", "a", "b", "c", "d", "two", "gone"]
theorem scLMesh : FnScope lmN ["pool"] (defScope sLMesh) := ⟨rfl, rfl, rfl, by decide +kernel, rfl, by decide +kernel, by decide +kernel⟩
theorem ok_lmesh {f fD fCp fSp : Addr} {fd fdD fdCp fdSp : FuncData} (F : Fun K "_law_mesh" "_law_mesh" sLMesh f fd) (T : TxtL mg) (FD : Fun K "_law_draw" "_law_draw" sDraw fD fdD) (bD : Binds K fdD ["pool", "many"] []) (mD : mg "_law_draw" = some (.ref fD))
    (FCp : Fun K "_law_corner_points" "_law_corner_points" sCP fCp fdCp) (bCp : Binds K fdCp ["pool", "wide", "high"] []) (mCp : mg "_law_corner_points" = some (.ref fCp)) (FSp : Fun K "_law_split" "_law_split" sSplit fSp fdSp) (bSp : Binds K fdSp ["pool", "three"] []) (mSp : mg "_law_split" = some (.ref fSp)) :
    FnOk P w K mg base CX0 3 f fd ["pool"] spLMesh := by
  have GD : FnOk P w K mg base CX0 1 fD fdD ["pool", "many"] spDraw := ok_draw FD T
  have GC : FnOk P w K mg base CX0 2 fCp fdCp ["pool", "wide", "high"] spCP := ok_cp FCp T FD bD mD
  have GS : FnOk P w K mg base CX0 2 fSp fdSp ["pool", "three"] spSplit := ok_split FSp T FD bD mD
  refine F.ok scLMesh (fun vs H Q E h => ?_) (fun cdv A outer s H vs Q E hr h => ?_)
  · obtain ⟨pl, rfl, _⟩ := h
    rfl
  · obtain ⟨pl, rfl, hp, k⟩ := h
    have hr1 : Room 1 _ := hr.mono (by decide)
    refine ⟨_, pss_cons (ps_par (i := 1) (j := 2) (by rfl) scLMesh.nd rfl rfl (by decide) rfl rfl (pa_cons (pe_op op_add pe_int (pe_call GD hr1 rfl mD FD.kp bD .nil pass0 (pa_cons (pv 0) (pa_cons pe_int pa_nil)))) (pa_cons (pe_op op_add pe_int (pe_call GD hr1 rfl mD FD.kp bD .nil pass0 (pa_cons (pv 0) (pa_cons pe_int pa_nil)))) pa_nil)) (by rfl))
      (pss_cons (ps_set (i := 3) scLMesh.nd rfl (Or.inl rfl) (pe_call GC hr rfl mCp FCp.kp bCp .nil pass0 (pa_cons (pv 0) (pa_cons (pv 1) (pa_cons (pv 2) pa_nil)))))
      (pss_cons (ps_set (i := 4) scLMesh.nd rfl (Or.inr rfl) (pe_lst pa_nil))
      (pss_cons (ps_for PassesOwn.never rfl (pi_range1 rfl T.range (pa_cons (pv 2) pa_nil)) (pg_name (i := 5) scLMesh.nd rfl (Or.inl rfl))
        (pss_one (ps_for PassesOwn.never rfl (pi_range1 rfl T.range (pa_cons (pv 1) pa_nil)) (pg_name (i := 6) scLMesh.nd rfl (Or.inl rfl))
        (pss_cons (ps_par (i := 7) (j := 8) (by rfl) scLMesh.nd rfl rfl (by decide) rfl rfl (pa_cons (pe_ix (r := rIxL K) ix_list (pv 3) (pv 5) (fun _ _ => rfl)) (pa_cons (pe_ix (r := rIxL K) ix_list (pv 3) (pe_op op_add (pv 5) pe_int) (fun _ _ => rfl)) pa_nil)) (by rfl))
        (pss_cons (ps_par (i := 9) (j := 10) (by rfl) scLMesh.nd rfl rfl (by decide) rfl rfl (pa_cons (pe_ix (r := rIxL K) ix_list (pv 7) (pv 6) (fun _ _ => rfl)) (pa_cons (pe_ix (r := rIxL K) ix_list (pv 7) (pe_op op_add (pv 6) pe_int) (fun _ _ => rfl)) pa_nil)) (by rfl))
        (pss_cons (ps_par (i := 11) (j := 12) (by rfl) scLMesh.nd rfl rfl (by decide) rfl rfl (pa_cons (pe_ix (r := rIxL K) ix_list (pv 8) (pe_op op_add (pv 6) pe_int) (fun _ _ => rfl)) (pa_cons (pe_ix (r := rIxL K) ix_list (pv 8) (pv 6) (fun _ _ => rfl)) pa_nil)) (by rfl))
        (pss_cons (ps_set (i := 13) scLMesh.nd rfl (Or.inl rfl) (pe_lst (pa_cons (pe_lst (pa_cons (pv 9) (pa_cons (pv 10) (pa_cons (pv 11) pa_nil)))) (pa_cons (pe_lst (pa_cons (pv 9) (pa_cons (pv 11) (pa_cons (pv 12) pa_nil)))) pa_nil))))
        (pss_cons (ps_if (pt_cmpR op_eq (pe_call GD hr1 rfl mD FD.kp bD .nil pass0 (pa_cons (pv 0) (pa_cons pe_int pa_nil))) pe_int (nomark _)) (pss_one (ps_set (i := 13) scLMesh.nd rfl (Or.inl rfl) (pe_lst (pa_cons (pe_lst (pa_cons (pv 9) (pa_cons (pv 10) (pa_cons (pv 12) pa_nil)))) (pa_cons (pe_lst (pa_cons (pv 10) (pa_cons (pv 11) (pa_cons (pv 12) pa_nil)))) pa_nil))))) pss_nil)
        (pss_one (ps_set (i := 4) scLMesh.nd rfl (Or.inr rfl) (pe_op op_cat (pe_op op_cat (pv 4) (pe_call GS hr rfl mSp FSp.kp bSp .nil pass0 (pa_cons (pv 0) (pa_cons (pe_ix (r := rIxL K) ix_list (pv 13) pe_int (fun _ _ => rfl)) pa_nil)))) (pe_call GS hr rfl mSp FSp.kp bSp .nil pass0 (pa_cons (pv 0) (pa_cons (pe_ix (r := rIxL K) ix_list (pv 13) pe_int (fun _ _ => rfl)) pa_nil))))))))))))))
      (pss_cons (ps_set (i := 14) scLMesh.nd rfl (Or.inr rfl) (pe_call GD hr1 rfl mD FD.kp bD .nil pass0 (pa_cons (pv 0) (pa_cons (pe_op op_mul pe_int (pe_callB call_len_seq (by rfl) T.len PySem.boot_len (pa_cons (pv 4) pa_nil))) pa_nil))))
      (pss_one (ps_ret (pe_lc (own := [("k", 6)]) (g := gName 6) rfl scLMesh.nd (pi_range1 rfl T.range (pa_cons (pe_callB call_len_seq (by rfl) T.len PySem.boot_len (pa_cons (pv 4) pa_nil)) pa_nil)) (blkOk_by (own := [("k", 6)]) (N := lmN) (sc := defScope sLMesh) (by decide +kernel)) (fun _ _ _ _ _ => (pg_name (i := 6) scLMesh.nd rfl (Or.inl rfl))) (fun _ _ _ _ _ => pts_one (pt_cmpR op_ne (pv 6) (pv 14) (nomark _))) (fun _ _ _ _ _ => (pe_ix (r := rIxL K) ix_list (pv 4) (pv 6) (fun _ _ => rfl)))))))))), ?_⟩
    refine seq_gen (fun σ' H' => ∃ (w h : Nat) (v3 v4 v5 v6 v7 v8 v9 v10 v11 v12 v13 v14 : Option V), σ' = [some (.ref pl), some (.int (w : Int)), some (.int (h : Int)), v3, v4, v5, v6, v7, v8, v9, v10, v11, v12, v13, v14] ∧ But pl H H' ∧ PoolAt pl H' ∧ 1 ≤ w ∧ w ≤ 2 ∧ 1 ≤ h ∧ h ≤ 2) (fun N hN => ?_) ?_
    · refine ⟨_, rfl, pl, 2, rfl, hp, by decide, by decide, fun r1 H1 r10 r11 b1 p1 => ⟨_, _, rfl, rfl, ?_⟩⟩
      refine ⟨_, rfl, pl, 2, rfl, p1, by decide, by decide, fun r2 H2 r20 r21 b2 p2 => ⟨_, _, rfl, rfl, _, _, rfl, ?_⟩⟩
      refine hN _ _ ⟨(1 + r1).toNat, (1 + r2).toNat, none, none, none, none, none, none, none, none, none, none, none, none, ?_, b1.trans b2, p2, by omega, by omega, by omega, by omega⟩
      rw [show ((1 + r1).toNat : Int) = 1 + r1 by omega, show ((1 + r2).toNat : Int) = 1 + r2 by omega]
      rfl
    rintro σ H1 ⟨w, h, v3, v4, v5, v6, v7, v8, v9, v10, v11, v12, v13, v14, rfl, b1, p1, w1, w2, h1, h2⟩
    refine ⟨_, rfl, _, rfl, _, rfl, pl, w, h, rfl, p1, w2, h2, fun rl g H2 b2 p2 hg gl => ?_⟩
    refine ⟨(by show 0 ≤ sizeLine; decide), fun fl nfl => ?_⟩
    have g3 := same_new (o := .lst []) nfl
    have b3 := (b1.trans b2).trans (But.of g3)
    have p3 := p2.ex g3
    have hg3 := hg.ex g3
    have nf := p2.ne nfl
    have hfl := upd_same (H := H2) (a := fl) (o := .lst [])
    generalize upd H2 fl (.lst []) = H3 at *
    clear b1 b2 p1 p2 hg nfl g3
    have hG : ∀ r k, r ≤ h → k ≤ w → Nr (gf g r k) r k := fun r k hr hk => by
      obtain ⟨_, _, _, _, _, _, z⟩ := hg3.row (r := r) (by omega)
      obtain ⟨_, _, _, z⟩ := z k hk
      exact z
    -- the cells
    dsimp only
    refine seq_gen (fun σ' H' => ∃ (fl : Addr) (xs : List V) (ts : List T9) (v5 v6 v7 v8 v9 v10 v11 v12 v13 v14 : Option V), σ' = [some (.ref pl), some (.int (w : Int)), some (.int (h : Int)), some (.ref rl), some (.ref fl), v5, v6, v7, v8, v9, v10, v11, v12, v13, v14] ∧ But pl H H' ∧ PoolAt pl H' ∧ H' fl = some (.lst xs) ∧ fl ≠ pl ∧ EachTh H' xs ts ∧ OkTs ts ∧ 2 ≤ ts.length ∧ ts.length ≤ 16) (fun N hN => ?_) ?_
    · refine ⟨_, rfl, _, rfl, by omega, by omega, ?_⟩
      refine for_range (lo := 0) (n := (h : Int).toNat) (fun i σ' H' => ∃ (fl : Addr) (xs : List V) (ts : List T9) (v5 v6 v7 v8 v9 v10 v11 v12 v13 v14 : Option V), σ' = [some (.ref pl), some (.int (w : Int)), some (.int (h : Int)), some (.ref rl), some (.ref fl), v5, v6, v7, v8, v9, v10, v11, v12, v13, v14] ∧ But pl H H' ∧ PoolAt pl H' ∧ GridAt pl rl g w H' ∧ H' fl = some (.lst xs) ∧ fl ≠ pl ∧ EachTh H' xs ts ∧ MInv g w i 0 ts ∧ 2 * i ≤ ts.length ∧ ts.length ≤ 8 * i)
        ⟨fl, [], [], _, _, _, _, _, _, _, _, _, _, rfl, b3, p3, hg3, hfl, nf, EachTh.nil, MInv.nil, by simp, by simp⟩ ?_ ?_
      case refine_2 =>
        rintro σ H' ⟨fl, xs, ts, v5, v6, v7, v8, v9, v10, v11, v12, v13, v14, rfl, b4, p4, hg4, hf4, nf4, hE, hM, l1, l2⟩
        exact hN _ _ ⟨fl, xs, ts, _, _, _, _, _, _, _, _, _, _, rfl, b4, p4, hf4, nf4, hE, hM.ok, by omega, by omega⟩
      rintro i σ H4 hi ⟨fl0, xs0, ts0, v5, v6, v7, v8, v9, v10, v11, v12, v13, v14, rfl, b4, p4, hg4, hf4, nf4, hE4, hM4, l1, l2⟩
      refine ⟨_, rfl, _, rfl, by omega, by omega, ?_⟩
      refine for_range (lo := 0) (n := (w : Int).toNat) (fun j σ' H' => ∃ (fl : Addr) (xs : List V) (ts : List T9) (v6 v7 v8 v9 v10 v11 v12 v13 v14 : Option V), σ' = [some (.ref pl), some (.int (w : Int)), some (.int (h : Int)), some (.ref rl), some (.ref fl), some (.int (0 + (i : Int))), v6, v7, v8, v9, v10, v11, v12, v13, v14] ∧ But pl H H' ∧ PoolAt pl H' ∧ GridAt pl rl g w H' ∧ H' fl = some (.lst xs) ∧ fl ≠ pl ∧ EachTh H' xs ts ∧ MInv g w i j ts ∧ 2 * i + 2 * j ≤ ts.length ∧ ts.length ≤ 8 * i + 4 * j)
        ⟨fl0, xs0, ts0, _, _, _, _, _, _, _, _, _, rfl, b4, p4, hg4, hf4, nf4, hE4, hM4, by omega, by omega⟩ ?_ ?_
      case refine_2 =>
        rintro σ H' ⟨fl, xs, ts, v6, v7, v8, v9, v10, v11, v12, v13, v14, rfl, b5, p5, hg5, hf5, nf5, hE5, hM5, l1, l2⟩
        have ew : ((w : Int).toNat) = w := by omega
        rw [ew] at hM5 l1 l2
        exact ⟨fl, xs, ts, _, _, _, _, _, _, _, _, _, _, rfl, b5, p5, hg5, hf5, nf5, hE5, hM5.row, by omega, by omega⟩
      rintro j σ H5 hj ⟨fl, xs, ts, v6, v7, v8, v9, v10, v11, v12, v13, v14, rfl, b5, p5, hg5, hf5, nf5, hE5, hM5, l1, l2⟩
      obtain ⟨rows, lo, vlo, hrl, hlo, hvlo, klo⟩ := hg5.row (r := i) (by omega)
      obtain ⟨rows', up, vup, hrl', hup, hvup, kup⟩ := hg5.row (r := i + 1) (by omega)
      have er : rows' = rows := by
        rw [hrl] at hrl'
        injection hrl' with z
        injection z with z
        exact z.symm
      subst er
      obtain ⟨qa, ka, ta, na⟩ := klo j (by omega)
      obtain ⟨qb, kb, tb, nb⟩ := klo (j + 1) (by omega)
      obtain ⟨qc, kc, tc, nc⟩ := kup (j + 1) (by omega)
      obtain ⟨qd, kd, td, nd⟩ := kup j (by omega)
      -- low, up
      refine ⟨_, rfl, _, rfl, rl, _, _, _, rfl, rfl, SqL.of hrl, (show atI rows' (0 + (i : Int)) = some (.ref lo) by rw [Int.zero_add]; exact atI_nat hlo), _, rfl, _, rfl, _, _, rfl, rfl, rl, _, _, _, rfl, rfl, SqL.of hrl, (show atI rows' (0 + (i : Int) + 1) = some (.ref up) by rw [Int.zero_add]; exact atI_nat (j := i + 1) hup), _, _, rfl, ?_⟩
      -- a, b
      refine ⟨_, rfl, _, rfl, lo, _, _, _, rfl, rfl, SqL.of hvlo, (show atI vlo (0 + (j : Int)) = some (.ref qa) by rw [Int.zero_add]; exact atI_nat ka), _, rfl, _, rfl, _, _, rfl, rfl, lo, _, _, _, rfl, rfl, SqL.of hvlo, (show atI vlo (0 + (j : Int) + 1) = some (.ref qb) by rw [Int.zero_add]; exact atI_nat (j := j + 1) kb), _, _, rfl, ?_⟩
      -- c, d
      refine ⟨_, rfl, _, rfl, _, _, rfl, rfl, up, _, _, _, rfl, rfl, SqL.of hvup, (show atI vup (0 + (j : Int) + 1) = some (.ref qc) by rw [Int.zero_add]; exact atI_nat (j := j + 1) kc), _, rfl, _, rfl, up, _, _, _, rfl, rfl, SqL.of hvup, (show atI vup (0 + (j : Int)) = some (.ref qd) by rw [Int.zero_add]; exact atI_nat kd), _, _, rfl, ?_⟩
      have sA := nr_sm na (by omega) (by omega)
      have sB := nr_sm nb (by omega) (by omega)
      have sC := nr_sm nc (by omega) (by omega)
      have sD := nr_sm nd (by omega) (by omega)
      have o1 : 0 < sd (gf g i j) (gf g i (j + 1)) (gf g (i + 1) (j + 1)) := riU na nb nc (.inr rfl)
      have o2 : 0 < sd (gf g i j) (gf g (i + 1) (j + 1)) (gf g (i + 1) j) := by
        have := upR na nd nc (.inr rfl)
        rw [sd_flip]
        omega
      have o3 : 0 < sd (gf g i j) (gf g i (j + 1)) (gf g (i + 1) j) := riU na nb nd (.inl rfl)
      have o4 : 0 < sd (gf g i (j + 1)) (gf g (i + 1) (j + 1)) (gf g (i + 1) j) := upL nb nc nd (.inr rfl)
      -- two
      dsimp only
      refine seq_gen (fun σ' H' => ∃ (tw l1 l2 : Addr) (t1 t2 : T9), σ' = [some (.ref pl), some (.int (w : Int)), some (.int (h : Int)), some (.ref rl), some (.ref fl), some (.int (0 + (i : Int))), some (.int (0 + (j : Int))), some (.ref lo), some (.ref up), some (.ref qa), some (.ref qb), some (.ref qc), some (.ref qd), some (.ref tw), v14] ∧ Same H5 H' ∧ H' tw = some (.lst [.ref l1, .ref l2]) ∧ IsTh H' (.ref l1) t1 ∧ IsTh H' (.ref l2) t2 ∧ (0 < sd t1.1 t1.2.1 t1.2.2 ∧ SmT t1) ∧ (0 < sd t2.1 t2.2.1 t2.2.2 ∧ SmT t2) ∧ ∀ ts us, Parts [t1.1, t1.2.1, t1.2.2] ts → Parts [t2.1, t2.2.1, t2.2.2] us → Parts (corn (gf g) i j) (ts ++ us)) (fun N hN => ?_) ?_
      · refine ⟨_, rfl, _, rfl, _, rfl, (by show 3 ≤ sizeLine; decide), fun m1 n1 => ⟨_, rfl, _, rfl, _, rfl, (by show 3 ≤ sizeLine; decide), fun m2 n2 => ⟨(by show 2 ≤ sizeLine; decide), fun tw ntw => ?_⟩⟩⟩
        have g1 := same_new (o := .lst [V.ref qa, V.ref qb, V.ref qc]) n1
        have g2 := same_new (o := .lst [V.ref qa, V.ref qc, V.ref qd]) n2
        have g3 := same_new (o := .lst [V.ref m1, V.ref m2]) ntw
        have g23 := g2.trans g3
        have gA := g1.trans g23
        exact hN _ _ ⟨tw, m1, m2, (gf g i j, gf g i (j + 1), gf g (i + 1) (j + 1)), (gf g i j, gf g (i + 1) (j + 1), gf g (i + 1) j), rfl, gA, upd_same, ⟨m1, qa, qb, qc, rfl, g23 _ _ upd_same, ⟨gA _ _ ta, gA _ _ tb, gA _ _ tc⟩⟩, ⟨m2, qa, qc, qd, rfl, g3 _ _ upd_same, ⟨gA _ _ ta, gA _ _ tc, gA _ _ td⟩⟩, ⟨o1, sA, sB, sC⟩, ⟨o2, sA, sC, sD⟩, fun ts us h1 h2 => cell1 na nb nc nd h1 h2⟩
      rintro σ H6 ⟨tw0, k1, k2, t10, t20, rfl, e6, htw0, i10, i20, o10, o20, pt0⟩
      refine seq_gen (fun σ' H' => ∃ (tw l1 l2 : Addr) (t1 t2 : T9), σ' = [some (.ref pl), some (.int (w : Int)), some (.int (h : Int)), some (.ref rl), some (.ref fl), some (.int (0 + (i : Int))), some (.int (0 + (j : Int))), some (.ref lo), some (.ref up), some (.ref qa), some (.ref qb), some (.ref qc), some (.ref qd), some (.ref tw), v14] ∧ But pl H5 H' ∧ PoolAt pl H' ∧ H' tw = some (.lst [.ref l1, .ref l2]) ∧ IsTh H' (.ref l1) t1 ∧ IsTh H' (.ref l2) t2 ∧ (0 < sd t1.1 t1.2.1 t1.2.2 ∧ SmT t1) ∧ (0 < sd t2.1 t2.2.1 t2.2.2 ∧ SmT t2) ∧ ∀ ts us, Parts [t1.1, t1.2.1, t1.2.2] ts → Parts [t2.1, t2.2.1, t2.2.2] us → Parts (corn (gf g) i j) (ts ++ us)) (fun N hN => ?_) ?_
      · refine ⟨_, rfl, pl, 2, rfl, p5.ex e6, by decide, by decide, fun r H7 r0 r1 b7 p7 => ⟨rfl, _, rfl, ?_⟩⟩
        have b67 := (But.of (p := pl) e6).trans b7
        refine ite2 (fun _ => ?_) (fun _ => ?_)
        · have ta7 := b67 _ _ (tup_ne p5 ta) ta
          have tb7 := b67 _ _ (tup_ne p5 tb) tb
          have tc7 := b67 _ _ (tup_ne p5 tc) tc
          have td7 := b67 _ _ (tup_ne p5 td) td
          refine ⟨_, rfl, _, rfl, _, rfl, (by show 3 ≤ sizeLine; decide), fun m1 n1 => ⟨_, rfl, _, rfl, _, rfl, (by show 3 ≤ sizeLine; decide), fun m2 n2 => ⟨(by show 2 ≤ sizeLine; decide), fun tw ntw => ?_⟩⟩⟩
          have g1 := same_new (o := .lst [V.ref qa, V.ref qb, V.ref qd]) n1
          have g2 := same_new (o := .lst [V.ref qb, V.ref qc, V.ref qd]) n2
          have g3 := same_new (o := .lst [V.ref m1, V.ref m2]) ntw
          have g23 := g2.trans g3
          have gA := g1.trans g23
          exact hN _ _ ⟨tw, m1, m2, (gf g i j, gf g i (j + 1), gf g (i + 1) j), (gf g i (j + 1), gf g (i + 1) (j + 1), gf g (i + 1) j), rfl, b67.trans (But.of gA), p7.ex gA, upd_same, ⟨m1, qa, qb, qd, rfl, g23 _ _ upd_same, ⟨gA _ _ ta7, gA _ _ tb7, gA _ _ td7⟩⟩, ⟨m2, qb, qc, qd, rfl, g3 _ _ upd_same, ⟨gA _ _ tb7, gA _ _ tc7, gA _ _ td7⟩⟩, ⟨o3, sA, sB, sD⟩, ⟨o4, sB, sC, sD⟩, fun ts us h1 h2 => cell2 na nb nc nd h1 h2⟩
        · obtain ⟨pi, pj, hpp, _⟩ := id (p5.ex e6)
          exact hN _ _ ⟨tw0, k1, k2, t10, t20, rfl, b67, p7, b7 _ _ (ne_of htw0 hpp (by intro z; cases z)) htw0, i10.butP (p5.ex e6) b7, i20.butP (p5.ex e6) b7, o10, o20, pt0⟩
      rintro σ H7 ⟨tw, m1, m2, t1, t2, rfl, b7, p7, htw, i1, i2, o1', o2', pt⟩
      have hf7 := b7 _ _ nf5 hf5
      have hE7 := hE5.butP p5 b7
      have hg7 := hg5.butP p5 b7
      have tp : tw ≠ pl := by
        obtain ⟨pi, pj, hpp, _⟩ := id p7
        exact ne_of htw hpp (by intro z; cases z)
      -- found
      refine ⟨_, rfl, _, rfl, _, rfl, tw, _, _, _, rfl, rfl, SqL.of htw, atI_nat (j := 0) rfl, pl, .ref m1, t1.1, t1.2.1, t1.2.2, rfl, p7, i1, o1'.1, o1'.2.1, o1'.2.2.1, o1'.2.2.2, fun s1 xs1 ts1 H8 b8 p8 hs1 hE1 P1 n11 n12 => ?_⟩
      have hx7 := hE7.1
      have hx1 := hE1.1
      refine ⟨fl, s1, _, _, rfl, rfl, b8 _ _ nf5 hf7, hs1, Nat.le_trans (by omega : _ ≤ 100) (by decide), fun c1 nc1 => ?_⟩
      have g9 := same_new (o := .lst (xs ++ xs1)) nc1
      have p9 := p8.ex g9
      have b9 := b8.trans (But.of g9)
      have hE9 := ((hE7.butP p7 b8).append hE1).ex g9
      have cp := p8.ne nc1
      refine ⟨_, rfl, _, rfl, tw, _, _, _, rfl, rfl, SqL.of (b9 _ _ tp htw), atI_nat (j := 1) rfl, pl, .ref m2, t2.1, t2.2.1, t2.2.2, rfl, p9, i2.butP p7 b9, o2'.1, o2'.2.1, o2'.2.2.1, o2'.2.2.2, fun s2 xs2 ts2 H10 b10 p10 hs2 hE2 P2 n21 n22 => ?_⟩
      have hx2 := hE2.1
      refine ⟨c1, s2, _, _, rfl, rfl, b10 _ _ cp upd_same, hs2, Nat.le_trans (by rw [List.length_append]; omega : _ ≤ 100) (by decide), fun c2 nc2 => ?_⟩
      have g11 := same_new (o := .lst (xs ++ xs1 ++ xs2)) nc2
      have b11 := b9.trans (b10.trans (But.of g11))
      have hEE := ((hE9.butP p9 b10).append hE2).ex g11
      rw [List.append_assoc ts] at hEE
      have M' := hM5.step hG (by omega) (by omega) h2 w2 (pt ts1 ts2 P1 P2)
      refine ⟨c2, _, ts ++ (ts1 ++ ts2), _, _, _, _, _, _, _, _, _, rfl, b5.trans (b7.trans b11), p10.ex g11, hg7.butP p7 b11, upd_same, p10.ne nc2, hEE, M', ?_, ?_⟩
      · rw [List.length_append, List.length_append]
        omega
      · rw [List.length_append, List.length_append]
        omega
    rintro σ H4 ⟨fl4, xs, ts, v5, v6, v7, v8, v9, v10, v11, v12, v13, v14, rfl, b4, p4, hf4, nf4, hE4, hO4, l1, l2⟩
    -- gone
    have hx := hE4.1
    refine ⟨_, rfl, _, rfl, fl4, _, rfl, .inl (SqL.of hf4), _, _, rfl, rfl, .inl ⟨by decide, by decide⟩, pl, 3 * (xs.length : Int), rfl, p4, by omega, by omega, fun gn H5 g0 g1 b5 p5 => ?_⟩
    have hf5 := b5 _ _ nf4 hf4
    have hE5 := hE4.butP p4 b5
    refine ⟨_, rfl, fl4, _, rfl, .inl (SqL.of hf5), _, rfl, by omega, by omega, fun D0 nD => ?_⟩
    refine lc_range (lo := 0) (n := ((xs.length : Int)).toNat) (fun j H' => Same H5 H' ∧ ∃ (ys : List V) (us : List T9), H' D0 = some (.lst ys) ∧ ys.length ≤ j ∧ EachTh H5 ys us ∧ us.Sublist (ts.take j) ∧ j ≤ us.length + 1 ∧ ((j : Int) ≤ gn → j ≤ us.length))
      ⟨same_new nD, [], [], upd_same, Nat.le_refl _, EachTh.nil, List.nil_sublist _, Nat.zero_le _, fun _ => Nat.zero_le _⟩ ?_ ?_
    · rintro j H6 hj ⟨e6, ys, us, hD, yl, hEy, sb, c1, c2⟩
      have hj' : j < xs.length := by omega
      obtain ⟨y, hy⟩ : ∃ y, xs[j]? = some y := ⟨_, List.getElem?_eq_getElem hj'⟩
      obtain ⟨t, ht, iy⟩ := hE5.2 j y hy
      have htk : ts.take (j + 1) = ts.take j ++ [t] := by
        rw [List.take_add_one, ht]
        rfl
      refine ⟨rfl, ?_⟩
      refine ⟨_, rfl, _, rfl, rfl, _, rfl, ?_⟩
      refine ite2 (fun hc => ?_) (fun hc => ?_)
      · refine ⟨_, rfl, _, rfl, fl4, _, _, _, rfl, rfl, SqL.of (e6 _ _ hf5), (show atI xs (0 + (j : Int)) = some y by rw [Int.zero_add]; exact atI_nat hy), ?_⟩
        refine ⟨ys, hD, Nat.lt_of_lt_of_le (by omega : ys.length < 100) (by decide), But.upd.same nD e6, ys ++ [y], us ++ [t], upd_same, by rw [List.length_append]; simp; exact yl, hEy.snoc iy, ?_, by rw [List.length_append]; show j + 1 ≤ us.length + 1 + 1; omega, fun hg => by rw [List.length_append]; show j + 1 ≤ us.length + 1; have := c2 (by omega); omega⟩
        rw [htk]
        exact sb.append (List.Sublist.refl _)
      · have hj0 : (0 : Int) + (j : Nat) = gn := by simpa using hc
        refine ⟨e6, ys, us, hD, by omega, hEy, ?_, by have := c2 (by omega); omega, fun hg => by omega⟩
        rw [htk]
        exact sb.trans (List.sublist_append_left _ _)
    · rintro H6 ⟨e6, ys, us, hD, yl, hEy, sb, c1, c2⟩
      have sb' : us.Sublist ts := sb.trans (List.take_sublist _ _)
      exact k D0 ys us H6 (b4.trans (b5.trans (But.of e6))) (p5.ex e6) hD (p5.ne nD) (hEy.ex e6) (hO4.sub sb') (Nat.le_trans sb'.length_le l2) (by omega)
end
end Fo
set_option Elab.async false
set_option linter.all false
set_option maxRecDepth 100000
set_option maxHeartbeats 2000000
namespace Fo
open PySem L2
/-- a Triangle whose tips are not the list D -/
def IsTD (C CT D : Addr) (v : V) (t : T9) (H : Hp) : Prop := ∃ q dx l v1 v2 v3, v = .ref q ∧ H q = some (.ins CT dx (tipF l)) ∧ H l = some (.lst [v1, v2, v3]) ∧ l ≠ D ∧ Three C v1 v2 v3 t.1 t.2.1 t.2.2 H
theorem IsTD.ex {C CT D : Addr} {v : V} {t : T9} {H H' : Hp} (e : Same H H') (h : IsTD C CT D v t H) : IsTD C CT D v t H' := by
  obtain ⟨q, dx, l, v1, v2, v3, rfl, h1, h2, n, h3⟩ := h
  exact ⟨q, dx, l, v1, v2, v3, rfl, e _ _ h1, e _ _ h2, n, h3.ex e⟩
theorem IsTD.but {C CT D : Addr} {v : V} {t : T9} {H H' : Hp} {ys : List V} (hD : H D = some (.lst ys)) (e : But D H H') (h : IsTD C CT D v t H) : IsTD C CT D v t H' := by
  obtain ⟨q, dx, l, v1, v2, v3, rfl, h1, h2, n, h3⟩ := h
  exact ⟨q, dx, l, v1, v2, v3, rfl, e _ _ (ne_of h1 hD (by intro z; cases z)) h1, e _ _ n h2, n, h3.1.but hD e, h3.2.1.but hD e, h3.2.2.but hD e⟩
theorem IsTD.t {C CT D : Addr} {v : V} {t : T9} {H : Hp} (h : IsTD C CT D v t H) : IsT C CT v t.1 t.2.1 t.2.2 H := by
  obtain ⟨q, dx, l, v1, v2, v3, rfl, h1, h2, n, h3⟩ := h
  exact ⟨q, dx, l, v1, v2, v3, rfl, h1, h2, h3⟩
/-- no Triangle is a Point -/
theorem tri_pt {C CT D : Addr} {v : V} {t : T9} {x y : Int} {H : Hp} (h : IsTD C CT D v t H) (h' : IsP C v x y H) : False := by
  obtain ⟨q, dx, l, v1, v2, v3, rfl, h1, _⟩ := h
  obtain ⟨a, da, e, h2⟩ := h'
  cases e
  rw [h1] at h2
  injection h2 with h2
  injection h2 with _ _ h3
  have h4 := congrArg (List.lookup ("tips" : Str)) h3
  rw [tipF_tips, ptF_no _ _ (by decide +kernel) (by decide +kernel)] at h4
  cases h4
def spLaid (C CT CM : Addr) : Sp := fun vs H Q _ => ∃ (l : Addr) (xs : List V) (ts : List T9), vs = [.ref l] ∧ H l = some (.lst xs) ∧ EachTh H xs ts ∧ OkTs ts ∧ ts.length ≤ 16 ∧ ∀ v H', Same H H' → IsM C CT CM v ts H' → Q v H'
section
variable {P : Program} {w : World} {K : PySem.W.Frag} {mg : Str → Option Value} {base : Heap}
variable {C fW fI fP fA fO CT fS fTI fCo fEd fAr fEq fAd pAr CM fCu fAp fMI fMT : Addr} {fdW fdI fdP fdA fdO fdS fdTI fdCo fdEd fdAr fdEq fdAd fdCu fdAp fdMI fdMT : FuncData}
theorem scLaid : FnScope ["threes", "three"] ["threes"] (defScope sLaid) := ⟨rfl, rfl, rfl, by decide +kernel, rfl, by decide +kernel, by decide +kernel⟩
theorem ok_laid {f : Addr} {fd : FuncData} (F : Fun K "_law_laid" "_law_laid" sLaid f fd) (M : MDefs K mg CM fCu fAp fMI fMT fdCu fdAp fdMI fdMT) (d' : TDefs K mg C CT fS fTI fCo fEd fAr fEq fAd pAr fdS fdTI fdCo fdEd fdAr fdEq fdAd) (D : Defs K mg C fW fI fP fA fO fdW fdI fdP fdA fdO) :
    FnOk P w K mg base CX0 12 f fd ["threes"] (spLaid C CT CM) := by
  have GTI : FnOk P w K mg base CX0 8 fTI fdTI ["self", "a", "b", "c"] (spTInit C CT) := d'.GTI D
  have GMI : FnOk P w K mg base CX0 10 fMI fdMI ["self", "triangles"] (spMInit C CT CM) := ok_mInit M d' D
  refine F.ok scLaid (fun vs H Q E h => ?_) (fun cdv A outer s H vs Q E hr h => ?_)
  · obtain ⟨l, xs, ts, rfl, _⟩ := h
    rfl
  · obtain ⟨l, xs, ts, rfl, hl, hE, hO, hn, k⟩ := h
    have hr9 : Room 9 _ := hr.mono (by decide)
    refine ⟨_, pss_one (ps_ret (pe_make M.MM GMI hr rfl M.mgM M.bMI .nil pass0 (pa_cons
      (pe_lc (own := [("three", 1)]) (g := gName 1) (tt := tYes) rfl scLaid.nd (pi_list (pv 0)) (blkOk_by (own := [("three", 1)]) (N := ["threes", "three"]) (sc := defScope sLaid) (by decide +kernel)) (fun _ _ _ _ _ => pg_name (i := 1) scLaid.nd rfl (Or.inl rfl)) (fun _ _ _ _ _ => pts_nil)
        (fun _ _ _ _ _ => pe_make d'.MT GTI hr9 rfl d'.TT.mgT d'.bTI .nil pass0 (pa_cons (pe_ix (r := rIxL K) ix_list (pv 1) pe_int (fun _ _ => rfl)) (pa_cons (pe_ix (r := rIxL K) ix_list (pv 1) pe_int (fun _ _ => rfl)) (pa_cons (pe_ix (r := rIxL K) ix_list (pv 1) pe_int (fun _ _ => rfl)) pa_nil))))) pa_nil))), ?_⟩
    refine ⟨_, rfl, l, rfl, ⟨_, SqL.of hl⟩, fun D0 nD => ?_⟩
    refine lc_list (K := K) (a := l) (xs := xs) (fun i H' => Same H H' ∧ ∃ vs : List V, H' D0 = some (.lst vs) ∧ vs.length = i ∧ ∀ (j : Nat) (v : V), vs[j]? = some v → ∃ t : T9, ts[j]? = some t ∧ IsTD C CT D0 v t H') ?_ ?_ ?_ ?_
    · exact ⟨same_new nD, [], upd_same, rfl, fun j v h => by simp at h⟩
    · rintro i H' _ ⟨e, _⟩
      exact e.seq (SqL.of hl)
    · rintro i x H' hx ⟨e, vs, hv, hlen, hR⟩
      have hi : i < xs.length := (List.getElem?_eq_some_iff.mp hx).1
      obtain ⟨t, ht, lq, q1, q2, q3, rfl, hlq, t3⟩ := hE.2 i x hx
      have hlq' := e _ _ hlq
      have t3' := t3.ex e
      have ot := hO.1 t (List.mem_of_getElem? ht)
      refine ⟨rfl, ?_⟩
      unfold tYes
      dsimp only
      rw [if_pos rfl]
      refine ⟨_, rfl, lq, _, _, _, rfl, rfl, SqL.of hlq', atI_nat (j := 0) rfl, _, rfl, lq, _, _, _, rfl, rfl, SqL.of hlq', atI_nat (j := 1) rfl, _, rfl, lq, _, _, _, rfl, rfl, SqL.of hlq', atI_nat (j := 2) rfl, fun tx dx nx nd ne => ?_⟩
      have g1 : Same H' (upd (upd H' dx (.own tx)) tx (.ins CT dx [])) := (same_new nd).trans (same_new (by rw [upd_ne ne.symm]; exact nx))
      have hT0 := ot.1
      refine ⟨6, tx, dx, .ref q1, .ref q2, .ref q3, t.1, t.2.1, t.2.2, rfl, upd_same, ⟨q1, rfl, .inr (g1 _ _ t3'.a)⟩, ⟨q2, rfl, .inr (g1 _ _ t3'.b)⟩, ⟨q3, rfl, .inr (g1 _ _ t3'.c)⟩, by decide, ot.2.1, ot.2.2.1, ot.2.2.2, by omega, fun l' v1 v2 v3 H2 bt hx' hl' ht' => ⟨rfl, ?_⟩⟩
      have eb : onB t.1 t.2.1 t.2.2 = t.2.1 := by unfold onB; rw [if_pos hT0]
      have ec : onC t.1 t.2.1 t.2.2 = t.2.2 := by unfold onC; rw [if_pos hT0]
      rw [eb, ec] at ht'
      have e2 := But.same nx g1 bt
      have hv2 := e2 _ _ hv
      have nl : l' ≠ D0 := fun z => by
        rw [z, hv2] at hl'
        injection hl' with hl'
        injection hl' with hl'
        subst hl'
        obtain ⟨t', _, h'⟩ := hR 0 v1 rfl
        exact tri_pt (h'.ex e2) ht'.1
      have hNew : IsTD C CT D0 (.ref tx) t H2 := ⟨tx, dx, l', v1, v2, v3, rfl, hx', hl', nl, ht'⟩
      refine ⟨vs, hv2, Nat.lt_of_lt_of_le (by rw [hE.1] at hi; omega : vs.length < 100) (by decide), But.upd.same nD (e.trans e2), vs ++ [.ref tx], upd_same, by rw [List.length_append, hlen]; rfl, fun j v hj => ?_⟩
      rcases get_snoc hj with hj | ⟨rfl, rfl⟩
      · obtain ⟨t', h1, h2⟩ := hR j v hj
        exact ⟨t', h1, (h2.ex e2).but hv2 But.upd⟩
      · exact ⟨t, by rw [hlen]; exact ht, hNew.but hv2 But.upd⟩
    · rintro H1 ⟨e, vs, hv, hlen, hR⟩
      refine fun mx dx nx nd ne => ?_
      have g1 : Same H1 (upd (upd H1 dx (.own mx)) mx (.ins CM dx [])) := (same_new nd).trans (same_new (by rw [upd_ne ne.symm]; exact nx))
      have hEE : EachT C CT H1 vs ts := ⟨by rw [hlen]; exact hE.1, fun i v hv' => by
        obtain ⟨t, h1, h2⟩ := hR i v hv'
        exact ⟨t, h1, h2.t⟩⟩
      refine ⟨mx, dx, D0, vs, ts, rfl, upd_same, g1 _ _ hv, hEE.ex g1, by omega, fun t ht => (hO.1 t ht).2, hO.2, fun l' H2 bt hm hl' => ⟨rfl, ?_⟩⟩
      have e2 := But.same nx g1 bt
      exact k _ _ (e.trans e2) ⟨mx, dx, l', vs, rfl, hm, hl', hEE.ex e2⟩
end
end Fo
set_option Elab.async false
set_option linter.all false
set_option maxRecDepth 100000
set_option maxHeartbeats 2000000
namespace Fo
open PySem L2
/-! ### data, pairs, lists -/
def scD : V → PyData
  | .int i => .int i
  | .bl b => .bool b
  | .str z => .str z
  | _ => .none
theorem dp_sc {K : PySem.W.Frag} {H : Hp} {v : V} (h : Scal v) : Dp K H v (scD v) := by
  cases v with
  | non => exact .non
  | bl b => exact .bl b
  | int i => exact .int i
  | str z => exact .str z
  | _ => exact h.elim
/-- what repr shows of it, and that it does -/
structure GoodV (v : V) : Prop where
  s : Scal v
  sh : ShowsOk (scD v)
  ok : PyData.canLay0 (.str (scD v).shown) = true
def ptD (p : I2) : PyData := .tuple [.int p.1, .int p.2]
/-- a pair at v -/
def Tp2 (p : I2) (v : V) (H : Hp) : Prop := ∃ q, v = .ref q ∧ H q = some (.tup [.int p.1, .int p.2])
theorem Tp2.d {K : PySem.W.Frag} {p : I2} {v : V} {H : Hp} (h : Tp2 p v H) : Dp K H v (ptD p) := by
  obtain ⟨q, rfl, hq⟩ := h
  exact .tup (SqT.of hq) (.cons (.int _) (.cons (.int _) .nil))
theorem al_dp {K : PySem.W.Frag} {α : Type} {R : α → V → Prop} {D : α → PyData} {H : Hp} (h : ∀ e v, R e v → Dp K H v (D e)) : ∀ {es : List α} {xs : List V}, Al2 R es xs → DpAll K H xs (es.map D)
  | _, _, .nil => .nil
  | _, _, .cons a b => .cons (h _ _ a) (al_dp h b)
/-- a list of such -/
def WLs {α : Type} (R : α → V → Hp → Prop) (es : List α) (a : Addr) (H : Hp) : Prop := ∃ xs, H a = some (.lst xs) ∧ Al2 (fun e v => R e v H) es xs
theorem WLs.d {K : PySem.W.Frag} {α : Type} {R : α → V → Hp → Prop} {D : α → PyData} {es : List α} {a : Addr} {H : Hp} (k : ∀ e v, R e v H → Dp K H v (D e)) (h : WLs R es a H) : Dp K H (.ref a) (.list (es.map D)) := by
  obtain ⟨xs, h1, h2⟩ := h
  exact .lst (SqL.of h1) (al_dp k h2)
theorem Tp2.ex {p : I2} {v : V} {H H' : Hp} (e : Same H H') (h : Tp2 p v H) : Tp2 p v H' := let ⟨q, h1, h2⟩ := h; ⟨q, h1, e _ _ h2⟩
theorem WLs.ex {α : Type} {R : α → V → Hp → Prop} {es : List α} {a : Addr} {H H' : Hp} (e : Same H H') (k : ∀ e v, R e v H → R e v H') (h : WLs R es a H) : WLs R es a H' := let ⟨xs, h1, h2⟩ := h; ⟨xs, e _ _ h1, h2.mono k⟩
theorem good_by {v : V} (hs : Scal v) (h : ((scD v).showable && !(scD v).hasDict && decide ((scD v).depth ≤ 60) && decide ((scD v).shown.length ≤ 1000) && PyData.canLay0 (.str (scD v).shown)) = true) : GoodV v := by
  simp only [Bool.and_eq_true, Bool.not_eq_true', decide_eq_true_eq] at h
  exact ⟨hs, ⟨h.1.1.1.1, h.1.1.1.2, h.1.1.2, Nat.le_trans h.1.2 (by decide)⟩, h.2⟩
theorem Tp2.butL {D : Addr} {p : I2} {v : V} {H H' : Hp} {ys : List V} (hD : H D = some (HO.lst ys)) (b : But D H H') (h : Tp2 p v H) : Tp2 p v H' := by
  obtain ⟨q, rfl, hq⟩ := h
  exact ⟨q, rfl, b _ _ (ne_of hq hD (by intro z; cases z)) hq⟩
theorem pts_lay : ∀ es : List I2, PyData.canLayAll0 (es.map ptD) = true
  | [] => by simp [PyData.canLayAll0]
  | e :: es => by simp [PyData.canLayAll0, PyData.canLay0, ptD, pts_lay es]
theorem pts_depth : ∀ es : List I2, PyData.depthAll (es.map ptD) ≤ 6
  | [] => by simp [PyData.depthAll]
  | e :: es => by
    have h1 := pts_depth es
    have h2 : (ptD e).depth ≤ 6 := by simp [ptD, PyData.depth, PyData.depthAll]
    simp only [List.map_cons, PyData.depthAll]
    omega
theorem shaped_l {ds : List PyData} (h1 : PyData.canLayAll0 ds = true) (h2 : PyData.depthAll ds ≤ 6) : SeqAt.shaped (.list ds) = true := by
  show (PyData.canLay0 (.list ds) && decide (PyData.depth (.list ds) ≤ 64)) = true
  rw [Bool.and_eq_true]
  exact ⟨by simp only [PyData.canLay0]; exact h1, decide_eq_true (by simp only [PyData.depth]; omega)⟩
theorem eqv_sh {d : PyData} (h : SeqAt.shaped d = true) : PyData.eqv d d = true := SeqAt.eqv_refl d (SeqAt.canLay_of_shaped h)
theorem ne_same {K : PySem.W.Frag} {H : Hp} {x y : V} {d : PyData} {Q : VK} (hx : Dp K H x d) (hy : Dp K H y d) (h : SeqAt.shaped d = true) (k : Q (.bl false) H) : rNeD K x y H Q := ⟨d, d, hx, hy, h, h, by rw [eqv_sh h]; exact k⟩
theorem eq_same {K : PySem.W.Frag} {H : Hp} {x y : V} {d : PyData} {Q : VK} (hx : Dp K H x d) (hy : Dp K H y d) (h : SeqAt.shaped d = true) (k : Q (.bl true) H) : rEqD K x y H Q := ⟨d, d, hx, hy, h, h, by rw [eqv_sh h]; exact k⟩
theorem iteT' {c : Bool} {A B : Prop} (h : c = true) (a : A) : if c = true then A else B := by
  subst h
  exact iteT a
theorem iteF' {c : Bool} {A B : Prop} (h : c = false) (b : B) : if c = true then A else B := by
  subst h
  exact iteF b
theorem flat_sc {v : V} (h : Scal v) : flatV v = true := by
  cases v with
  | non => rfl
  | bl b => rfl
  | int i => rfl
  | str z => rfl
  | _ => exact h.elim
end Fo
set_option Elab.async false
set_option linter.all false
set_option maxRecDepth 100000
set_option maxHeartbeats 2000000
namespace FoX_ov
open PySem PySem.W PySem.Calls PyProof.Rows PySem.HandSPX FoX
/-- the text of such an __init__ -/
def xB (msg : Str) (a1 a2 a3 a4 a5 a6 q1 q2 q3 q4 q5 q6 q7 q8 : Pos) (j : Nat) : List Stmt :=
  [.Expr (.Call (.Attribute (.Call (.Name "super" a1) [] [] a2) "__init__" a3) [.Constant (.str msg) j a4] [] a5) a6, .Assign [.Attribute (.Name "self" q1) (Str.ofString "number") q2] (.Name (Str.ofString "number") q3) q4, .Assign [.Attribute (.Name "self" q5) (Str.ofString "other") q6] (.Name (Str.ofString "other") q7) q8]
theorem two_sz (v w : Value) : [v, w].length ≤ sizeLine := by
  rw [sizeLine_eq]
  exact (by decide : 2 ≤ 16777216)
def xS : Scope := { kind := .function, names := [(Str.ofString "self", .local), ((Str.ofString "number"), .local), ((Str.ofString "other"), .local), (Str.ofString "__class__", .free), (Str.ofString "super", .globalImplicit)], isGenerator := false, isCoroutine := false, more := [] }
def xA (p1 p2 p3 : Pos) : Arguments := { posonlyargs := [], args := [{ arg := "self", annotation := none, pos := p1 }, { arg := (Str.ofString "number"), annotation := none, pos := p2 }, { arg := (Str.ofString "other"), annotation := none, pos := p3 }], vararg := none, kwonlyargs := [], kw_defaults := [], kwarg := none, defaults := [] }
/-- what the written part says of the class at C and its __init__ at fI -/
structure XTxt (P : Program) (K : Frag) (mg : Str → Option Value) (C fI : Addr) : Prop where
  cls : ∃ nm q N bs bm sn sub ab col dd k0 k1 k2 k3 k5, K.lookup C = some (excClassObj nm q C N bs bm true sn sub ab col dd k0 k1 k2 k3 k5 "ValueError.__new__") ∧ refsVE bm = true
  sa : findIn K (.ref C) "__setattr__" = some (some (.builtin "object.__setattr__"))
  ga : findIn K (.ref C) "__getattribute__" = some (some (.builtin "BaseException.__getattribute__"))
  gg : findIn K (.ref C) "__getattr__" = some none
  noP : findIn K (.ref C) (Str.ofString "number") = some none
  noN : findIn K (.ref C) (Str.ofString "other") = some none
  iC : findIn K (.ref C) "__init__" = some (some (.ref fI))
  tC : typeIn K (.ref fI) = some (.type "function")
  kC : keepIn K (.ref C) = true
  exC : subIn K (.ref C) (.type "BaseException") = some true
  tyC : typeIn K (.ref C) = some (.type "type")
  hdC : hasDictIn K C = true
  sup : ks_superIn K C C "__init__" = some (some (.builtin "ValueError.__init__"))
  tp : nsIn K cStatics "thirdparty.any" = some none
  zs : mg "super" = none
  ve : subIn K (.ref C) (.type "ValueError") = some true
  mr : mroIn K C (.ref C) = some true
  top : (P.main.scope.names.lookup ("super" : Str)).isSome = false
  fn : ∃ (qual msg : Str) (oc : Value) (od : Option Addr) (doc pm kV : Value) (an : Option Addr) (cc cda : Addr) (ct : Value) (osl : Array (Option Value)) (p1 p2 p3 a1 a2 a3 a4 a5 a6 q1 q2 q3 q4 q5 q6 q7 q8 : Pos) (j : Nat) (ccl cl : Value) (cdd cld : Option Addr) (vs : Array Value) (ccs csl : Array (Option Value)) (file : Str) (tf : Tok),
    K.lookup fI = some ⟨oc, od, .func (ksFn "__init__" qual (xA p1 p2 p3) (xB msg a1 a2 a3 a4 a5 a6 q1 q2 q3 q4 q5 q6 q7 q8 j) xS .none kV doc pm an (.ref cda) ct cc), osl⟩ ∧ codeIn K (.ref cda) qual = true ∧
    K.lookup cda = some ⟨ccl, cdd, .fields vs, ccs⟩ ∧ vs[2]? = some (.str file tf) ∧ ((P.main.file : Str) == file) = true ∧ (a3.endLine == a5.line) = true ∧ K.lookup cc = some ⟨cl, cld, .cell (some (.ref C)), csl⟩
theorem xcel : ∀ y ∈ xS.names, y.2 ≠ .cell := by decide
/-- the call of super's method, its tree -/
theorem x_tree (msg : Str) (a1 a2 a3 a4 a5 : Pos) (j : Nat) (env : Env) (hl : (a3.endLine == a5.line) = true) : eval (.Call (.Attribute (.Call (.Name "super" a1) [] [] a2) "__init__" a3) [.Constant (.str msg) j a4] [] a5) env = (do
      let ov ← attributeBase (.Call (.Name "super" a1) [] [] a2) "__init__" env (eval (.Call (.Name "super" a1) [] [] a2) env)
      standAt a3.atName
      let (f, first) ← holding [ov] (getMethod ov "__init__" (do return (← importBound (.Call (.Name "super" a1) [] [] a2) env).getD true))
      callWith a5 f first (backTo a5 (starEach [.Constant (.str msg) j a4] env)) []) := by
  rw [arm_eval_Call]
  unfold methodCall methodCallPos
  simp only [hl, Bool.or_true, if_true]
  rfl
/-- what __init__ leaves of a fresh error at x -/
structure XEnd (h h' : Heap) (x C dx : Addr) (v1 v2 : Value) : Prop where
  keep : ∀ b o, b ≠ x → h.get? b = some o → h'.get? b = some o
  obj : ∃ t1 : Addr, h'.get? x = some { cls := .ref C, dict := some dx, data := .fields #[.ref t1, .none, .none, .none, .bool false, .none] }
  dbig : h.objs.size ≤ dx
  dne : dx ≠ x
  ns : h'.Ns1 dx (fun y => if y = (Str.ofString "other") then some v2 else (if y = (Str.ofString "number") then some v1 else none))
section
variable {prog : Program} {w : World} {A : Around} {E : Value → Shared → Prop} {R : Result → Shared → Prop} {s : Shared} {K : Frag} {mg : Str → Option Value} {C fI : Addr}
theorem x_init (T : XTxt prog K mg C fI) {x t0 : Addr} {v1 v2 : Value} (X : K.In s.heap) (hg : s.heap.Ns mainGlobals mg) (hbl : ∃ mb, s.heap.Ns builtinsNs mb ∧ ∀ y : Str, y ≠ "__name__" → mb y = bootBuiltins y) (hlim : s.heap.NoLimit)
    (hx : s.heap.get? x = some (HandSPX.excO C t0)) (hnx : K.lookup x = none) (hroom : A.depth < recursionLimit) (hq : ∀ h' tk dx, XEnd s.heap h' x C dx v1 v2 → R (.ok (.ret .none)) { s with heap := h', toks := tk }) :
    codeAny (model prog w) A (.call (.ref fI) ⟨[.ref x, v1, v2], []⟩) R s := by
  obtain ⟨qual, msg, oc, od, doc, pm, kV, an, cc, cda, ct, osl, p1, p2, p3, a1, a2, a3, a4, a5, a6, q1, q2, q3, q4, q5, q6, q7, q8, j, ccl, cl, cdd, cld, vs, ccs, csl, file, tf, ho, hcd, hcode, hvs, hfile, hline, hcell⟩ := T.fn
  obtain ⟨nm, q, N, bs, bm, sn, sub, ab, col, dd, k0, k1, k2, k3, k5, hC, hbm⟩ := T.cls
  have hcl : clsIn K C = some { name := nm, bases := bs, mro := .ref C :: bm, ns := N, qualname := q, hasDict := true, slotNames := sn, subclasses := sub, abstract := ab, collection := col, hasDel := false } := by unfold clsIn; rw [hC] <;> rfl
  obtain ⟨hp, g, d, tk, os⟩ := s
  refine ks_codeAny_call_defAt (fd := ksFn "__init__" qual (xA p1 p2 p3) (xB msg a1 a2 a3 a4 a5 a6 q1 q2 q3 q4 q5 q6 q7 q8 j) xS .none kV doc pm an (.ref cda) ct cc) (body := xB msg a1 a2 a3 a4 a5 a6 q1 q2 q3 q4 q5 q6 q7 q8 j) (binds := [(Str.ofString "self", .ref x), ((Str.ofString "number"), v1), ((Str.ofString "other"), v2)]) hroom (X _ _ ho) rfl hlim (codeRec_of X hcd) rfl (BindsTo.of_eq rfl) xcel ?_ (fun h₁ hns k => ?_) rfl rfl rfl
  · intro y hy
    rcases List.mem_cons.mp hy with rfl | hy
    · exact rfl
    · rcases List.mem_cons.mp hy with rfl | hy
      · exact rfl
      · rcases List.mem_cons.mp hy with rfl | hy
        · exact rfl
        · cases hy
  have X₁ : K.In h₁ := X.keeps k
  have hx₁ : h₁.get? x = some (HandSPX.excO C t0) := k _ _ hx
  have I₁ : InstAt h₁ x (HandSPX.excO C t0) C none := ⟨hx₁, rfl, rfl, trivial⟩
  have vself : (fun y : Str => List.lookup y (List.reverse [((Str.ofString "self"), Value.ref x), ((Str.ofString "number"), v1), ((Str.ofString "other"), v2)])) (Str.ofString "self") = some (.ref x) := by
    have e1 : ((Str.ofString "self") == (Str.ofString "number")) = false := by decide +kernel
    have e2 : ((Str.ofString "self") == (Str.ofString "other")) = false := by decide +kernel
    simp [List.lookup, e1, e2]
  have vfld : (fun y : Str => List.lookup y (List.reverse [((Str.ofString "self"), Value.ref x), ((Str.ofString "number"), v1), ((Str.ofString "other"), v2)])) (Str.ofString "number") = some v1 := by
    have e2 : ((Str.ofString "number") == (Str.ofString "other")) = false := by decide +kernel
    simp [List.lookup, e2]
  have vfl2 : (fun y : Str => List.lookup y (List.reverse [((Str.ofString "self"), Value.ref x), ((Str.ofString "number"), v1), ((Str.ofString "other"), v2)])) (Str.ofString "other") = some v2 := by
    simp [List.lookup]
  obtain ⟨mb, hb1, hb2⟩ := hbl
  -- super().__init__(text)
  refine ks_wpAt_execs_cons (ks_wpAt_Expr_any (ks_wpAt_MethodCall ?_ (x_tree msg a1 a2 a3 a4 a5 j _ hline)) rfl rfl)
  refine ks_wpAt_super_base (f := fI) (fd := ksFn "__init__" qual (xA p1 p2 p3) (xB msg a1 a2 a3 a4 a5 a6 q1 q2 q3 q4 q5 q6 q7 q8 j) xS .none kV doc pm an (.ref cda) ct cc) (ar := { arg := "self", annotation := none, pos := p1 }) rfl rfl rfl rfl (X₁ _ _ ho) rfl rfl rfl (X₁ _ _ hcode) rfl hvs hfile T.top ?_
  refine ks_loadName_global rfl rfl (loadGlobal_builtin (hg.keeps k) T.zs (hb1.keeps k) ((hb2 _ (by decide +kernel)).trans (by decide +kernel)) ⟨rfl, ?_⟩)
  refine wpAny_loadName_free rfl rfl rfl ⟨_, X₁ _ _ hcell, rfl⟩ ?_
  refine wpAny_loadName_local rfl rfl hns vself ?_
  obtain ⟨oD, hD1, hD2⟩ : ∃ oD, h₁.get? C = some oD ∧ oD.data = .cls { name := nm, bases := bs, mro := .ref C :: bm, ns := N, qualname := q, hasDict := true, slotNames := sn, subclasses := sub, abstract := ab, collection := col, hasDel := false } := ⟨_, X₁ _ _ hC, rfl⟩
  refine ks_wpAny_isType_cls hD1 hD2 ⟨rfl, ?_⟩
  refine ks_wpAny_call_super hD1 hD2 hx₁ rfl (fun c e => by cases e) (looks_mroIn X₁ T.mr) (fun h₂ e₂ k₂ => ?_)
  have X₂ : K.In h₂ := X₁.keeps k₂
  have hx₂ : h₂.get? x = some (HandSPX.excO C t0) := k₂ _ _ hx₁
  have I₂ : InstAt h₂ x (HandSPX.excO C t0) C none := ⟨hx₂, rfl, rfl, trivial⟩
  have hsup := T.sup
  unfold ks_superIn at hsup
  rw [hcl] at hsup
  have hmro : Looks (model prog w) h₂ (mroOf (.ref C)) (.ref C :: bm) := (looks_clsIn X₂ hcl).andThen .now
  refine kxs_getMethod kxs_ValueError e₂ (looks_opaque X₂ T.tp) hmro rfl X₂ hsup (I₂.type.andThen (looks_subIn X₂ T.ve)) (ks_ne X₂ I₂ hcl) rfl ?_
  -- the wrapper called
  have hk₃ : ∀ b o, h₂.get? b = some o → (h₂.push (kxs_mw "ValueError.__init__" x)).get? b = some o := fun b o e => Heap.get?_push_of_some _ e
  have hu₃ : (h₂.push (kxs_mw "ValueError.__init__" x)).get? h₂.objs.size = some (kxs_mw "ValueError.__init__" x) := Heap.get?_push_at rfl rfl
  refine kxs_callWith (i := "ValueError.__init__") (x := x) rfl (evalArgs_plain (Calls.spliced_cons (Calls.Constant_str (pos := a4) (k := j) (Calls.spliced_nil ⟨hu₃, ?_⟩))))
  refine mw_call (X₂.keeps hk₃ _ _ hC) (hk₃ _ _ hx₂) hu₃ (one_sz _) (fun h₄ t1 k₄ hx₄ => ?_)
  have kall : ∀ b o, b ≠ x → hp.get? b = some o → h₄.get? b = some o := fun b o hb e => k₄ b o hb (hk₃ b o (k₂ b o (k b o e)))
  have xC : x ≠ C := ks_ne X₂ I₂ hcl
  have X₄ : K.In h₄ := fun b o e => kall b o (fun z => by rw [z, hnx] at e; cases e) (X b o e)
  have hL : hp.objs.size ≠ x := Nat.ne_of_gt (Heap.lt_size hx)
  have hns₄ : h₄.Ns hp.objs.size (fun y => List.lookup y (List.reverse [((Str.ofString "self"), Value.ref x), ((Str.ofString "number"), v1), ((Str.ofString "other"), v2)])) := by
    obtain ⟨oL, es, ep, hoL, r⟩ := hns
    exact ⟨oL, es, ep, k₄ _ _ hL (hk₃ _ _ (k₂ _ _ hoL)), r⟩
  -- self.field = field
  refine wpAt_of_wpAny ?_
  refine wpAny_execs_cons (plainObj_wpAny_Assign_Attribute ?_)
  refine wpAny_Name (wpAny_loadName_local rfl rfl hns₄ vfld (wpAny_Name (wpAny_loadName_local rfl rfl hns₄ vself ?_) (by decide))) (by decide)
  refine set_plain X₄ (ox := HandSPX.excO C t1) (od := none) ⟨hx₄, rfl, rfl, trivial⟩ T.sa ?_
  refine exc_osa X₄ hx₄ hcl (show refsVE (.ref C :: bm) = true from hbm) rfl T.noP (fun h₅ tk₅ dx k₅ dn dne hx₅ hn₅ => ?_)
  -- self.number = number
  have z1 : hp.objs.size < h₄.objs.size := hns₄.lt
  have X₅ : K.In h₅ := fun b o e => k₅ b o (fun z => by rw [z, hnx] at e; cases e) (X₄ b o e)
  have hns₅ : h₅.Ns hp.objs.size (fun y : Str => List.lookup y (List.reverse [((Str.ofString "self"), Value.ref x), ((Str.ofString "number"), v1), ((Str.ofString "other"), v2)])) := by
    obtain ⟨oL, es, ep, hoL, r⟩ := hns₄
    exact ⟨oL, es, ep, k₅ _ _ hL hoL, r⟩
  have hw : Within (fun y => if y = (Str.ofString "number") then some v1 else none) [(Str.ofString "number")] := fun y hy => by
    by_cases hp : y = (Str.ofString "number")
    · simp [hp]
    · exact absurd (by simp [hp]) hy
  refine wpAny_execs_cons (plainObj_wpAny_Assign_Attribute ?_)
  refine wpAny_Name (wpAny_loadName_local rfl rfl hns₅ vfl2 (wpAny_Name (wpAny_loadName_local rfl rfl hns₅ vself ?_) (by decide))) (by decide)
  obtain ⟨oD, esD, epD, hoD, hdD, hcD⟩ := hn₅.count hw
  refine set_plain X₅ (ox := _) (od := some oD) ⟨hx₅, rfl, rfl, hoD⟩ T.sa ?_
  refine PySem.OEX.osa_old X₅ hx₅ hn₅ hw (by decide) hcl (show refsVE (.ref C :: bm) = true from hbm) rfl T.noN (fun h₆ tk₆ k₆ hn₆ => ?_)
  have lt : ∀ {b o}, hp.get? b = some o → b ≠ dx := fun {b o} e => Nat.ne_of_lt (Nat.lt_of_lt_of_le (Nat.lt_trans (Heap.lt_size e) z1) dn)
  refine wpAny_execs_nil (hq h₆ tk₆ dx ⟨fun b o hb e => k₆ b o (lt e) (k₅ b o hb (kall b o hb e)), ⟨t1, k₆ _ _ dne.symm hx₅⟩, ?_, dne, hn₆⟩)
  exact Nat.le_of_lt (Nat.lt_of_lt_of_le z1 dn)
/-- a made error -/
structure XMade (h h' : Heap) (e C d : Addr) (v1 v2 : Value) : Prop where
  keep : ∀ b o, h.get? b = some o → h'.get? b = some o
  new : h.objs.size ≤ e
  obj : ∃ oe vs, h'.get? e = some oe ∧ oe.cls = .ref C ∧ oe.dict = some d ∧ oe.data = .fields vs ∧ vs[1]? = some .none ∧ vs[2]? = some .none
  dbig : h.objs.size ≤ d
  dne : d ≠ e
  ns : h'.Ns1 d (fun y => if y = (Str.ofString "other") then some v2 else (if y = (Str.ofString "number") then some v1 else none))
theorem x_made (T : XTxt prog K mg C fI) {v1 v2 : Value} (X : K.In s.heap) (hg : s.heap.Ns mainGlobals mg) (hbl : ∃ mb, s.heap.Ns builtinsNs mb ∧ ∀ y : Str, y ≠ "__name__" → mb y = bootBuiltins y) (hlim : s.heap.NoLimit) (hroom : A.depth + 1 < recursionLimit)
    (hq : ∀ h' tk e d, XMade s.heap h' e C d v1 v2 → R (.ok (.ret (.ref e))) { s with heap := h', toks := tk }) : codeAny (model prog w) A (.call (.ref C) ⟨[v1, v2], []⟩) R s := by
  obtain ⟨nm, q, N, bs, bm, sn, sub, ab, col, dd, k0, k1, k2, k3, k5, hC, hbm⟩ := T.cls
  obtain ⟨hp, g, dr, tk, os⟩ := s
  have k : ∀ b o, hp.get? b = some o → ((hp.push (kdv_tup [v1, v2])).push (HandSPX.excO C hp.objs.size)).get? b = some o := fun b o e => Heap.get?_push_of_some _ (Heap.get?_push_of_some _ e)
  have hget : ((hp.push (kdv_tup [v1, v2])).push (HandSPX.excO C hp.objs.size)).get? (hp.objs.size + 1) = some (HandSPX.excO C hp.objs.size) := by heap_get
  have hnx : K.lookup (hp.objs.size + 1) = none := by
    cases e : K.lookup (hp.objs.size + 1) with
    | none => rfl
    | some o => exact absurd (Nat.lt_of_succ_lt (Heap.lt_size (X _ _ e))) (Nat.lt_irrefl _)
  refine call_own F.excBase_ValueError (fun Y => refsVE_contains Y bm hbm) (X _ _ hC) (looks_findIn X T.iC) (fun self => bind_fn X self T.tC) (two_sz v1 v2) ?_
  obtain ⟨mb, hb1, hb2⟩ := hbl
  refine x_init (s := ⟨(hp.push (kdv_tup [v1, v2])).push (HandSPX.excO C hp.objs.size), g, dr, tk, os⟩) T (X.keeps k) (hg.keeps k) ⟨mb, hb1.keeps k, hb2⟩ (hlim.keeps k) hget hnx ?_ fun h' tk' dx ⟨k', ⟨t1, hx⟩, dn, dne, hns⟩ => ?_
  · show A.depth + 1 < recursionLimit
    exact hroom
  · have old : ∀ b o, hp.get? b = some o → h'.get? b = some o := fun b o e => k' b o (Nat.ne_of_lt (Nat.lt_succ_of_lt (Heap.lt_size e))) (k b o e)
    have z : hp.objs.size + 1 + 1 ≤ dx := by
      first
        | (simpa only [Heap.size_push] using dn)
        | exact dn
        | (have q := dn; rw [Heap.size_push, Heap.size_push] at q; exact q)
    exact ⟨rfl, hq h' tk' (hp.objs.size + 1) dx ⟨old, Nat.le_succ _, ⟨_, _, hx, rfl, rfl, rfl, rfl, rfl⟩, Nat.le_trans (Nat.le_trans (Nat.le_succ _) (Nat.le_succ _)) z, dne, hns⟩⟩
end
end FoX_ov
namespace L2
open PySem PySem.Spec PyProof.Rows
theorem relO_ov {v1 v2 : V} {v1' v2' : Value} (r1 : RelV v1 v1') (r2 : RelV v2 v2') (f : Str) : RelO (List.lookup f [((Str.ofString "other"), v2), ((Str.ofString "number"), v1)]) (if f = (Str.ofString "other") then some v2' else (if f = (Str.ofString "number") then some v1' else none)) := by
  by_cases hw : f = (Str.ofString "other")
  · subst hw
    rw [if_pos rfl]
    have q : List.lookup (Str.ofString "other") [((Str.ofString "other"), v2), ((Str.ofString "number"), v1)] = some v2 := by simp [List.lookup]
    rw [q]
    exact r2
  · rw [if_neg hw]
    have qw : (f == (Str.ofString "other")) = false := by simpa using hw
    by_cases hp : f = (Str.ofString "number")
    · subst hp
      rw [if_pos rfl]
      have q : List.lookup (Str.ofString "number") [((Str.ofString "other"), v2), ((Str.ofString "number"), v1)] = some v1 := by simp [List.lookup, qw]
      rw [q]
      exact r1
    · rw [if_neg hp]
      have qp : (f == (Str.ofString "number")) = false := by simpa using hp
      have q2 : List.lookup f [((Str.ofString "other"), v2), ((Str.ofString "number"), v1)] = none := by simp [List.lookup, qw, qp]
      rw [q2]
      trivial
section
variable {X : Cx} {C fI : Addr} {nm : Str}
/-- Name(e) -/
def tMkX_ov (C : Addr) (ta : TA) : St → Hp → XK → Prop := fun σ H Q => ta σ H fun vs H1 => ∃ v1 v2, vs = [v1, v2] ∧ ∀ d, H1 d = none → Q (.ref C) (some d) (upd H1 d (.xd [((Str.ofString "other"), v2), ((Str.ofString "number"), v1)]))
theorem pmkN_ov {a b : Expr} {ta : TA} {p pos : Pos} {k : Nat} (T : FoX_ov.XTxt X.prog X.K X.mg C fI) (gC : X.mg nm = some (.ref C)) (hr : Room k X.A) (ha : PA X [a, b] ta) (hg : Gl X nm) (hdb : (nm == ("__debug__" : Str)) = false)
    (he : starEach (a :: [b]) X.env = (false, eval a X.env) :: starEach [b] X.env := by rfl) (hpl : (backTo pos (starEach [b] X.env)).any (·.1) = false := by rfl) :
    L2N.PMk X (.Call (.Name nm p) [a, b] [] pos) (tMkX_ov C ta) := by
  intro pins s σ H Q I h
  refine wpAny_Call_Name_kw (ld_glob I hg gC ?_ hdb)
  refine PySem.W.callWith_K (h₀ := X.base) I.ok.mod.kin T.kC (thn (ha.run pos pins s σ H _ I h) fun us s1 hh => ?_) he hpl
  obtain ⟨vs, H1, I1, r1, v1, v2, ev, q1⟩ := hh
  subst ev
  refine ⟨I1.kIn, ?_⟩
  obtain ⟨v1', v2', eu, rv1, rv2⟩ := vals2 r1
  subst eu
  show wpAny _ _ (call (.ref C) [v1', v2']) _ _ _
  have hlim := I1.nolimit
  have hgl : s1.heap.Ns mainGlobals X.mg := I1.mod.glob.keeps I1.bk
  obtain ⟨mb, hb1, hb2⟩ := I1.mod.blt
  have hbl : ∃ mb, s1.heap.Ns builtinsNs mb ∧ ∀ y : Str, y ≠ "__name__" → mb y = bootBuiltins y := ⟨mb, hb1.keeps I1.bk, hb2⟩
  obtain ⟨hp, g, dr, tk, os⟩ := s1
  refine wpAny_call (FoX_ov.x_made T I1.kIn hgl hbl hlim (by have := hr.dp; omega) fun h' tk' e d M => ?_)
  show L2N.MkP X pins σ Q (.ref e) ⟨h', g, dr, tk', os⟩
  obtain ⟨oe, fv, hoe, hc, hd, hdat, h1, h2⟩ := M.obj
  have hns := M.ns
  obtain ⟨G', g1, g2⟩ := restrict h' fun b => decide (b ≠ e)
  have gk : ∀ b, b ≠ e → G'.get? b = h'.get? b := fun b hb => g1 b (decide_eq_true hb)
  have ge : G'.get? e = none := g2 e (by simp)
  have old : ∀ b o, hp.get? b = some o → G'.get? b = some o := fun b o q => (gk b (Nat.ne_of_lt (Nat.lt_of_lt_of_le (Heap.lt_size q) M.new))).trans (M.keep b o q)
  have ob : ObjOk X.prog X.w (upd H1 d (.xd [((Str.ofString "other"), v2), ((Str.ofString "number"), v1)])) G' d (.xd [((Str.ofString "other"), v2), ((Str.ofString "number"), v1)]) :=
    ⟨_, hns.at (fun o q => (gk d M.dne).trans q), fun f => relO_ov rv1 rv2 f⟩
  have J : Inv X pins σ (upd H1 d (.xd [((Str.ofString "other"), v2), ((Str.ofString "number"), v1)])) ⟨G', g, dr, tk', os⟩ := I1.laid (t' := tk') old M.dbig ob
  refine ⟨e, oe, fv, ⟨G', g, dr, tk', os⟩, _, .ref C, some d, rfl, J, fun b o q => ?_, ge, hoe, ⟨hc, hd, fun vs e => by rw [hdat] at e; cases e; exact h2⟩, hdat, h1, ?_, rfl, I1.bare, raises_own T.exC T.tyC, q1 d (I1.hok.fresh M.dbig)⟩
  · by_cases hb : b = e
    · have q' : G'.get? b = some o := q
      rw [hb, ge] at q'; cases q'
    · exact (gk b hb).symm.trans q
  · rw [upd_ne (Ne.symm M.dne)]
    exact I1.hok.fresh M.new
theorem pmk_ov {a b : Expr} {ta : TA} {p pos : Pos} {k : Nat} (T : FoX_ov.XTxt X.prog X.K X.mg C fI) (gC : X.mg nm = some (.ref C)) (hr : Room k X.A) (ha : PA X [a, b] ta) (hg : Gl X nm) (hdb : (nm == ("__debug__" : Str)) = false)
    (he : starEach (a :: [b]) X.env = (false, eval a X.env) :: starEach [b] X.env := by rfl) (hpl : (backTo pos (starEach [b] X.env)).any (·.1) = false := by rfl) :
    PMk X (.Call (.Name nm p) [a, b] [] pos) (tMkX_ov C ta) := by
  intro pins s σ H Q I h
  refine wpAny_mono (pmkN_ov T gC hr ha hg hdb he hpl pins s σ H Q I h) (fun u s' z => ?_) fun _ _ x => x
  obtain ⟨e, oe, vs, sI, H', cls, d, r1, r2, r3, r4, r5, r6, r7⟩ := z
  exact ⟨e, oe, vs, sI, H', cls, d, r1, r2, r3, r4, r5, r6.zc, r7⟩
/-- raise Name(e) -/
def tRaiseX_ov (C : Addr) (W : WX) (ta : TA) : TS := fun _ σ H => tMkX_ov C ta σ H fun cls d H' => W cls d σ H'
theorem ps_raise_ov {a b : Expr} {ta : TA} {W : WX} {p pos pos2 : Pos} {k : Nat} (hc : X.calm = true) (T : FoX_ov.XTxt X.prog X.K X.mg C fI) (gC : X.mg nm = some (.ref C)) (hr : Room k X.A) (tk : Takes X W) (ha : PA X [a, b] ta) (hg : Gl X nm := by rfl) (hdb : (nm == ("__debug__" : Str)) = false := by decide)
    (he : starEach (a :: [b]) X.env = (false, eval a X.env) :: starEach [b] X.env := by rfl) (hpl : (backTo pos (starEach [b] X.env)).any (·.1) = false := by rfl) :
    PS X (.Raise (some (.Call (.Name nm p) [a, b] [] pos)) none pos2) (tRaiseX_ov C W ta) := ps_raise hc tk (pmk_ov T gC hr ha hg hdb he hpl)
theorem ps_raiseN_ov {a b : Expr} {ta : TA} {W : WX} {p pos pos2 : Pos} {k : Nat} (hc : X.calm = true) (T : FoX_ov.XTxt X.prog X.K X.mg C fI) (gC : X.mg nm = some (.ref C)) (hr : Room k X.A) (tk : L2N.Takes X W) (ha : PA X [a, b] ta) (hg : Gl X nm := by rfl) (hdb : (nm == ("__debug__" : Str)) = false := by decide)
    (he : starEach (a :: [b]) X.env = (false, eval a X.env) :: starEach [b] X.env := by rfl) (hpl : (backTo pos (starEach [b] X.env)).any (·.1) = false := by rfl) :
    PS X (.Raise (some (.Call (.Name nm p) [a, b] [] pos)) none pos2) (tRaiseX_ov C W ta) := L2N.ps_raise hc tk (pmkN_ov T gC hr ha hg hdb he hpl)
end
/-- e.thing of such a one -/
def tByPv_part (P : Program) (K : PySem.W.Frag) (mg : Str → Option Value) (a : Addr) (cls : Value) (d : Option Addr) (te : TE) : TE := fun σ H Q => te σ H fun x H1 => x = .ref a ∧ ∃ C fI : Addr, FoX_ov.XTxt P K mg C fI ∧ cls = .ref C ∧ ∃ (dd : Addr) (v1 v2 : V), d = some dd ∧ H1 dd = some (.xd [((Str.ofString "other"), v2), ((Str.ofString "number"), v1)]) ∧ Q v1 H1
theorem pe_byPv_n1 {X : Cx} {a : Addr} {oe : Obj} {cls : Value} {d : Option Addr} {e : Expr} {te : TE} {pos : Pos} (hp : (a, oe) ∈ X.pn) (hz : Zc cls d oe) (hf : ∃ vs, oe.data = .fields vs) (he : PE X e te)
    (hb : attributeBase e (Str.ofString "number") X.env (eval e X.env) = eval e X.env := by rfl) :
    PE X (.Attribute e (Str.ofString "number") pos) (tByPv_part X.prog X.K X.mg a cls d te) := by
  refine ⟨fun pins s σ H Q I h => ?_⟩
  refine attr_of hb (thn (he.run pins s σ H _ I h) fun u s1 hh => ?_)
  obtain ⟨x, H1, I1, rx, ex, C, fI, T, ec, dd, v1, v2, ed, ea, q⟩ := hh
  subst ex
  obtain rfl : u = Value.ref a := rx
  subst ec
  subst ed
  obtain ⟨ha, _⟩ := I1.pin (a, oe) (List.mem_append_left _ hp)
  obtain ⟨vs, hd⟩ := hf
  have hx : ObjOk X.prog X.w H1 s1.heap dd (.xd [((Str.ofString "other"), v2), ((Str.ofString "number"), v1)]) := I1.hok dd _ ea
  obtain ⟨mA, hns, hr⟩ := hx
  obtain ⟨od, ho, hl⟩ := lookIn_ns hns
  have l : List.lookup (Str.ofString "number") [((Str.ofString "other"), v2), ((Str.ofString "number"), v1)] = some v1 := by simp [List.lookup, (by decide +kernel : ((Str.ofString "number") == (Str.ofString "other")) = false)]
  obtain ⟨u, hu, ru⟩ := RelO.some_of (v := v1) (o := mA (Str.ofString "number")) (by rw [← l]; exact hr (Str.ofString "number"))
  have J : PySem.W.InstAt s1.heap a oe C (some od) := ⟨ha, hz.1, by unfold PySem.W.notCls; rw [hd] <;> rfl, by rw [hz.2]; exact ho⟩
  exact HandSPX.exc_get I1.kIn J T.ga T.gg T.exC (PySem.W.findObj_own T.hdC T.noP rfl (by rw [hl, hu])) (handed_of ru) ⟨v1, H1, I1.tok _, ru, q⟩
/-- e.thing of such a one -/
def tByPv_number (P : Program) (K : PySem.W.Frag) (mg : Str → Option Value) (a : Addr) (cls : Value) (d : Option Addr) (te : TE) : TE := fun σ H Q => te σ H fun x H1 => x = .ref a ∧ ∃ C fI : Addr, FoX_ov.XTxt P K mg C fI ∧ cls = .ref C ∧ ∃ (dd : Addr) (v1 v2 : V), d = some dd ∧ H1 dd = some (.xd [((Str.ofString "other"), v2), ((Str.ofString "number"), v1)]) ∧ Q v2 H1
theorem pe_byPv_n2 {X : Cx} {a : Addr} {oe : Obj} {cls : Value} {d : Option Addr} {e : Expr} {te : TE} {pos : Pos} (hp : (a, oe) ∈ X.pn) (hz : Zc cls d oe) (hf : ∃ vs, oe.data = .fields vs) (he : PE X e te)
    (hb : attributeBase e (Str.ofString "other") X.env (eval e X.env) = eval e X.env := by rfl) :
    PE X (.Attribute e (Str.ofString "other") pos) (tByPv_number X.prog X.K X.mg a cls d te) := by
  refine ⟨fun pins s σ H Q I h => ?_⟩
  refine attr_of hb (thn (he.run pins s σ H _ I h) fun u s1 hh => ?_)
  obtain ⟨x, H1, I1, rx, ex, C, fI, T, ec, dd, v1, v2, ed, ea, q⟩ := hh
  subst ex
  obtain rfl : u = Value.ref a := rx
  subst ec
  subst ed
  obtain ⟨ha, _⟩ := I1.pin (a, oe) (List.mem_append_left _ hp)
  obtain ⟨vs, hd⟩ := hf
  have hx : ObjOk X.prog X.w H1 s1.heap dd (.xd [((Str.ofString "other"), v2), ((Str.ofString "number"), v1)]) := I1.hok dd _ ea
  obtain ⟨mA, hns, hr⟩ := hx
  obtain ⟨od, ho, hl⟩ := lookIn_ns hns
  have l : List.lookup (Str.ofString "other") [((Str.ofString "other"), v2), ((Str.ofString "number"), v1)] = some v2 := by simp [List.lookup, (by decide +kernel : ((Str.ofString "number") == (Str.ofString "other")) = false)]
  obtain ⟨u, hu, ru⟩ := RelO.some_of (v := v2) (o := mA (Str.ofString "other")) (by rw [← l]; exact hr (Str.ofString "other"))
  have J : PySem.W.InstAt s1.heap a oe C (some od) := ⟨ha, hz.1, by unfold PySem.W.notCls; rw [hd] <;> rfl, by rw [hz.2]; exact ho⟩
  exact HandSPX.exc_get I1.kIn J T.ga T.gg T.exC (PySem.W.findObj_own T.hdC T.noN rfl (by rw [hl, hu])) (handed_of ru) ⟨v2, H1, I1.tok _, ru, q⟩
end L2
set_option Elab.async false
set_option linter.all false
set_option maxRecDepth 100000
set_option maxHeartbeats 2000000
/-! a[b] by an own __getitem__; setdefault of a dict with tuples as keys -/
namespace L2
open PySem PySem.Spec PyProof.Rows
structure OwnIx (K : PySem.W.Frag) (C f : Addr) : Prop where
  at_ : PySem.W.findIn K (.ref C) "__getitem__" = some (some (.ref f))
  fi : PySem.W.fnIn K f = true
  fn : PySem.W.isFn K (.ref f) = true
def rOwnIx (C : Addr) (sp : Sp) (E : XK) : R2 := fun x y H Q => ∃ a dx fs, x = .ref a ∧ H a = some (.ins C dx fs) ∧ sp [x, y] H Q E
section
variable {X : Cx} {CX : CXT} {k : Nat} {f C : Addr} {fd : FuncData} {ps : List Str} {sp : Sp} {E : XK} {a b : Expr} {ta tb : TE} {pos : Pos}
theorem run_fn1 {pins : List (Addr × Obj)} {σ : St} {H : Hp} {s : Shared} {Q : VK} {us : List Value} {vs : List V} (F : FnOk X.prog X.w X.K X.mg X.base CX k f fd ps sp) (hr : Room (k + 1) X.A) (hb : Binds X.K fd ps []) (hx : Passes CX X E)
    (I : Inv X pins σ H s) (r : Vals vs us) (h : sp vs H Q E) : wpAny (model X.prog X.w) X.A.in1 (call (.ref f) us) (EP X pins σ Q) X.xe s := by
  have hl : us.length = ps.length := by rw [← r.length]; exact F.len _ _ _ _ h
  refine wpAny_call (codeAny_mono (F.run X.A.in1 X.stack s H ⟨us, []⟩ us vs Q E hr.in1 I.env0.in1 (by have := hb s us I.kIn (by rw [List.append_nil]; exact hl); rwa [List.append_nil] at this) r h) fun r s' hq => ?_)
  cases r with
  | error e => exact hx pins σ H s e s' I hq
  | ok fl =>
    cases fl with
    | ret u => exact I.after hq
    | next => exact False.elim hq
    | brk => exact False.elim hq
    | cont => exact False.elim hq
theorem pe_ixOwn (O : OwnIx X.K C f) (F : FnOk X.prog X.w X.K X.mg X.base CX k f fd ps sp) (hr : Room (k + 1) X.A) (hb : Binds X.K fd ps []) (hx : Passes CX X E) (ha : PE X a ta) (hb' : PE X b tb)
    (hs : ∀ x i, subscripted b true (.ref x) i = runValue (.builtin "lifetime.subscript" ⟨[.ref x, i], []⟩) := by intro x i; with_unfolding_all rfl) : PE X (.Subscript a b pos) (tOp (rOwnIx C sp E) ta tb) := by
  refine ⟨fun pins s σ H Q I h => ?_⟩
  refine Subscript_ (binT ha hb' I h fun v u s2 x y H2 I2 rx ry q => ?_)
  obtain ⟨p, dx, fs, rfl, hp, q⟩ := q
  obtain rfl : v = Value.ref p := rx
  obtain ⟨mA, J, _⟩ := ins_get I2.hok hp
  obtain ⟨od, J, _⟩ := J.look
  obtain ⟨m, hF⟩ := I2.fr
  exact PySem.W.sub_K hF I2.ok.mod.kin J O.at_ O.fi O.fn (run_fn1 (us := [.ref p, u]) (vs := [.ref p, y]) F hr hb hx I2 (.cons rfl (.cons ry .nil)) q) (hs p u)
end
section
variable {X : Cx} {pins : List (Addr × Obj)} {σ : St} {H : Hp} {s : Shared} {a b : Addr} {r : Value} {d : V} {A : Around} {E : Value → Shared → Prop}
theorem d_setdT {kvs : List (List Key × V)} {k : List Key} {Q : Value → Shared → Prop} (hu : A.units + 1 < cLine) (I : Inv X pins σ H s) (e : H a = some (.dT kvs)) (eb : H b = some (.tup (k.map kV))) (rd : RelV d r) (hl : kvs.length < sizeLine)
    (h1 : ∀ v, valV kvs k = some v → ∀ (w' : Value) (s' : Shared), Inv X pins σ H s' → RelV v w' → Q w' s') (h2 : valV kvs k = none → ∀ (w' : Value) (s' : Shared), Inv X pins σ (upd H a (.dT (putK kvs k d))) s' → RelV d w' → Q w' s') :
    wpAny (model X.prog X.w) A (call (.builtin "dict.setdefault") [.ref a, .ref b, r]) Q E s := by
  obtain ⟨z, hd, xs, rel, dd⟩ := dt_of I.hok e
  have hz : xs.length ≤ sizeLine := by rw [← Paired.length rel]; exact z
  refine call_meetsIn PySem.F.slot_dict_setdefault dd.typeIs PySem.F.entry_dict_setdefault (PySem.F.args_dict_setdefault_3 _ _ _) (meetsH_dict_setdefault (tupleKind (mixKind X.prog X.w)) a b hd r) ⟨tupleKind_room_in1 hu, k, xs, key_of I.hok eb, dd, hz, fun p hp => ?_, fun hn h' dd' hs => ?_⟩
  · have q := rel.val k
    rw [hp] at q
    cases q0 : valV kvs k with
    | none =>
      rw [q0] at q
      exact (show False from q).elim
    | some v0 =>
      rw [q0] at q
      exact h1 v0 q0 _ _ (I.tok _) q
  · have q := rel.val k
    rw [hn] at q
    cases q0 : valV kvs k with
    | some v0 =>
      rw [q0] at q
      exact (show False from q).elim
    | none =>
      have hl2 : (putK kvs k d).length ≤ sizeLine := by
        have := length_putK kvs k d
        omega
      obtain ⟨q, es, ep, hq, g2, g3, g4, _, g5⟩ := dd'
      refine h2 q0 _ _ (d_write I (by rw [e]; exact True.intro) hs ⟨q, hq⟩ ⟨hl2, hd, _, (rel.put k eb rd).keeps fun c ys ec => ?_, q, es, ep, hq, g2, g3, g4, g5⟩) rd
      rw [upd_ne (ne_of ec e (fun z => nomatch z))]
      exact ec
end
/-- d.setdefault(y, z), tuples as keys -/
def tDSetdT (td ty tx : TE) : TE := fun σ H Q => td σ H fun x H1 => ∃ a, x = .ref a ∧ IsD H1 a ∧ ty σ H1 fun y H2 => tx σ H2 fun z H3 => ∃ (kvs : List (List Key × V)) (k : List Key) (b : Addr), H3 a = some (.dT kvs) ∧ y = .ref b ∧ H3 b = some (.tup (k.map kV)) ∧ kvs.length < sizeLine ∧
  (∀ v, valV kvs k = some v → Q v H3) ∧ (valV kvs k = none → Q z (upd H3 a (.dT (putK kvs k z))))
section
variable {X : Cx} {o e f : Expr} {td ty tx : TE} {apos cpos : Pos}
theorem pe_dsetdT (hu : X.A.units + 1 < cLine) (ho : PE X o td) (he : PE X e ty) (hf : PE X f tx) (m : M2 X o "setdefault" apos e f cpos) : PE X (.Call (.Attribute o "setdefault" apos) [e, f] [] cpos) (tDSetdT td ty tx) := by
  refine ⟨fun pins s σ H Q I h => ?_⟩
  refine wpAny_Call_method m.base m.few m.line PySem.F.plainAttrs_dict PySem.F.slot_dict_setdefault PySem.F.type_dict_setdefault (thn (ho.run pins s σ H _ I h) fun u s1 ⟨x, H1, I1, rx, a, ex, d, q1⟩ => ?_)
  subst ex
  obtain rfl : u = Value.ref a := rx
  obtain ⟨t1, t2, _⟩ := isD_at I1 d
  refine ⟨t1, t2, ?_⟩
  rw [m.trees]
  refine Calls.callWith_builtin rfl (Calls.evalArgs_plain (Calls.spliced_cons (thn (he.run pins s1 σ H1 _ I1 q1) fun iv s2 ⟨y, H2, I2, ry, q2⟩ =>
    Calls.spliced_cons (thn (hf.run pins s2 σ H2 _ I2 q2) fun fv s3 ⟨z, H3, I3, rz, kvs, k, b, ea, ey, eb, hl, q3, q4⟩ => Calls.spliced_nil ?_))))
  subst ey
  obtain rfl : iv = Value.ref b := ry
  exact d_setdT hu I3 ea eb rz hl (fun v hv w' s4 I4 rw' => ⟨v, _, I4, rw', q3 v hv⟩) fun hn w' s4 I4 rw' => ⟨z, _, I4, rw', q4 hn⟩
end
end L2
set_option Elab.async false
set_option linter.all false
set_option maxRecDepth 100000
set_option maxHeartbeats 2000000
/-! a[b] = c by an own __setitem__ -/
namespace L2
open PySem PySem.Spec PyProof.Rows
structure OwnSet (K : PySem.W.Frag) (C f : Addr) : Prop where
  ns : PySem.W.noSeq K C = true
  at_ : PySem.W.findIn K (.ref C) "__setitem__" = some (some (.ref f))
  fn : PySem.W.isFn K (.ref f) = true
def rOwnSet (C : Addr) (sp : Sp) (E : XK) : V → V → V → Hp → (Hp → Prop) → Prop := fun o i v H Q => ∃ a dx fs, o = .ref a ∧ H a = some (.ins C dx fs) ∧ sp [o, i, v] H (fun _ H' => Q H') E
section
variable {X : Cx} {CX : CXT} {k : Nat} {f C : Addr} {fd : FuncData} {ps : List Str} {sp : Sp} {E : XK}
theorem set_own (O : OwnSet X.K C f) (F : FnOk X.prog X.w X.K X.mg X.base CX k f fd ps sp) (hr : Room k X.A) (hb : Binds X.K fd ps []) (hx : Passes CX X E) : PSet X (rOwnSet C sp E) := by
  intro pins s σ H o i v ov iv u Q I ro ri rv h
  obtain ⟨a, dx, fs, rfl, ha, q⟩ := h
  obtain rfl : ov = Value.ref a := ro
  obtain ⟨mA, J, _⟩ := ins_get I.hok ha
  obtain ⟨od, J, _⟩ := J.look
  obtain ⟨m, hF⟩ := I.fr
  refine PySem.W.ksp_setItem hF I.ok.mod.kin J O.ns O.at_ O.fn ?_
  refine wpAny_mono (run_fn (us := [.ref a, iv, u]) (vs := [.ref a, i, v]) F hr hb .nil hx I (.cons rfl (.cons ri (.cons rv .nil))) q) (fun r s' z => ?_) fun _ _ z => z
  obtain ⟨z1, H1, I1, rz, qz⟩ := z
  exact ⟨H1, I1, qz⟩
end
end L2
set_option Elab.async false
set_option linter.all false
set_option maxRecDepth 100000
set_option maxHeartbeats 2000000
/-! == of two lists, both ways, each item by what D says -/
namespace FoT
open PySem PySem.Spec PyProof.Rows MeetsSeq MeetsSeq2 MeetsSeq3 SeqRoads2 GQ
open AutoSeq1 (wpAny_loadPart')
section
variable {prog : Program} {w : World} {A : Around} {R : Result → Shared → Prop}
def ListB (prog : Program) (w : World) (A : Around) (E : Value → Shared → Prop) (l b : Addr) (N : Nat) (B : Nat → Bool) (I : Nat → Shared → Prop) : Prop :=
  ∀ i s, I i s → ∃ (items items2 : Array Value) (n n2 : Nat), s.heap.get? l = some { cls := .type "list", data := .seq items n } ∧ s.heap.get? b = some { cls := .type "list", data := .seq items2 n2 } ∧ items.size = N ∧ items2.size = N ∧
    ∀ (h1 : i < items.size) (h2 : i < items2.size), wpAny (model prog w) A.in1 (eqBool items[i] items2[i]) (fun r s' => r = B i ∧ I (i + 1) s') E s
theorem eq_loopB (l b : Addr) (N : Nat) (B : Nat → Bool) (I : Nat → Shared → Prop) (hl : ListB prog w A (fun e s' => R (.error e) s') l b N B I)
    (finT : ∀ s, (∀ j, j < N → B j = true) → I N s → R (.ok (.ret (.bool true))) s) (finF : ∀ i s, i < N → B i = false → I (i + 1) s → R (.ok (.ret (.bool false))) s) (k : Nat) :
    ∀ i : Nat, N - i = k → i ≤ N → (∀ j, j < i → B j = true) → ∀ s, I i s →
      wpAny (model prog w) A.in1 (Builtin.«list.__eq__.loop» ⟨[.ref l, .ref b, rawInt i, rawInt 2], []⟩) (FinOf prog w A R) (fun e s' => R (.error e) s') s := by
  induction k with
  | zero =>
    intro i hk hi hB s h
    obtain ⟨items, items2, n, n2, hl1, hb1, hs1, hs2, _⟩ := hl _ _ h
    have hi' : i = N := by omega
    subst hi'
    have hR : R (.ok (.ret (.bool true))) s := finT s hB h
    obtain ⟨hp, g, d, tk, os⟩ := s
    wp_walk using wpAny_loadPart' hl1, wpAny_loadPart' hb1
    have hi1 : items[((i : Nat) : Int).toNat]? = none := by simp; omega
    have hi2 : items2[((i : Nat) : Int).toNat]? = none := by simp; omega
    rw [hi1, hi2]
    wp_walk using wpAny_loadPart' hl1, wpAny_loadPart' hb1
    show R (.ok (.ret (.bool (items.size == items2.size)))) _
    rw [hs1, hs2]
    simpa using hR
  | succ k ih =>
    intro i hk hi hB s h
    obtain ⟨items, items2, n, n2, hl1, hb1, hs1, hs2, turn⟩ := hl _ _ h
    have hlt : i < items.size := by omega
    have hlt2 : i < items2.size := by omega
    have ht := turn hlt hlt2
    obtain ⟨hp, g, d, tk, os⟩ := s
    wp_walk using wpAny_loadPart' hl1, wpAny_loadPart' hb1
    have hi1 : items[((i : Nat) : Int).toNat]? = some items[i] := by simp [hlt]
    have hi2 : items2[((i : Nat) : Int).toNat]? = some items2[i] := by simp [hlt2]
    have hc : ((i : Int) + 1) = ((i + 1 : Nat) : Int) := by omega
    rw [hi1, hi2]
    refine wpAny_bind (wpAny_mono ht (fun r s2 h2 => ?_) fun _ _ x => x)
    obtain ⟨hr, h2⟩ := h2
    cases r with
    | true =>
      have hB2 : ∀ j, j < i + 1 → B j = true := fun j hj => by
        by_cases hq : j = i
        · rw [hq]; exact hr.symm
        · exact hB j (by omega)
      have hrec := ih (i + 1) (by omega) (by omega) hB2 s2 h2
      obtain ⟨hp2, g2, d2, tk2, os2⟩ := s2
      wp_walk
      rw [hc]
      exact ⟨plainId_quiet plain_eq_loop _, codeAny_builtin entry_eq_loop (by
        rw [Around.under_plainId plain_eq_loop _]
        exact hrec)⟩
    | false =>
      have q := finF i s2 (by omega) hr.symm h2
      obtain ⟨it, it2, m, m2, hl2, hb2, ht1, ht2, _⟩ := hl _ _ h2
      obtain ⟨hp2, g2, d2, tk2, os2⟩ := s2
      wp_walk using wpAny_loadPart' hl2, wpAny_loadPart' hb2
      have hi1 : it[((i : Nat) : Int).toNat]? = some (it[i]'(by omega)) := by simp [ht1]
      have hi2 : it2[((i : Nat) : Int).toNat]? = some (it2[i]'(by omega)) := by simp [ht2]
      rw [hi1, hi2]
      wp_walk
      exact q
theorem list_eqB (l b : Addr) (N : Nat) (B : Nat → Bool) (I : Nat → Shared → Prop) (hl : ListB prog w A (fun e s' => R (.error e) s') l b N B I)
    (finT : ∀ s, (∀ j, j < N → B j = true) → I N s → R (.ok (.ret (.bool true))) s) (finF : ∀ i s, i < N → B i = false → I (i + 1) s → R (.ok (.ret (.bool false))) s) {s : Shared} (h : I 0 s) :
    wpAny (model prog w) A.in1 (Builtin.«list.__eq__» ⟨[.ref l, .ref b], []⟩) (FinOf prog w A R) (fun e s' => R (.error e) s') s := by
  obtain ⟨items, items2, n, n2, hl1, hb1, hs1, hs2, _⟩ := hl _ _ h
  have hrec := eq_loopB (A := A) (R := R) l b N B I hl finT finF _ 0 rfl (Nat.zero_le _) (fun j hj => absurd hj (Nat.not_lt_zero _)) s h
  obtain ⟨hp, g, d, tk, os⟩ := s
  have f3 := AutoSeq1.sub_list_list
  have hne : ¬ (items.size != items2.size) = true := by simp [hs1, hs2]
  wp_walk using wpAny_loadPart' hl1, wpAny_loadPart' hb1
  exact ⟨plainId_quiet plain_eq_loop _, codeAny_builtin entry_eq_loop (by
    rw [Around.under_plainId plain_eq_loop _]
    exact hrec)⟩
theorem list_eqN (l b : Addr) {items items2 : Array Value} {n n2 : Nat} {s : Shared} (hl1 : s.heap.get? l = some { cls := .type "list", data := .seq items n }) (hb1 : s.heap.get? b = some { cls := .type "list", data := .seq items2 n2 }) (hne : items.size ≠ items2.size)
    (fin : R (.ok (.ret (.bool false))) s) :
    wpAny (model prog w) A.in1 (Builtin.«list.__eq__» ⟨[.ref l, .ref b], []⟩) (FinOf prog w A R) (fun e s' => R (.error e) s') s := by
  obtain ⟨hp, g, d, tk, os⟩ := s
  have f3 := AutoSeq1.sub_list_list
  have hne : (items.size != items2.size) = true := by simp [hne]
  wp_walk using wpAny_loadPart' hl1, wpAny_loadPart' hb1
  exact fin
end
section
variable {prog : Program} {w : World} {A : Around} {E : Value → Shared → Prop} {s : Shared}
theorem rc_listB {l b : Addr} {N : Nat} {B : Nat → Bool} {Q : Value → Shared → Prop} (hu : A.units < cLine) (I : Nat → Shared → Prop) (hl : ListB prog w A E l b N B I)
    (finT : ∀ s, (∀ j, j < N → B j = true) → I N s → Q (.bool true) s) (finF : ∀ i s, i < N → B i = false → I (i + 1) s → Q (.bool false) s) (h : I 0 s) : wpAny (model prog w) A (richCompare .Eq (.ref l) (.ref b)) Q E s := by
  obtain ⟨items, items2, n, n2, hl1, hb1, _, _, _⟩ := hl _ _ h
  refine wpAny_richCompare_same_room (op := .Eq) ⟨_, hl1, rfl⟩ ⟨_, hb1, rfl⟩ F.slot_list_eq (call_here F.slot_list_eq ⟨_, hl1, rfl⟩ F.entry_list_eq (F.args_list_eq_2 _ _) ?_) hu
  exact list_eqB (R := wants (fun v s' => v ≠ .notImplemented ∧ Q v s') E) l b N B I hl (fun s' z q => ⟨(fun x => nomatch x), finT s' z q⟩) (fun i s' z z2 q => ⟨(fun x => nomatch x), finF i s' z z2 q⟩) h
theorem rc_listN {l b : Addr} {items items2 : Array Value} {n n2 : Nat} {Q : Value → Shared → Prop} (hu : A.units < cLine) (hl1 : s.heap.get? l = some { cls := .type "list", data := .seq items n }) (hb1 : s.heap.get? b = some { cls := .type "list", data := .seq items2 n2 }) (hne : items.size ≠ items2.size)
    (h : Q (.bool false) s) : wpAny (model prog w) A (richCompare .Eq (.ref l) (.ref b)) Q E s := by
  refine wpAny_richCompare_same_room (op := .Eq) ⟨_, hl1, rfl⟩ ⟨_, hb1, rfl⟩ F.slot_list_eq (call_here F.slot_list_eq ⟨_, hl1, rfl⟩ F.entry_list_eq (F.args_list_eq_2 _ _) ?_) hu
  exact list_eqN (R := wants (fun v s' => v ≠ .notImplemented ∧ Q v s') E) l b hl1 hb1 hne ⟨(fun x => nomatch x), h⟩
end
end FoT
namespace L2
open PySem PySem.Spec PyProof.Rows
/-- xs == ys of lists, item by item by D -/
def rEqL (D : EqvB) : R2 := fun x y H Q => ∃ (a b : Addr) (xs ys : List V), x = .ref a ∧ y = .ref b ∧ H a = some (.lst xs) ∧ H b = some (.lst ys) ∧
  ((xs.length ≠ ys.length ∧ Q (.bl false) H) ∨ ∃ bs : List Bool, xs.length = bs.length ∧ ys.length = bs.length ∧ (∀ (i : Nat) z t b, xs[i]? = some z → ys[i]? = some t → bs[i]? = some b → D z t b H) ∧ ∀ H', Ext H H' → Q (.bl (bs.all id)) H')
section
variable {X : Cx} {n : Nat} {D : EqvB}
theorem rc_L (hD : MonB D) (h : EqB X n D) {A : Around} (sb : Sub X (n + 1) A) {pins : List (Addr × Obj)} {s : Shared} {σ : St} {H : Hp} {a b : Addr} {xs ys : List V} {bs : List Bool} {Q : Value → Shared → Prop} (I : Inv X pins σ H s) (ha : H a = some (.lst xs)) (hb : H b = some (.lst ys))
    (l1 : xs.length = bs.length) (l2 : ys.length = bs.length) (hd : ∀ (i : Nat) z t b, xs[i]? = some z → ys[i]? = some t → bs[i]? = some b → D z t b H) (hQ : ∀ H' s', Inv X pins σ H' s' → Ext H H' → Q (.bool (bs.all id)) s') :
    wpAny (model X.prog X.w) A (richCompare .Eq (.ref a) (.ref b)) Q X.xe s := by
  refine FoT.rc_listB (N := xs.length) (B := fun i => (bs[i]?).getD false) sb.room.units0 (fun _ s' => LoopI X pins σ H s') (fun i s' z => ?_) (fun s' hB z => ?_) (fun i s' hi hB z => ?_) ⟨H, I, Ext.rfl'⟩
  · obtain ⟨H1, I1, e1⟩ := id z
    obtain ⟨_, its, k, r, e⟩ := I1.hok a _ (e1 _ _ ha)
    obtain ⟨_, its2, k2, r2, e2⟩ := I1.hok b _ (e1 _ _ hb)
    refine ⟨its.toArray, its2.toArray, k, k2, e, e2, by rw [List.size_toArray, ← r.length], by rw [List.size_toArray, ← r2.length, l1, l2], fun h1 h2 => ?_⟩
    have h1' : i < its.length := by simpa using h1
    have h2' : i < its2.length := by simpa using h2
    have k1 : i < xs.length := by rw [r.length]; exact h1'
    have k2 : i < ys.length := by rw [r2.length]; exact h2'
    have k3 : i < bs.length := by omega
    obtain ⟨w, hw, rw'⟩ := r.get (List.getElem?_eq_getElem k1)
    obtain ⟨w2, hw2, rw2⟩ := r2.get (List.getElem?_eq_getElem k2)
    have g1 : its[i]? = some its.toArray[i] := by
      rw [List.getElem?_eq_getElem h1']
      simp
    have g2 : its2[i]? = some its2.toArray[i] := by
      rw [List.getElem?_eq_getElem h2']
      simp
    rw [g1] at hw
    rw [g2] at hw2
    rw [Option.some.inj hw, Option.some.inj hw2]
    have eb : (bs[i]?).getD false = bs[i] := by rw [List.getElem?_eq_getElem k3]; rfl
    refine wpAny_mono (h A.in1 pins s' σ H1 _ _ w w2 bs[i] sb.in1 I1 rw' rw2 (hD _ _ _ _ _ e1 (hd i _ _ _ (List.getElem?_eq_getElem k1) (List.getElem?_eq_getElem k2) (List.getElem?_eq_getElem k3)))) (fun t s2 q2 => ?_) fun _ _ x => x
    obtain ⟨rfl, H2, I2, e2⟩ := q2
    exact ⟨eb.symm, H2, I2, e1.trans e2⟩
  · obtain ⟨H1, I1, e1⟩ := z
    have : bs.all id = true := by
      rw [List.all_eq_true]
      intro b hb
      obtain ⟨i, hi, rfl⟩ := List.getElem_of_mem hb
      have eb : (bs[i]?).getD false = bs[i] := by rw [List.getElem?_eq_getElem hi]; rfl
      have hz : (bs[i]?).getD false = true := hB i (by omega)
      rw [eb] at hz
      exact hz
    have q1 := hQ H1 s' I1 e1
    rw [this] at q1
    exact q1
  · obtain ⟨H1, I1, e1⟩ := z
    have k3 : i < bs.length := by omega
    have eb : (bs[i]?).getD false = bs[i] := by rw [List.getElem?_eq_getElem k3]; rfl
    have hB : (bs[i]?).getD false = false := hB
    have : bs.all id = false := by
      rw [List.all_eq_false]
      exact ⟨bs[i], List.getElem_mem k3, by rw [← eb, hB]; decide⟩
    have q1 := hQ H1 s' I1 e1
    rw [this] at q1
    exact q1
theorem op_eqL (hD : MonB D) (h : EqB X n D) (hr : Room (n + 1) X.A) : OpR X (compareOp .Eq) (rEqL D) := by
  intro pins s σ H x y v u Q I rx ry hq
  obtain ⟨a, b, xs, ys, rfl, rfl, ha, hb, hq⟩ := hq
  obtain rfl : v = Value.ref a := rx
  obtain rfl : u = Value.ref b := ry
  show wpAny (model X.prog X.w) X.A (richCompare .Eq (.ref a) (.ref b)) (EP X pins σ Q) X.xe s
  rcases hq with ⟨hne, q⟩ | ⟨bs, l1, l2, hd, q⟩
  · obtain ⟨_, its, k, r, e⟩ := I.hok a _ ha
    obtain ⟨_, its2, k2, r2, e2⟩ := I.hok b _ hb
    exact FoT.rc_listN hr.units0 e e2 (by rw [List.size_toArray, List.size_toArray, ← r.length, ← r2.length]; exact hne) ⟨.bl false, H, I, rfl, q⟩
  · exact rc_L hD h ⟨hr, rfl⟩ I ha hb l1 l2 hd fun H' s' I' e => ⟨.bl (bs.all id), H', I', rfl, q H' e⟩
end
end L2
set_option Elab.async false
set_option linter.all false
set_option maxRecDepth 100000
set_option maxHeartbeats 2000000
namespace L2
open PySem PySem.Spec PyProof.Rows
/-- l.count(x) of data -/
def rCountD (K : PySem.W.Frag) : V → List V → Hp → VK → Prop := fun x xs H Q => ∃ (a : Addr) (y : V) (d : PyData) (ds : List PyData), x = V.ref a ∧ xs = [y] ∧ Dp K H (V.ref a) (.list ds) ∧ Dp K H y d ∧
  SeqAt.shaped (.list ds) = true ∧ SeqAt.shaped d = true ∧ Q (.int ((ds.countP fun z => PyData.eqv z d : Nat) : Int)) H
theorem mt_countD {X : Cx} (hu : X.A.units + 65 < cLine) : MtR X "list.count" (rCountD X.K) := by
  intro pins s σ H x xs v us Q I rx rxs h
  obtain ⟨a, y, d, ds, rfl, rfl, hl, hy, sl, sd, q⟩ := h
  cases rx
  cases rxs with
  | cons ry rt =>
    rename_i uy ut
    cases rt
    obtain ⟨bs, r1⟩ := Dp.reads I d y uy hy ry
    have hxs : PyData.canLayAll0 ds = true := SeqAt.canLay_of_shaped sl
    have hroom : X.A.units + 1 + min (PyData.depthAll ds) d.depth < cLine := room_in_shaped sd hu
    cases hl with
    | lst hs ha =>
      obtain ⟨its, rv, ⟨⟨cls, dd, data, sls⟩, n, ho, hc, hdn, hdt⟩, hlen⟩ := I.list hs
      simp only at hc hdt
      subst hc hdt
      obtain ⟨as, h4⟩ := Dp.readsAll I ds _ its ha rv
      have hmap : its.map (SeqAt.readOf s.heap) = ds := SeqAt.readsAll_map ds its as hxs h4
      have e : its.toArray.toList.countP (fun u => PyData.eqv (SeqAt.readOf s.heap u) d) = ds.countP fun z => PyData.eqv z d := by
        rw [← hmap, List.countP_map]
        rfl
      refine call_meets PySem.F.slot_list_count ⟨_, ho, rfl⟩ PySem.F.entry_list_count (PySem.F.args_list_count_2 _ _)
        (SeqAt.list_countAt a its.toArray n dd sls uy (fun u => PyData.eqv (SeqAt.readOf s.heap u) d)) ⟨ho, SeqAt.items_eqAt (vs := its.toArray) (show ReadsAll s.heap its.toArray.toList ds as from h4) r1 hxs (SeqAt.canLay_of_shaped sd) hroom, ?_⟩
      rw [e]
      exact ⟨.int _, H, I.tok _, ⟨_, rfl⟩, q⟩
end L2
set_option Elab.async false
set_option linter.all false
set_option maxRecDepth 100000
set_option maxHeartbeats 2000000
namespace L2
open PySem PySem.Spec PyProof.Rows
/-- e.number of such a one -/
def tByP_number (P : Program) (K : PySem.W.Frag) (mg : Str → Option Value) (a : Addr) (cls : Value) (d : Option Addr) (te : TE) : TE := fun σ H Q => te σ H fun x H1 => x = .ref a ∧ ∃ C fI : Addr, FoX_number.XTxt P K mg C fI ∧ cls = .ref C ∧ ∃ (dd : Addr) (v : V), d = some dd ∧ H1 dd = some (.xd [((Str.ofString "number"), v)]) ∧ Q v H1
theorem pe_byP_number {X : Cx} {a : Addr} {oe : Obj} {cls : Value} {d : Option Addr} {e : Expr} {te : TE} {pos : Pos} (hp : (a, oe) ∈ X.pn) (hz : Zc cls d oe) (hf : ∃ vs, oe.data = .fields vs) (he : PE X e te)
    (hb : attributeBase e (Str.ofString "number") X.env (eval e X.env) = eval e X.env := by rfl) :
    PE X (.Attribute e (Str.ofString "number") pos) (tByP_number X.prog X.K X.mg a cls d te) := by
  refine ⟨fun pins s σ H Q I h => ?_⟩
  refine attr_of hb (thn (he.run pins s σ H _ I h) fun u s1 hh => ?_)
  obtain ⟨x, H1, I1, rx, ex, C, fI, T, ec, dd, v, ed, ea, q⟩ := hh
  subst ex
  obtain rfl : u = Value.ref a := rx
  subst ec
  subst ed
  obtain ⟨ha, _⟩ := I1.pin (a, oe) (List.mem_append_left _ hp)
  obtain ⟨vs, hd⟩ := hf
  have hx : ObjOk X.prog X.w H1 s1.heap dd (.xd [((Str.ofString "number"), v)]) := I1.hok dd _ ea
  obtain ⟨mA, hns, hr⟩ := hx
  obtain ⟨od, ho, hl⟩ := lookIn_ns hns
  have l : List.lookup (Str.ofString "number") [((Str.ofString "number"), v)] = some v := by simp [List.lookup]
  obtain ⟨u, hu, ru⟩ := RelO.some_of (v := v) (o := mA (Str.ofString "number")) (by rw [← l]; exact hr (Str.ofString "number"))
  have J : PySem.W.InstAt s1.heap a oe C (some od) := ⟨ha, hz.1, by unfold PySem.W.notCls; rw [hd] <;> rfl, by rw [hz.2]; exact ho⟩
  exact HandSPX.exc_get I1.kIn J T.ga T.gg T.exC (PySem.W.findObj_own T.hdC T.noN rfl (by rw [hl, hu])) (handed_of ru) ⟨v, H1, I1.tok _, ru, q⟩
end L2
set_option Elab.async false
set_option linter.all false
set_option maxRecDepth 100000
set_option maxHeartbeats 2000000
namespace Fo
open PySem L2
/-! ### meshes: their own methods, and where they raise -/
def XDn (v : V) : HO := .xd [((Str.ofString "number"), v)]
/-- what Overlap holds -/
def XOv (i j : Int) : HO := .xd [((Str.ofString "other"), .int j), ((Str.ofString "number"), .int i)]
def ixB (v : V) (n : Nat) : Bool := match v with
  | .int i => decide (0 ≤ i ∧ i < (n : Int))
  | _ => false
def spIsIx : Sp := fun vs H Q _ => ∃ (v : V) (n : Nat), vs = [v, .int (n : Int)] ∧ Scal v ∧ Q (.bl (ixB v n)) H
/-! the first pair that is not apart -/
def apB (t u : T9) : Bool := apartT t.1 t.2.1 t.2.2 u.1 u.2.1 u.2.2
theorem apB_comm (t u : T9) : apB t u = apB u t := apartT_comm _ _ _ _ _ _
abbrev z9 : T9 := ((0, 0), (0, 0), (0, 0))
def ovAt (ts : List T9) (i : Nat) : Option Nat := (List.range i).find? fun j => !apB (ts.getD i z9) (ts.getD j z9)
def firstOv (ts : List T9) : Option (Nat × Nat) := (List.range ts.length).findSome? fun i => (ovAt ts i).map fun j => (i, j)
theorem find_range {p : Nat → Bool} {n j : Nat} (hj : j < n) (hp : p j = true) (h : ∀ i, i < j → p i = false) : (List.range n).find? p = some j := by
  rw [List.find?_eq_some_iff_getElem]
  refine ⟨hp, j, by simpa using hj, by simp, fun i hi => ?_⟩
  simp only [List.getElem_range, Bool.not_eq_eq_eq_not, Bool.not_true]
  exact h i hi
theorem ovAt_none {ts : List T9} {i : Nat} (h : ∀ j, j < i → apB (ts.getD i z9) (ts.getD j z9) = true) : ovAt ts i = none := by
  unfold ovAt
  rw [List.find?_eq_none]
  intro j hj
  rw [h j (List.mem_range.mp hj)]
  decide
theorem ovAt_some {ts : List T9} {i j : Nat} (hj : j < i) (h : ∀ j', j' < j → apB (ts.getD i z9) (ts.getD j' z9) = true) (hn : apB (ts.getD i z9) (ts.getD j z9) = false) : ovAt ts i = some j :=
  find_range hj (by rw [hn]; rfl) fun j' hj' => by rw [h j' hj']; rfl
theorem ovAt_ap {ts : List T9} {i : Nat} (h : ovAt ts i = none) {j : Nat} (hj : j < i) : apB (ts.getD i z9) (ts.getD j z9) = true := by
  unfold ovAt at h
  rw [List.find?_eq_none] at h
  have := h j (List.mem_range.mpr hj)
  simpa using this
theorem firstOv_none {ts : List T9} (h : ∀ i, i < ts.length → ovAt ts i = none) : firstOv ts = none := by
  unfold firstOv
  rw [List.findSome?_eq_none_iff]
  intro i hi
  rw [h i (List.mem_range.mp hi)]
  rfl
theorem firstOv_at {ts : List T9} (h : firstOv ts = none) {i : Nat} (hi : i < ts.length) : ovAt ts i = none := by
  unfold firstOv at h
  rw [List.findSome?_eq_none_iff] at h
  have := h i (List.mem_range.mpr hi)
  cases ho : ovAt ts i with
  | none => rfl
  | some j => rw [ho] at this; cases this
theorem findSome_range {α : Type} {g : Nat → Option α} {n i : Nat} {a : α} (hi : i < n) (hg : g i = some a) (h : ∀ k, k < i → g k = none) : (List.range n).findSome? g = some a := by
  have e : List.range n = List.range i ++ (i :: (List.range (n - i - 1)).map (· + (i + 1))) := by
    have h1 : n = i + (n - i) := by omega
    have h2 : n - i = (n - i - 1) + 1 := by omega
    conv => lhs; rw [h1, List.range_add, h2, List.range_succ_eq_map]
    congr 1
    simp only [List.map_cons, List.map_map, Nat.add_zero]
    congr 1
    apply List.map_congr_left
    intro a _
    show i + (a + 1) = a + (i + 1)
    omega
  rw [e, List.findSome?_append]
  have : (List.range i).findSome? g = none := by
    rw [List.findSome?_eq_none_iff]
    intro k hk
    exact h k (List.mem_range.mp hk)
  rw [this, List.findSome?_cons, hg]
  rfl
theorem firstOv_some {ts : List T9} {i j : Nat} (hi : i < ts.length) (h : ∀ k, k < i → ovAt ts k = none) (ho : ovAt ts i = some j) : firstOv ts = some (i, j) := by
  unfold firstOv
  exact findSome_range hi (by rw [ho]; rfl) fun k hk => by rw [h k hk]; rfl
theorem firstOv_pw {ts : List T9} (h : ts.Pairwise Ap) : firstOv ts = none := firstOv_none fun i hi => ovAt_none fun j hj => by
  have := List.pairwise_iff_getElem.mp h j i (by omega) hi hj
  rw [List.getD_eq_getElem?_getD, List.getD_eq_getElem?_getD, List.getElem?_eq_getElem hi, List.getElem?_eq_getElem (show j < ts.length by omega), apB_comm]
  exact this
def SmTn (n : Nat) (t : T9) : Prop := Sm2 n t.1 ∧ Sm2 n t.2.1 ∧ Sm2 n t.2.2
/-- a Mesh whose list lies at l -/
def IsML (C CT CM : Addr) (v : V) (l : Addr) (xs : List V) (ts : List T9) (H : Hp) : Prop := ∃ (m dx : Addr), v = .ref m ∧ H m = some (.ins CM dx (pieF l)) ∧ H l = some (.lst xs) ∧ EachT C CT H xs ts
theorem IsML.n {C CT CM l : Addr} {v : V} {xs : List V} {ts : List T9} {H : Hp} (h : IsML C CT CM v l xs ts H) : IsM C CT CM v ts H := by
  obtain ⟨m, dx, h1, h2, h3, h4⟩ := h
  exact ⟨m, dx, l, xs, h1, h2, h3, h4⟩
theorem IsML.ex {C CT CM l : Addr} {v : V} {xs : List V} {ts : List T9} {H H' : Hp} (e : Same H H') (h : IsML C CT CM v l xs ts H) : IsML C CT CM v l xs ts H' := by
  obtain ⟨m, dx, h1, h2, h3, h4⟩ := h
  exact ⟨m, dx, h1, e _ _ h2, e _ _ h3, h4.ex e⟩
theorem EachT.d {C CT : Addr} {H : Hp} {xs : List V} {ts : List T9} (h : EachT C CT H xs ts) {i : Nat} {v : V} (hv : xs[i]? = some v) : IsT C CT v (ts.getD i z9).1 (ts.getD i z9).2.1 (ts.getD i z9).2.2 H := by
  obtain ⟨t, h1, h2⟩ := h.2 i v hv
  rw [List.getD_eq_getElem?_getD, h1]
  exact h2
theorem sm_d {n : Nat} {ts : List T9} (h : ∀ t ∈ ts, SmTn n t) {i : Nat} (hi : i < ts.length) : SmTn n (ts.getD i z9) := by
  rw [List.getD_eq_getElem?_getD, List.getElem?_eq_getElem hi]
  exact h _ (List.getElem_mem hi)
def spMI9 (C CT CM : Addr) : Sp := fun vs H Q _ => ∃ (n : Nat) (p dx l : Addr) (xs : List V) (ts : List T9), vs = [.ref p, .ref l] ∧ H p = some (.ins CM dx []) ∧ H l = some (.lst xs) ∧ EachT C CT H xs ts ∧ ts.length ≤ 60 ∧ n < 1000 ∧ (∀ t ∈ ts, SmTn n t) ∧ firstOv ts = none ∧
  ∀ l' H', But p H H' → H l' = none → H' p = some (.ins CM dx (pieF l')) → H' l' = some (.lst xs) → Q .non H'
/-- Mesh(v) refused -/
inductive MBad (C CT CI CO : Addr) (H : Hp) : V → Addr → HO → Prop
  | non : MBad C CT CI CO H .non CI (XDn .non)
  | str (z : Str) : MBad C CT CI CO H (.str z) CI (XDn .non)
  | tup {a : Addr} {xs : List V} (h : H a = some (.tup xs)) : MBad C CT CI CO H (.ref a) CI (XDn .non)
  | long {a : Addr} {xs : List V} (h : H a = some (.lst xs)) (l : 60 < xs.length) : MBad C CT CI CO H (.ref a) CI (XDn .non)
  | item {a : Addr} {xs : List V} {ts : List T9} {j : Nat} (h : H a = some (.lst xs)) (l : xs.length ≤ 60) (hj : ts.length = j) (g : ∀ (i : Nat) y, i < j → xs[i]? = some y → IsT C CT y (ts.getD i z9).1 (ts.getD i z9).2.1 (ts.getD i z9).2.2 H) (hx : xs[j]? = some .non) : MBad C CT CI CO H (.ref a) CI (XDn (.int (j : Int)))
  | over {n : Nat} {a : Addr} {xs : List V} {ts : List T9} {i j : Nat} (h : H a = some (.lst xs)) (hE : EachT C CT H xs ts) (l : ts.length ≤ 60) (n1 : n < 1000) (sm : ∀ t ∈ ts, SmTn n t) (ho : firstOv ts = some (i, j)) : MBad C CT CI CO H (.ref a) CO (XOv i j)
theorem MBad.ex {C CT CI CO : Addr} {H H' : Hp} {v : V} {c : Addr} {o : HO} (e : Same H H') (h : MBad C CT CI CO H v c o) : MBad C CT CI CO H' v c o := by
  cases h with
  | non => exact .non
  | str z => exact .str z
  | tup h => exact .tup (e _ _ h)
  | long h l => exact .long (e _ _ h) l
  | item h l hj g hx => exact .item (e _ _ h) l hj (fun i y hi hy => (g i y hi hy).ex e) hx
  | over h hE l n1 sm ho => exact .over (e _ _ h) (hE.ex e) l n1 sm ho
def spMIX (C CT CI CO : Addr) : Sp := fun vs H _ E => ∃ (p : Addr) (v : V) (c : Addr) (o : HO), vs = [.ref p, v] ∧ MBad C CT CI CO H v c o ∧ ∀ d H', Same H H' → H' d = some o → E (.ref c) (some d) H'
def spMLen (C CT CM : Addr) : Sp := fun vs H Q _ => ∃ (v : V) (ts : List T9), vs = [v] ∧ IsM C CT CM v ts H ∧ Q (.int ((ts.length : Nat) : Int)) H
def spMGet (C CT CM : Addr) : Sp := fun vs H Q _ => ∃ (v : V) (l : Addr) (xs : List V) (ts : List T9) (i : Nat) (y : V), vs = [v, .int (i : Int)] ∧ IsML C CT CM v l xs ts H ∧ xs[i]? = some y ∧ Q y H
def spMGetX (C CT CM CN : Addr) : Sp := fun vs H _ E => ∃ (v i : V) (ts : List T9), vs = [v, i] ∧ IsM C CT CM v ts H ∧ Scal i ∧ ixB i ts.length = false ∧ ∀ d H', Same H H' → H' d = some (XDn i) → E (.ref CN) (some d) H'
/-- the first other one that is not apart -/
def putOv (ts : List T9) (k : Nat) (t : T9) : Option Nat := (List.range ts.length).find? fun j => decide (j ≠ k) && !apB t (ts.getD j z9)
def spMSet (C CT CM : Addr) : Sp := fun vs H Q _ => ∃ (n : Nat) (v u : V) (l : Addr) (xs : List V) (ts : List T9) (k : Nat) (t : T9), vs = [v, .int (k : Int), u] ∧ IsML C CT CM v l xs ts H ∧ k < ts.length ∧ IsT C CT u t.1 t.2.1 t.2.2 H ∧ ts.length ≤ 60 ∧ n < 1000 ∧ (∀ t ∈ ts, SmTn n t) ∧ SmTn n t ∧ putOv ts k t = none ∧
  ∀ H', But l H H' → H' l = some (.lst (xs.set k u)) → Q .non H'
/-- mesh[i] = u refused -/
inductive SBad (C CT CI CO CN : Addr) (ts : List T9) (H : Hp) : V → V → Addr → HO → Prop
  | ix {i u : V} (s : Scal i) (h : ixB i ts.length = false) : SBad C CT CI CO CN ts H i u CN (XDn i)
  | non {k : Nat} (h : k < ts.length) : SBad C CT CI CO CN ts H (.int (k : Int)) .non CI (XDn (.int (k : Int)))
  | over {n k j : Nat} {u : V} {t : T9} (h : k < ts.length) (hu : IsT C CT u t.1 t.2.1 t.2.2 H) (l : ts.length ≤ 60) (n1 : n < 1000) (sm : ∀ t ∈ ts, SmTn n t) (st : SmTn n t) (ho : putOv ts k t = some j) : SBad C CT CI CO CN ts H (.int (k : Int)) u CO (XOv k j)
def spMSetX (C CT CM CI CO CN : Addr) : Sp := fun vs H _ E => ∃ (v i u : V) (ts : List T9) (c : Addr) (o : HO), vs = [v, i, u] ∧ IsM C CT CM v ts H ∧ SBad C CT CI CO CN ts H i u c o ∧ ∀ d H', Same H H' → H' d = some o → E (.ref c) (some d) H'
def spMEq (C CT CM : Addr) : Sp := fun vs H Q _ => ∃ (v u : V) (ts : List T9), vs = [v, u] ∧ IsM C CT CM v ts H ∧ ((IsM C CT CM u ts H ∧ ∀ H', Same H H' → Q (.bl true) H') ∨ ∃ l xs, u = .ref l ∧ H l = some (.lst xs) ∧ Q (.bl false) H)
structure MsB (K : PySem.W.Frag) (mg : Str → Option Value) : Type where
  CM : Addr
  fCu : Addr
  fAp : Addr
  fMI : Addr
  fMT : Addr
  fdCu : FuncData
  fdAp : FuncData
  fdMI : FuncData
  fdMT : FuncData
  D : MDefs K mg CM fCu fAp fMI fMT fdCu fdAp fdMI fdMT
structure M9 (K : PySem.W.Frag) (mg : Str → Option Value) (CT CM : Addr) : Type where
  ix : Mo K mg "is_index" sIsIx ["value", "many"]
  ln : Me K CM "__len__" "Mesh.__len__" sMLen ["self"]
  gt : Me K CM "__getitem__" "Mesh.__getitem__" sMGet ["self", "at"]
  oGt : OwnIx K CM gt.f
  st : Me K CM "__setitem__" "Mesh.__setitem__" sMSet ["self", "at", "worth"]
  oSt : OwnSet K CM st.f
  eq : Me K CM "__eq__" "Mesh.__eq__" sMEq ["self", "other"]
  oEq : OwnEqC K CM eq.f
  nl : PySem.W.notFirst K CM (.type "list") = true
  kMM : PySem.W.kitOne K (.ref CM) (.ref CM) = some true
  kLM : PySem.W.kitOne K (.type "list") (.ref CM) = some false
  hM : PySem.W.findIn K (.ref CM) "__class__" = some (some (.builtin "object.__class__"))
  mM : PySem.W.mroIn K CM (.type "object") = some true
  te : Me K CT "__eq__" "Triangle.__eq__" sTEq ["self", "other"]
  oTe : OwnEqC K CT te.f
  kNT : PySem.W.kitOne K (.type "NoneType") (.ref CT) = some false
/-- what the top says of the errors -/
structure X9 (P : Program) (K : PySem.W.Frag) (mg : Str → Option Value) (CI fII CO fOI CN fNI : Addr) : Prop where
  xI : FoX_number.XTxt P K mg CI fII
  gI : mg "InvalidMesh" = some (.ref CI)
  xO : FoX_ov.XTxt P K mg CO fOI
  gO : mg "Overlap" = some (.ref CO)
  xN : FoX_number.XTxt P K mg CN fNI
  gN : mg "InvalidNumber" = some (.ref CN)
section
variable {P : Program} {w : World} {K : PySem.W.Frag} {mg : Str → Option Value} {base : Heap} {CI fII CO fOI CN fNI : Addr}
abbrev isIxN : List Str := ["value", "many"]
theorem scIsIx : FnScope isIxN ["value", "many"] (defScope sIsIx) := ⟨rfl, rfl, rfl, by decide +kernel, rfl, by decide +kernel, by decide +kernel⟩
theorem M9.GIx {CT CM : Addr} (m : M9 K mg CT CM) (p : PtB K mg) : FnOk P w K mg base CX0 2 m.ix.f m.ix.fd ["value", "many"] spIsIx := by
  have GW : FnOk P w K mg base CX0 1 p.fW p.fdW ["value"] spWholeX := ok_wholeX p.D.FW p.D.T
  refine m.ix.F.ok scIsIx (fun vs H Q E h => ?_) (fun cdv A outer s H vs Q E hr hq => ?_)
  · obtain ⟨_, _, rfl, _⟩ := h
    rfl
  · obtain ⟨v, m, rfl, sv, k⟩ := hq
    have hr1 : Room 1 _ := hr
    refine ⟨_, (pss_one (ps_ret (pe_and (pe_call GW hr1 rfl p.D.mW p.D.FW.kp p.D.bW .nil pass0 (pa_cons (pv 0) pa_nil)) (pe_one (pe_chain op_le op_lt pe_int (pv 0) (pv 1)))))), ?_⟩
    refine ⟨_, rfl, v, rfl, sv, _, rfl, ?_⟩
    cases v with
    | int i =>
      refine iteT ?_
      refine ⟨_, rfl, 0, i, rfl, rfl, _, rfl, ?_⟩
      have hk : ixB (.int i) m = (decide ((0 : Int) ≤ i) && decide (i < (m : Int))) := by
        show decide _ = _
        rw [Bool.decide_and]
      rw [hk] at k
      cases hb : decide ((0 : Int) ≤ i) with
      | false =>
        rw [hb] at k
        exact iteF k
      | true =>
        rw [hb] at k
        exact iteT ⟨_, rfl, i, (m : Int), rfl, rfl, k⟩
    | non => exact iteF k
    | bl b => exact iteF k
    | str z => exact iteF k
    | _ => exact sv.elim
/-- Mesh(triangles), good -/
theorem ok_mi9 (p : PtB K mg) (t : TrB K mg p.C) (M : MsB K mg) : FnOk P w K mg base CX0 10 M.fMI M.fdMI ["self", "triangles"] (spMI9 p.C t.CT M.CM) := by
  have GA : FnOk P w K mg base CX0 9 M.fAp M.fdAp ["one", "other"] (spCut p.C t.CT apartT) := ok_apart M.D t.d p.D
  have T := p.D.T
  have TT := t.d.TT
  obtain ⟨tM, mM⟩ := M.D.mM
  refine M.D.FMI.ok scMInit (fun vs H Q E h => ?_) (fun cdv A outer s H vs Q E hr hq => ?_)
  · obtain ⟨n, q, dx, l, xs, ts, rfl, _⟩ := h
    rfl
  · obtain ⟨n, q, dx, l, xs, ts, rfl, hp, hl, hE, lt, n1, sm, fo, k⟩ := hq
    refine ⟨_, pss_cons (ps_if (PW.pt (pw_or (pt_not (pt_val (pe_callB call_isi (by rfl) T.isi (by decide +kernel) (pa_cons (pv 1) (pa_cons (pe_bltn (v := .ty "list") (by rfl) M.D.zL (by decide +kernel) rfl) pa_nil)))))
        (pw_or1 (pt_cmpR op_gt (pe_callB call_len_seq (by rfl) T.len PySem.boot_len (pa_cons (pv 1) pa_nil)) (pe_glob (v := .int 60) rfl mM ⟨_, rfl⟩) (nomark _))))) (pss_one ps_never) pss_nil)
      (pss_cons (ps_for PassesOwn.never rfl (pi_enum (by rfl) M.D.zE (pa_cons (pv 1) pa_nil)) (pg_tup rfl (pgs_cons (pg_name (i := 2) scMInit.nd rfl (Or.inl rfl)) (pgs_cons (pg_name (i := 3) scMInit.nd rfl (Or.inl rfl)) pgs_nil)))
        (pss_one (ps_if (pt_not (pt_val (pe_callB call_isi (by rfl) T.isi (by decide +kernel) (pa_cons (pv 3) (pa_cons (pe_glob (v := .ref t.CT) rfl TT.mgT rfl) pa_nil))))) (pss_one ps_never) pss_nil)))
      (pss_cons (ps_for PassesOwn.never rfl (pi_enum (by rfl) M.D.zE (pa_cons (pv 1) pa_nil)) (pg_tup rfl (pgs_cons (pg_name (i := 2) scMInit.nd rfl (Or.inl rfl)) (pgs_cons (pg_name (i := 4) scMInit.nd rfl (Or.inl rfl)) pgs_nil)))
        (pss_one (ps_for PassesOwn.never rfl (pi_range1 rfl M.D.zR (pa_cons (pv 2) pa_nil)) (pg_name (i := 5) scMInit.nd rfl (Or.inl rfl))
          (pss_one (ps_if (pt_not (pt_val (pe_call GA hr rfl M.D.mAp M.D.FAp.kp M.D.bAp .nil pass0 (pa_cons (pv 4) (pa_cons (pe_ix (r := rIxL K) ix_list (pv 1) (pv 5) (fun _ _ => rfl)) pa_nil))))) (pss_one ps_never) pss_nil)))))
      (pss_one (ps_fld (pv 0) (pe_callTy call_list_of (by rfl) M.D.zL (by decide +kernel) (pa_cons (pv 1) pa_nil)) rfl)))), ?_⟩
    have lx : xs.length ≤ 60 := by rw [hE.1]; exact lt
    refine ⟨_, rfl, _, _, _, _, true, rfl, .ty _, .base (.lst hl), kit_ty (by decide +kernel), true, rfl, ?_⟩
    refine iteF ?_
    refine ⟨_, rfl, l, _, rfl, .inl (SqL.of hl), _, _, rfl, rfl, _, rfl, ?_⟩
    rw [decide_eq_false (show ¬ (60 : Int) < (xs.length : Int) by omega)]
    refine iteF ?_
    refine ⟨_, rfl, l, xs, rfl, SqL.of hl, ?_⟩
    refine for_enumL (K := K) (a := l) (xs := xs) (fun j σ' H' => ∃ v2 v3 v4 v5 : Option V, σ' = [some (.ref q), some (.ref l), v2, v3, v4, v5] ∧ Same H H') ⟨_, _, _, _, rfl, Same.refl _⟩ (fun j σ' H' h => by
      obtain ⟨_, _, _, _, _, e⟩ := h
      exact SqL.of (e _ _ hl)) ?_ ?_
    · rintro j x a σ H2 hx ⟨v2, v3, v4, v5, rfl, e2⟩ nt
      have g := same_new (o := .tup [.int (j : Nat), x]) nt
      have e3 := e2.trans g
      obtain ⟨t1, dx1, l1, x1, x2, x3, rfl, p1, _⟩ := id ((hE.d hx).ex e3)
      refine ⟨a, _, rfl, SqT.of upd_same, rfl, _, _, rfl, _, _, rfl, rfl, ?_⟩
      refine ⟨_, rfl, _, _, _, _, true, rfl, .own t.CT, ty_tri TT p.D.T p1, TT.kTT, true, rfl, ?_⟩
      refine iteF ?_
      exact ⟨_, _, _, _, rfl, e3⟩
    · rintro σ H2 ⟨v2, v3, v4, v5, rfl, e2⟩
      have hl2 := e2 _ _ hl
      refine ⟨_, rfl, l, xs, rfl, SqL.of hl2, ?_⟩
      refine for_enumL (K := K) (a := l) (xs := xs) (fun j σ' H' => ∃ v2 v3 v4 v5 : Option V, σ' = [some (.ref q), some (.ref l), v2, v3, v4, v5] ∧ Same H H') ⟨_, _, _, _, rfl, e2⟩ (fun j σ' H' h => by
        obtain ⟨_, _, _, _, _, e⟩ := h
        exact SqL.of (e _ _ hl)) ?_ ?_
      · rintro j x a σ H3 hx ⟨v2, v3, v4, v5, rfl, e3⟩ nt
        have hj : j < xs.length := (List.getElem?_eq_some_iff.mp hx).1
        have g := same_new (o := .tup [.int (j : Nat), x]) nt
        have e4 := e3.trans g
        refine ⟨a, _, rfl, SqT.of upd_same, rfl, _, _, rfl, _, _, rfl, rfl, ?_⟩
        refine ⟨_, rfl, _, rfl, by omega, by omega, ?_⟩
        refine for_range (lo := 0) (n := j) (fun i σ' H' => ∃ v3 v5 : Option V, σ' = [some (.ref q), some (.ref l), some (.int (j : Nat)), v3, some x, v5] ∧ Same H H') ⟨_, _, rfl, e4⟩ ?_ ?_
        · rintro i σ H4 hi ⟨v3, v5, rfl, e5⟩
          have hi' : i < xs.length := by omega
          obtain ⟨y, hy⟩ : ∃ y, xs[i]? = some y := ⟨_, List.getElem?_eq_getElem hi'⟩
          refine ⟨_, rfl, _, rfl, _, rfl, l, _, _, _, rfl, rfl, SqL.of (e5 _ _ hl), (show atI xs (0 + (i : Int)) = some y by rw [Int.zero_add]; exact atI_nat hy), ?_⟩
          have ap : apB (ts.getD j z9) (ts.getD i z9) = true := ovAt_ap (firstOv_at fo (by rw [← hE.1]; exact hj)) hi
          have m1 := sm_d sm (show j < ts.length by rw [← hE.1]; exact hj)
          have m2 := sm_d sm (show i < ts.length by rw [← hE.1]; exact hi')
          refine ⟨n, x, y, _, _, _, _, _, _, rfl, (hE.d hx).ex e5, (hE.d hy).ex e5, n1, m1.1, m1.2.1, m1.2.2, m2.1, m2.2.1, m2.2.2, fun H5 g5 => ⟨_, rfl, ?_⟩⟩
          rw [show apartT (ts.getD j z9).1 (ts.getD j z9).2.1 (ts.getD j z9).2.2 (ts.getD i z9).1 (ts.getD i z9).2.1 (ts.getD i z9).2.2 = true from ap]
          refine iteF ?_
          exact ⟨_, _, rfl, e5.trans g5⟩
        · rintro σ H4 ⟨v3, v5, rfl, e5⟩
          exact ⟨_, _, _, _, rfl, e5⟩
      · rintro σ H3 ⟨v2, v3, v4, v5, rfl, e3⟩
        refine ⟨_, rfl, l, _, rfl, .inl (SqL.of (e3 _ _ hl)), fun l' nl' => ?_⟩
        have g := same_new (o := .lst xs) nl'
        have hp3 := (e3.trans g) _ _ hp
        refine ⟨_, rfl, q, M.CM, dx, [], rfl, hp3, M.D.cl, M.D.nP, (by show 0 < 1000; decide), ?_⟩
        have pl' : l' ≠ q := (ne_of_none (e3 _ _ hp) nl').symm
        exact k l' _ ((But.of (e3.trans g)).trans But.upd) (Same.none e3 nl') upd_same (by rw [upd_ne pl']; exact upd_same)
/-- Mesh(..) refused -/
theorem ok_miX (p : PtB K mg) (t : TrB K mg p.C) (M : MsB K mg) (m9 : M9 K mg t.CT M.CM) (R : X9 P K mg CI fII CO fOI CN fNI) : FnOk P w K mg base (L2.CX P w) 10 M.fMI M.fdMI ["self", "triangles"] (spMIX p.C t.CT CI CO) := by
  have GA : FnOk P w K mg base CX0 9 M.fAp M.fdAp ["one", "other"] (spCut p.C t.CT apartT) := ok_apart M.D t.d p.D
  have T := p.D.T
  have TT := t.d.TT
  obtain ⟨tM, mM⟩ := M.D.mM
  refine M.D.FMI.okX scMInit (fun vs H Q E h => ?_) (fun cdv A outer s H vs Q E hr hq => ?_)
  · obtain ⟨_, _, _, _, rfl, _⟩ := h
    rfl
  · obtain ⟨q, v, c, o, rfl, bad, k⟩ := hq
    have hr2 : Room 2 _ := hr.mono (by decide)
    refine ⟨_, pss_cons (ps_if (PW.pt (pw_or (pt_not (pt_val (pe_callB call_isi (by rfl) T.isi (by decide +kernel) (pa_cons (pv 1) (pa_cons (pe_bltn (v := .ty "list") (by rfl) M.D.zL (by decide +kernel) rfl) pa_nil)))))
        (pw_or1 (pt_cmpR op_gt (pe_callB call_len_seq (by rfl) T.len PySem.boot_len (pa_cons (pv 1) pa_nil)) (pe_glob (v := .int 60) rfl mM ⟨_, rfl⟩) (nomark _))))) (pss_one (ps_raise_number (W := fun cls d _ H => E cls d H) rfl R.xI R.gI hr2 (takes_of rfl rfl rfl rfl) (pa_cons pe_non pa_nil))) pss_nil)
      (pss_cons (ps_for (passes_of rfl) rfl (pi_enum (by rfl) M.D.zE (pa_cons (pv 1) pa_nil)) (pg_tup rfl (pgs_cons (pg_name (i := 2) scMInit.nd rfl (Or.inl rfl)) (pgs_cons (pg_name (i := 3) scMInit.nd rfl (Or.inl rfl)) pgs_nil)))
        (pss_one (ps_if (pt_not (pt_val (pe_callB call_isi (by rfl) T.isi (by decide +kernel) (pa_cons (pv 3) (pa_cons (pe_glob (v := .ref t.CT) rfl TT.mgT rfl) pa_nil))))) (pss_one (ps_raise_number (W := fun cls d _ H => E cls d H) rfl R.xI R.gI hr2 (takes_of rfl rfl rfl rfl) (pa_cons (pv 2) pa_nil))) pss_nil)))
      (pss_cons (ps_for (passes_of rfl) rfl (pi_enum (by rfl) M.D.zE (pa_cons (pv 1) pa_nil)) (pg_tup rfl (pgs_cons (pg_name (i := 2) scMInit.nd rfl (Or.inl rfl)) (pgs_cons (pg_name (i := 4) scMInit.nd rfl (Or.inl rfl)) pgs_nil)))
        (pss_one (ps_for (passes_of rfl) rfl (pi_range1 rfl M.D.zR (pa_cons (pv 2) pa_nil)) (pg_name (i := 5) scMInit.nd rfl (Or.inl rfl))
          (pss_one (ps_if (pt_not (pt_val (pe_call GA hr rfl M.D.mAp M.D.FAp.kp M.D.bAp .nil pass0 (pa_cons (pv 4) (pa_cons (pe_ix (r := rIxL K) ix_list (pv 1) (pv 5) (fun _ _ => rfl)) pa_nil))))) (pss_one (ps_raise_ov (W := fun cls d _ H => E cls d H) rfl R.xO R.gO hr2 (takes_of rfl rfl rfl rfl) (pa_cons (pv 2) (pa_cons (pv 5) pa_nil)))) pss_nil)))))
      pss_never)), ?_⟩
    cases bad with
    | non =>
      refine ⟨_, rfl, _, _, _, _, false, rfl, .ty _, .base .non, kit_ty (by decide +kernel), false, rfl, ?_⟩
      exact iteT (iteT ⟨_, rfl, fun d nd => k d _ (same_new nd) upd_same⟩)
    | str z =>
      refine ⟨_, rfl, _, _, _, _, false, rfl, .ty _, .base (.str z), kit_ty (by decide +kernel), false, rfl, ?_⟩
      exact iteT (iteT ⟨_, rfl, fun d nd => k d _ (same_new nd) upd_same⟩)
    | tup h =>
      refine ⟨_, rfl, _, _, _, _, false, rfl, .ty _, .base (.tup h), kit_ty (by decide +kernel), false, rfl, ?_⟩
      exact iteT (iteT ⟨_, rfl, fun d nd => k d _ (same_new nd) upd_same⟩)
    | @long l xs h hl =>
      refine ⟨_, rfl, _, _, _, _, true, rfl, .ty _, .base (.lst h), kit_ty (by decide +kernel), true, rfl, ?_⟩
      refine iteF ?_
      refine ⟨_, rfl, l, _, rfl, .inl (SqL.of h), _, _, rfl, rfl, _, rfl, ?_⟩
      rw [decide_eq_true (show (60 : Int) < ((xs.length : Nat) : Int) by omega)]
      exact iteT ⟨_, rfl, fun d nd => k d _ (same_new nd) upd_same⟩
    | @item l xs ts j hl lx hj g hx =>
      refine ⟨_, rfl, _, _, _, _, true, rfl, .ty _, .base (.lst hl), kit_ty (by decide +kernel), true, rfl, ?_⟩
      refine iteF ?_
      refine ⟨_, rfl, l, _, rfl, .inl (SqL.of hl), _, _, rfl, rfl, _, rfl, ?_⟩
      rw [decide_eq_false (show ¬ ((60 : Int) < ((xs.length : Nat) : Int)) by omega)]
      refine iteF ?_
      have jl : j < xs.length := (List.getElem?_eq_some_iff.mp hx).1
      refine ⟨_, rfl, l, xs, rfl, SqL.of hl, ?_⟩
      refine for_enumL (K := K) (a := l) (xs := xs) (fun i σ' H' => (∃ v2 v3 v4 v5 : Option V, σ' = [some (.ref q), some (.ref l), v2, v3, v4, v5]) ∧ Same H H' ∧ i ≤ j) ⟨⟨_, _, _, _, rfl⟩, Same.refl _, Nat.zero_le _⟩ (fun i σ' H' h' => SqL.of (h'.2.1 _ _ hl)) ?_ ?_
      · rintro i y a σ H2 hy ⟨⟨v2, v3, v4, v5, rfl⟩, e2, hij⟩ nt
        have gn := same_new (o := .tup [.int (i : Nat), y]) nt
        refine ⟨a, _, rfl, SqT.of upd_same, rfl, _, _, rfl, _, _, rfl, rfl, ?_⟩
        by_cases hq : i = j
        · subst hq
          rw [hx] at hy
          cases hy
          refine ⟨_, rfl, _, _, _, _, false, rfl, .own t.CT, .base .non, m9.kNT, false, rfl, ?_⟩
          exact iteT ⟨_, rfl, _, rfl, fun d nd => k d _ ((e2.trans gn).trans (same_new nd)) upd_same⟩
        · obtain ⟨t1, dx1, l1, x1, x2, x3, rfl, p1, _⟩ := id ((g i y (by omega) hy).ex (e2.trans gn))
          refine ⟨_, rfl, _, _, _, _, true, rfl, .own t.CT, ty_tri TT p.D.T p1, TT.kTT, true, rfl, ?_⟩
          exact iteF ⟨⟨_, _, _, _, rfl⟩, e2.trans gn, by omega⟩
      · rintro σ H2 ⟨_, _, hij⟩
        omega
    | @over n l xs ts i0 j0 hl hE lt n1 sm ho =>
      have lx : xs.length ≤ 60 := by rw [hE.1]; exact lt
      refine ⟨_, rfl, _, _, _, _, true, rfl, .ty _, .base (.lst hl), kit_ty (by decide +kernel), true, rfl, ?_⟩
      refine iteF ?_
      refine ⟨_, rfl, l, _, rfl, .inl (SqL.of hl), _, _, rfl, rfl, _, rfl, ?_⟩
      rw [decide_eq_false (show ¬ (60 : Int) < (xs.length : Int) by omega)]
      refine iteF ?_
      refine ⟨_, rfl, l, xs, rfl, SqL.of hl, ?_⟩
      refine for_enumL (K := K) (a := l) (xs := xs) (fun j σ' H' => ∃ v2 v3 v4 v5 : Option V, σ' = [some (.ref q), some (.ref l), v2, v3, v4, v5] ∧ Same H H') ⟨_, _, _, _, rfl, Same.refl _⟩ (fun j σ' H' h => by
        obtain ⟨_, _, _, _, _, e⟩ := h
        exact SqL.of (e _ _ hl)) ?_ ?_
      · rintro j x a σ H2 hx ⟨v2, v3, v4, v5, rfl, e2⟩ nt
        have g := same_new (o := .tup [.int (j : Nat), x]) nt
        have e3 := e2.trans g
        obtain ⟨t1, dx1, l1, x1, x2, x3, rfl, p1, _⟩ := id ((hE.d hx).ex e3)
        refine ⟨a, _, rfl, SqT.of upd_same, rfl, _, _, rfl, _, _, rfl, rfl, ?_⟩
        refine ⟨_, rfl, _, _, _, _, true, rfl, .own t.CT, ty_tri TT p.D.T p1, TT.kTT, true, rfl, ?_⟩
        refine iteF ?_
        exact ⟨_, _, _, _, rfl, e3⟩
      · rintro σ H2 ⟨v2, v3, v4, v5, rfl, e2⟩
        have hl2 := e2 _ _ hl
        refine ⟨_, rfl, l, xs, rfl, SqL.of hl2, ?_⟩
        refine for_enumL (K := K) (a := l) (xs := xs) (fun j σ' H' => (∃ v2 v3 v4 v5 : Option V, σ' = [some (.ref q), some (.ref l), v2, v3, v4, v5]) ∧ Same H H' ∧ ∀ i, i < j → ovAt ts i = none) ⟨⟨_, _, _, _, rfl⟩, e2, fun i hi => absurd hi (Nat.not_lt_zero _)⟩ (fun j σ' H' h => SqL.of (h.2.1 _ _ hl)) ?_ ?_
        · rintro j x a σ H3 hx ⟨⟨v2, v3, v4, v5, rfl⟩, e3, hno⟩ nt
          have hj : j < xs.length := (List.getElem?_eq_some_iff.mp hx).1
          have g := same_new (o := .tup [.int (j : Nat), x]) nt
          have e4 := e3.trans g
          refine ⟨a, _, rfl, SqT.of upd_same, rfl, _, _, rfl, _, _, rfl, rfl, ?_⟩
          refine ⟨_, rfl, _, rfl, by omega, by omega, ?_⟩
          refine for_range (lo := 0) (n := j) (fun i σ' H' => (∃ v3 v5 : Option V, σ' = [some (.ref q), some (.ref l), some (.int (j : Nat)), v3, some x, v5]) ∧ Same H H' ∧ ∀ i', i' < i → apB (ts.getD j z9) (ts.getD i' z9) = true) ⟨⟨_, _, rfl⟩, e4, fun i' hi => absurd hi (Nat.not_lt_zero _)⟩ ?_ ?_
          · rintro i σ H4 hi ⟨⟨v3, v5, rfl⟩, e5, hap⟩
            have hi' : i < xs.length := by omega
            obtain ⟨y, hy⟩ : ∃ y, xs[i]? = some y := ⟨_, List.getElem?_eq_getElem hi'⟩
            refine ⟨_, rfl, _, rfl, _, rfl, l, _, _, _, rfl, rfl, SqL.of (e5 _ _ hl), (show atI xs (0 + (i : Int)) = some y by rw [Int.zero_add]; exact atI_nat hy), ?_⟩
            have m1 := sm_d sm (show j < ts.length by rw [← hE.1]; exact hj)
            have m2 := sm_d sm (show i < ts.length by rw [← hE.1]; exact hi')
            refine ⟨n, x, y, _, _, _, _, _, _, rfl, (hE.d hx).ex e5, (hE.d hy).ex e5, n1, m1.1, m1.2.1, m1.2.2, m2.1, m2.2.1, m2.2.2, fun H5 g5 => ⟨_, rfl, ?_⟩⟩
            cases ap : apB (ts.getD j z9) (ts.getD i z9) with
            | true =>
              rw [show apartT (ts.getD j z9).1 (ts.getD j z9).2.1 (ts.getD j z9).2.2 (ts.getD i z9).1 (ts.getD i z9).2.1 (ts.getD i z9).2.2 = true from ap]
              refine iteF ?_
              refine ⟨⟨_, _, rfl⟩, e5.trans g5, fun i' hi2 => ?_⟩
              by_cases e : i' = i
              · rw [e]; exact ap
              · exact hap i' (by omega)
            | false =>
              rw [show apartT (ts.getD j z9).1 (ts.getD j z9).2.1 (ts.getD j z9).2.2 (ts.getD i z9).1 (ts.getD i z9).2.1 (ts.getD i z9).2.2 = false from ap]
              refine iteT ?_
              have hf := firstOv_some (show j < ts.length by rw [← hE.1]; exact hj) hno (ovAt_some hi hap ap)
              have e12 := Prod.mk.inj (Option.some.inj (ho.symm.trans hf))
              rw [e12.1, e12.2] at k
              refine ⟨_, rfl, _, rfl, _, _, rfl, fun d nd => k d _ ((e5.trans g5).trans (same_new nd)) ?_⟩
              rw [upd_same]
              show some (HO.xd [((Str.ofString "other"), V.int (0 + (i : Int))), ((Str.ofString "number"), V.int (j : Int))]) = some (XOv j i)
              rw [Int.zero_add]
              rfl
          · rintro σ H4 ⟨⟨v3, v5, rfl⟩, e5, hap⟩
            refine ⟨⟨_, _, _, _, rfl⟩, e5, fun i hi => ?_⟩
            by_cases e : i = j
            · rw [e]; exact ovAt_none hap
            · exact hno i (by omega)
        · rintro σ H3 ⟨_, _, hno⟩
          rw [firstOv_none fun i hi => hno i (by rw [hE.1]; exact hi)] at ho
          cases ho
/-! ### the other methods -/
theorem m_at {C CT CM : Addr} {v : V} {ts : List T9} {H : Hp} (h : IsM C CT CM v ts H) : ∃ m dx fs, v = .ref m ∧ H m = some (.ins CM dx fs) := by
  obtain ⟨m, dx, l, xs, e, h1, _⟩ := h
  exact ⟨m, dx, _, e, h1⟩
abbrev mLenN : List Str := ["self"]
theorem scMLen : FnScope mLenN ["self"] (defScope sMLen) := ⟨rfl, rfl, rfl, by decide +kernel, rfl, by decide +kernel, by decide +kernel⟩
theorem ok_mlen (p : PtB K mg) {CT : Addr} (M : MsB K mg) (m9 : M9 K mg CT M.CM) : FnOk P w K mg base CX0 1 m9.ln.f m9.ln.fd ["self"] (spMLen p.C CT M.CM) := by
  have T := p.D.T
  refine m9.ln.F.ok scMLen (fun vs H Q E h => ?_) (fun cdv A outer s H vs Q E hr hq => ?_)
  · obtain ⟨_, _, rfl, _⟩ := h
    rfl
  · obtain ⟨v, ts, rfl, ⟨m, dx, l, xs, rfl, h1, h2, h3⟩, k⟩ := hq
    refine ⟨_, (pss_one (ps_ret (pe_callB call_len_seq (by rfl) T.len PySem.boot_len (pa_cons (pe_fld (pv 0) rfl) pa_nil)))), ?_⟩
    refine ⟨_, rfl, m, _, dx, _, _, rfl, h1, M.D.cl, M.D.nP, pieF_p _, l, _, rfl, .inl (SqL.of h2), ?_⟩
    rw [h3.1]
    exact k
abbrev mGetN : List Str := ["self", "at"]
theorem scMGet : FnScope mGetN ["self", "at"] (defScope sMGet) := ⟨rfl, rfl, rfl, by decide +kernel, rfl, by decide +kernel, by decide +kernel⟩
theorem ok_mget (p : PtB K mg) {CT : Addr} (M : MsB K mg) (m9 : M9 K mg CT M.CM) : FnOk P w K mg base CX0 3 m9.gt.f m9.gt.fd ["self", "at"] (spMGet p.C CT M.CM) := by
  have T := p.D.T
  have GIx : FnOk P w K mg base CX0 2 m9.ix.f m9.ix.fd ["value", "many"] spIsIx := m9.GIx p
  refine m9.gt.F.ok scMGet (fun vs H Q E h => ?_) (fun cdv A outer s H vs Q E hr hq => ?_)
  · obtain ⟨_, _, _, _, _, _, rfl, _⟩ := h
    rfl
  · obtain ⟨v, l, xs, ts, i, y, rfl, ⟨m, dx, rfl, h1, h2, h3⟩, hy, k⟩ := hq
    have hr2 : Room 2 _ := hr
    have hi : i < xs.length := (List.getElem?_eq_some_iff.mp hy).1
    refine ⟨_, (pss_cons (ps_if (pt_not (pt_val (pe_call GIx hr2 rfl m9.ix.m m9.ix.F.kp m9.ix.b .nil pass0 (pa_cons (pv 1) (pa_cons (pe_callB call_len_seq (by rfl) T.len PySem.boot_len (pa_cons (pe_fld (pv 0) rfl) pa_nil)) pa_nil))))) (pss_one ps_never) pss_nil)
      (pss_one (ps_ret (pe_ix ix_list (pe_fld (pv 0) rfl) (pv 1) (fun _ _ => rfl))))), ?_⟩
    refine ⟨_, rfl, _, rfl, m, _, dx, _, _, rfl, h1, M.D.cl, M.D.nP, pieF_p _, l, _, rfl, .inl (SqL.of h2), .int (i : Int), xs.length, rfl, trivial, true, ?_, ?_⟩
    · rw [show ixB (.int (i : Int)) xs.length = true from decide_eq_true ⟨by omega, by omega⟩]
    refine iteF ?_
    exact ⟨_, rfl, m, _, dx, _, _, rfl, h1, M.D.cl, M.D.nP, pieF_p _, _, rfl, l, _, _, _, rfl, rfl, SqL.of h2, atI_nat hy, k⟩
theorem ok_mgetX (p : PtB K mg) {CT : Addr} (M : MsB K mg) (m9 : M9 K mg CT M.CM) (R : X9 P K mg CI fII CO fOI CN fNI) : FnOk P w K mg base (L2.CX P w) 3 m9.gt.f m9.gt.fd ["self", "at"] (spMGetX p.C CT M.CM CN) := by
  have T := p.D.T
  have GIx : FnOk P w K mg base CX0 2 m9.ix.f m9.ix.fd ["value", "many"] spIsIx := m9.GIx p
  refine m9.gt.F.okX scMGet (fun vs H Q E h => ?_) (fun cdv A outer s H vs Q E hr hq => ?_)
  · obtain ⟨_, _, _, rfl, _⟩ := h
    rfl
  · obtain ⟨v, i, ts, rfl, ⟨m, dx, l, xs, rfl, h1, h2, h3⟩, si, hb, k⟩ := hq
    have hr2 : Room 2 _ := hr
    refine ⟨_, pss_cons (ps_if (pt_not (pt_val (pe_call GIx hr2 rfl m9.ix.m m9.ix.F.kp m9.ix.b .nil pass0 (pa_cons (pv 1) (pa_cons (pe_callB call_len_seq (by rfl) T.len PySem.boot_len (pa_cons (pe_fld (pv 0) rfl) pa_nil)) pa_nil)))))
        (pss_one (ps_raise_number (W := fun cls d _ H => E cls d H) rfl R.xN R.gN hr2 (takes_of rfl rfl rfl rfl) (pa_cons (pv 1) pa_nil))) pss_nil) (pss_one ps_never), ?_⟩
    refine ⟨_, rfl, _, rfl, m, _, dx, _, _, rfl, h1, M.D.cl, M.D.nP, pieF_p _, l, _, rfl, .inl (SqL.of h2), i, xs.length, rfl, si, false, ?_, ?_⟩
    · rw [h3.1, hb]
    refine iteT ?_
    exact ⟨_, rfl, i, rfl, fun d nd => k d _ (same_new nd) upd_same⟩
theorem ixN_n {n i : Nat} (h : i < n) : ixN n (i : Int) = some i := by
  unfold ixN
  rw [if_pos (Int.natCast_nonneg i), if_pos (by omega), Int.toNat_natCast]
theorem putOv_none {ts : List T9} {k : Nat} {t : T9} (h : ∀ j, j < ts.length → j ≠ k → apB t (ts.getD j z9) = true) : putOv ts k t = none := by
  unfold putOv
  rw [List.find?_eq_none]
  intro j hj
  by_cases e : j = k
  · simp [e]
  · rw [h j (List.mem_range.mp hj) e]
    simp
theorem putOv_ap {ts : List T9} {k : Nat} {t : T9} (h : putOv ts k t = none) {j : Nat} (hj : j < ts.length) (e : j ≠ k) : apB t (ts.getD j z9) = true := by
  unfold putOv at h
  rw [List.find?_eq_none] at h
  have := h j (List.mem_range.mpr hj)
  simpa [e] using this
theorem putOv_some {ts : List T9} {k j : Nat} {t : T9} (hj : j < ts.length) (e : j ≠ k) (h : ∀ j', j' < j → j' ≠ k → apB t (ts.getD j' z9) = true) (hn : apB t (ts.getD j z9) = false) : putOv ts k t = some j :=
  find_range hj (by rw [hn]; simp [e]) fun j' hj' => by
    by_cases e' : j' = k
    · simp [e']
    · rw [h j' hj' e']; simp
abbrev mSetN : List Str := ["self", "at", "worth", "other", "piece"]
theorem scMSet : FnScope mSetN ["self", "at", "worth"] (defScope sMSet) := ⟨rfl, rfl, rfl, by decide +kernel, rfl, by decide +kernel, by decide +kernel⟩
theorem ok_mset (p : PtB K mg) (t : TrB K mg p.C) (M : MsB K mg) (m9 : M9 K mg t.CT M.CM) : FnOk P w K mg base CX0 10 m9.st.f m9.st.fd ["self", "at", "worth"] (spMSet p.C t.CT M.CM) := by
  have GA : FnOk P w K mg base CX0 9 M.fAp M.fdAp ["one", "other"] (spCut p.C t.CT apartT) := ok_apart M.D t.d p.D
  have GIx : FnOk P w K mg base CX0 2 m9.ix.f m9.ix.fd ["value", "many"] spIsIx := m9.GIx p
  have T := p.D.T
  have TT := t.d.TT
  refine m9.st.F.ok scMSet (fun vs H Q E h => ?_) (fun cdv A outer s H vs Q E hr hq => ?_)
  · obtain ⟨_, _, _, _, _, _, _, _, rfl, _⟩ := h
    rfl
  · obtain ⟨n, v, u, l, xs, ts, k, tt, rfl, ⟨m, dx, rfl, h1, h2, h3⟩, hk, hu, lt, n1, sm, st, po, kk⟩ := hq
    have hr9 : Room 9 _ := hr
    have hr2 : Room 2 _ := hr.mono (by decide)
    refine ⟨_, (pss_cons (ps_if (pt_not (pt_val (pe_call GIx hr2 rfl m9.ix.m m9.ix.F.kp m9.ix.b .nil pass0 (pa_cons (pv 1) (pa_cons (pe_callB call_len_seq (by rfl) T.len PySem.boot_len (pa_cons (pe_fld (pv 0) rfl) pa_nil)) pa_nil))))) (pss_one ps_never) pss_nil)
      (pss_cons (ps_if (pt_not (pt_val (pe_callB call_isi (by rfl) T.isi (by decide +kernel) (pa_cons (pv 2) (pa_cons (pe_glob (v := .ref t.CT) rfl TT.mgT rfl) pa_nil))))) (pss_one ps_never) pss_nil)
      (pss_cons (ps_for PassesOwn.never rfl (pi_enum rfl M.D.zE (pa_cons (pe_fld (pv 0) rfl) pa_nil)) (pg_tup rfl (pgs_cons (pg_name (i := 3) scMSet.nd rfl (Or.inl rfl)) (pgs_cons (pg_name (i := 4) scMSet.nd rfl (Or.inl rfl)) pgs_nil)))
      (pss_one (ps_if (PW.pt (pw_and (pt_cmpR op_ne (pv 3) (pv 1) (nomark _)) (pw_and1 (pt_not (pt_val (pe_call GA hr9 rfl M.D.mAp M.D.FAp.kp M.D.bAp .nil pass0 (pa_cons (pv 2) (pa_cons (pv 4) pa_nil)))))))) (pss_one ps_never) pss_nil)))
      (pss_one (ps_asg (pv 2) (pg_sub (pe_fld (pv 0) rfl) (pv 1) set_list)))))), ?_⟩
    refine ⟨_, rfl, _, rfl, m, _, dx, _, _, rfl, h1, M.D.cl, M.D.nP, pieF_p _, l, _, rfl, .inl (SqL.of h2), .int (k : Int), xs.length, rfl, trivial, true, ?_, ?_⟩
    · rw [show ixB (.int (k : Int)) xs.length = true from decide_eq_true ⟨by omega, by rw [h3.1]; omega⟩]
    refine iteF ?_
    obtain ⟨ta, tdx, tl, x1, x2, x3, rfl, p1, _⟩ := id hu
    refine ⟨_, rfl, _, _, _, _, true, rfl, .own t.CT, ty_tri TT p.D.T p1, TT.kTT, true, rfl, ?_⟩
    refine iteF ?_
    refine ⟨_, rfl, m, _, dx, _, _, rfl, h1, M.D.cl, M.D.nP, pieF_p _, l, xs, rfl, SqL.of h2, ?_⟩
    refine for_enumL (K := K) (a := l) (xs := xs) (fun j σ' H' => ∃ v3 v4 : Option V, σ' = [some (.ref m), some (.int (k : Int)), some (.ref ta), v3, v4] ∧ Same H H') ⟨_, _, rfl, Same.refl _⟩ (fun j σ' H' h => by
      obtain ⟨_, _, _, e⟩ := h
      exact SqL.of (e _ _ h2)) ?_ ?_
    · rintro j x a σ H2 hx ⟨v3, v4, rfl, e2⟩ nt
      have hj : j < xs.length := (List.getElem?_eq_some_iff.mp hx).1
      have g := same_new (o := .tup [.int (j : Nat), x]) nt
      have e3 := e2.trans g
      refine ⟨a, _, rfl, SqT.of upd_same, rfl, _, _, rfl, _, _, rfl, rfl, ?_⟩
      refine ⟨_, rfl, _, rfl, rfl, _, rfl, ?_⟩
      by_cases e : j = k
      · refine iteFr (by subst e; simp) ?_
        refine iteF ?_
        exact ⟨_, _, rfl, e3⟩
      · refine iteTr (by simp; omega) ?_
        have m2 := sm_d sm (show j < ts.length by rw [← h3.1]; exact hj)
        refine ⟨_, rfl, _, rfl, n, .ref ta, x, _, _, _, _, _, _, rfl, hu.ex e3, (h3.d hx).ex e3, n1, st.1, st.2.1, st.2.2, m2.1, m2.2.1, m2.2.2, fun H5 g5 => ⟨_, rfl, ?_⟩⟩
        rw [show apartT tt.1 tt.2.1 tt.2.2 (ts.getD j z9).1 (ts.getD j z9).2.1 (ts.getD j z9).2.2 = true from putOv_ap po (by rw [← h3.1]; exact hj) e]
        refine iteF ?_
        exact ⟨_, _, rfl, e3.trans g5⟩
    · rintro σ H3 ⟨v3, v4, rfl, e3⟩
      refine ⟨_, rfl, _, rfl, m, _, dx, _, _, rfl, e3 _ _ h1, M.D.cl, M.D.nP, pieF_p _, _, rfl, l, _, _, _, rfl, rfl, e3 _ _ h2, ixN_n (show k < xs.length by rw [h3.1]; exact hk), ?_⟩
      exact kk _ ((But.of e3).trans But.upd) upd_same
theorem ok_msetX (p : PtB K mg) (t : TrB K mg p.C) (M : MsB K mg) (m9 : M9 K mg t.CT M.CM) (R : X9 P K mg CI fII CO fOI CN fNI) : FnOk P w K mg base (L2.CX P w) 10 m9.st.f m9.st.fd ["self", "at", "worth"] (spMSetX p.C t.CT M.CM CI CO CN) := by
  have GA : FnOk P w K mg base CX0 9 M.fAp M.fdAp ["one", "other"] (spCut p.C t.CT apartT) := ok_apart M.D t.d p.D
  have GIx : FnOk P w K mg base CX0 2 m9.ix.f m9.ix.fd ["value", "many"] spIsIx := m9.GIx p
  have T := p.D.T
  have TT := t.d.TT
  refine m9.st.F.okX scMSet (fun vs H Q E h => ?_) (fun cdv A outer s H vs Q E hr hq => ?_)
  · obtain ⟨_, _, _, _, _, _, rfl, _⟩ := h
    rfl
  · obtain ⟨v, i, u, ts, c, o, rfl, ⟨m, dx, l, xs, rfl, h1, h2, h3⟩, bad, kk⟩ := hq
    have hr9 : Room 9 _ := hr
    have hr2 : Room 2 _ := hr.mono (by decide)
    refine ⟨_, pss_cons (ps_if (pt_not (pt_val (pe_call GIx hr2 rfl m9.ix.m m9.ix.F.kp m9.ix.b .nil pass0 (pa_cons (pv 1) (pa_cons (pe_callB call_len_seq (by rfl) T.len PySem.boot_len (pa_cons (pe_fld (pv 0) rfl) pa_nil)) pa_nil)))))
        (pss_one (ps_raise_number (W := fun cls d _ H => E cls d H) rfl R.xN R.gN hr2 (takes_of rfl rfl rfl rfl) (pa_cons (pv 1) pa_nil))) pss_nil)
      (pss_cons (ps_if (pt_not (pt_val (pe_callB call_isi (by rfl) T.isi (by decide +kernel) (pa_cons (pv 2) (pa_cons (pe_glob (v := .ref t.CT) rfl TT.mgT rfl) pa_nil)))))
        (pss_one (ps_raise_number (W := fun cls d _ H => E cls d H) rfl R.xI R.gI hr2 (takes_of rfl rfl rfl rfl) (pa_cons (pv 1) pa_nil))) pss_nil)
      (pss_cons (ps_for (passes_of rfl) rfl (pi_enum rfl M.D.zE (pa_cons (pe_fld (pv 0) rfl) pa_nil)) (pg_tup rfl (pgs_cons (pg_name (i := 3) scMSet.nd rfl (Or.inl rfl)) (pgs_cons (pg_name (i := 4) scMSet.nd rfl (Or.inl rfl)) pgs_nil)))
        (pss_one (ps_if (PW.pt (pw_and (pt_cmpR op_ne (pv 3) (pv 1) (nomark _)) (pw_and1 (pt_not (pt_val (pe_call GA hr9 rfl M.D.mAp M.D.FAp.kp M.D.bAp .nil pass0 (pa_cons (pv 2) (pa_cons (pv 4) pa_nil))))))))
          (pss_one (ps_raise_ov (W := fun cls d _ H => E cls d H) rfl R.xO R.gO hr2 (takes_of rfl rfl rfl rfl) (pa_cons (pv 1) (pa_cons (pv 3) pa_nil)))) pss_nil)))
      pss_never)), ?_⟩
    cases bad with
    | ix si hb =>
      refine ⟨_, rfl, _, rfl, m, _, dx, _, _, rfl, h1, M.D.cl, M.D.nP, pieF_p _, l, _, rfl, .inl (SqL.of h2), i, xs.length, rfl, si, false, ?_, ?_⟩
      · rw [h3.1, hb]
      refine iteT ?_
      exact ⟨_, rfl, i, rfl, fun d nd => kk d _ (same_new nd) upd_same⟩
    | @non k hk =>
      refine ⟨_, rfl, _, rfl, m, _, dx, _, _, rfl, h1, M.D.cl, M.D.nP, pieF_p _, l, _, rfl, .inl (SqL.of h2), .int (k : Int), xs.length, rfl, trivial, true, ?_, ?_⟩
      · rw [show ixB (.int (k : Int)) xs.length = true from decide_eq_true ⟨by omega, by rw [h3.1]; omega⟩]
      refine iteF ?_
      refine ⟨_, rfl, _, _, _, _, false, rfl, .own t.CT, .base .non, m9.kNT, false, rfl, ?_⟩
      exact iteT ⟨_, rfl, _, rfl, fun d nd => kk d _ (same_new nd) upd_same⟩
    | @over n k j0 _ tt hk hu lt n1 sm st ho =>
      refine ⟨_, rfl, _, rfl, m, _, dx, _, _, rfl, h1, M.D.cl, M.D.nP, pieF_p _, l, _, rfl, .inl (SqL.of h2), .int (k : Int), xs.length, rfl, trivial, true, ?_, ?_⟩
      · rw [show ixB (.int (k : Int)) xs.length = true from decide_eq_true ⟨by omega, by rw [h3.1]; omega⟩]
      refine iteF ?_
      obtain ⟨ta, tdx, tl, x1, x2, x3, rfl, p1, _⟩ := id hu
      refine ⟨_, rfl, _, _, _, _, true, rfl, .own t.CT, ty_tri TT p.D.T p1, TT.kTT, true, rfl, ?_⟩
      refine iteF ?_
      refine ⟨_, rfl, m, _, dx, _, _, rfl, h1, M.D.cl, M.D.nP, pieF_p _, l, xs, rfl, SqL.of h2, ?_⟩
      refine for_enumL (K := K) (a := l) (xs := xs) (fun j σ' H' => (∃ v3 v4 : Option V, σ' = [some (.ref m), some (.int (k : Int)), some (.ref ta), v3, v4]) ∧ Same H H' ∧ ∀ j', j' < j → j' ≠ k → apB tt (ts.getD j' z9) = true) ⟨⟨_, _, rfl⟩, Same.refl _, fun j' h => absurd h (Nat.not_lt_zero _)⟩ (fun j σ' H' h => SqL.of (h.2.1 _ _ h2)) ?_ ?_
      · rintro j x a σ H2 hx ⟨⟨v3, v4, rfl⟩, e2, hap⟩ nt
        have hj : j < xs.length := (List.getElem?_eq_some_iff.mp hx).1
        have hj' : j < ts.length := by rw [← h3.1]; exact hj
        have g := same_new (o := .tup [.int (j : Nat), x]) nt
        have e3 := e2.trans g
        refine ⟨a, _, rfl, SqT.of upd_same, rfl, _, _, rfl, _, _, rfl, rfl, ?_⟩
        refine ⟨_, rfl, _, rfl, rfl, _, rfl, ?_⟩
        by_cases e : j = k
        · refine iteFr (by subst e; simp) ?_
          refine iteF ?_
          refine ⟨⟨_, _, rfl⟩, e3, fun j' h1 h2 => hap j' (by omega) h2⟩
        · refine iteTr (by simp; omega) ?_
          have m2 := sm_d sm hj'
          refine ⟨_, rfl, _, rfl, n, .ref ta, x, _, _, _, _, _, _, rfl, hu.ex e3, (h3.d hx).ex e3, n1, st.1, st.2.1, st.2.2, m2.1, m2.2.1, m2.2.2, fun H5 g5 => ⟨_, rfl, ?_⟩⟩
          cases ap : apB tt (ts.getD j z9) with
          | true =>
            rw [show apartT tt.1 tt.2.1 tt.2.2 (ts.getD j z9).1 (ts.getD j z9).2.1 (ts.getD j z9).2.2 = true from ap]
            refine iteF ?_
            refine ⟨⟨_, _, rfl⟩, e3.trans g5, fun j' h1 h2 => ?_⟩
            by_cases e' : j' = j
            · rw [e']; exact ap
            · exact hap j' (by omega) h2
          | false =>
            rw [show apartT tt.1 tt.2.1 tt.2.2 (ts.getD j z9).1 (ts.getD j z9).2.1 (ts.getD j z9).2.2 = false from ap]
            refine iteT ?_
            have e12 := Option.some.inj (ho.symm.trans (putOv_some hj' e hap ap))
            rw [e12] at kk
            exact ⟨_, rfl, _, rfl, _, _, rfl, fun d nd => kk d _ ((e3.trans g5).trans (same_new nd)) upd_same⟩
      · rintro σ H3 ⟨_, _, hap⟩
        rw [putOv_none fun j hj e => hap j (by rw [h3.1]; exact hj) e] at ho
        cases ho
/-- two of the same triangles -/
def DTr (C CT : Addr) : L2.EqvB := fun x y b H => b = true ∧ ∃ t : T9, IsT C CT x t.1 t.2.1 t.2.2 H ∧ IsT C CT y t.1 t.2.1 t.2.2 H
theorem DTr.mon {C CT : Addr} : L2.MonB (DTr C CT) := fun x y b H H' e ⟨h1, t, h2, h3⟩ => ⟨h1, t, h2.ex e, h3.ex e⟩
theorem eqT_self (a b c : I2) : eqT a b c a b c = true := by simp [eqT, hasE]
theorem DTr.eqB {X : Cx} {C CT f : Addr} {fd : FuncData} (G : FnOk X.prog X.w X.K X.mg X.base CX0 4 f fd ["self", "other"] (spTEq C CT)) (hs : PySem.W.findIn X.K (.ref CT) "__eq__" = some (some (.ref f))) (hf : PySem.W.isFn X.K (.ref f) = true) (hb : Binds X.K fd ["self", "other"] []) : L2.EqB X 4 (DTr C CT) := by
  intro A pins s σ H x y u v b sb I rx ry d
  obtain ⟨rfl, t, hx, hy⟩ := d
  refine eqB_own (sp := spTEq C CT) (E := E0) G hs hf hb pass0 A pins s σ H x y u v true sb I rx ry ?_
  obtain ⟨a, dx, l, x1, x2, x3, rfl, k1, _⟩ := id hx
  obtain ⟨c, dy, l', y1, y2, y3, rfl, k2, _⟩ := id hy
  exact ⟨a, c, dx, dy, _, _, rfl, rfl, k1, k2, fun _ => rfl, .ref a, .ref c, t.1, t.2.1, t.2.2, rfl, hx, .inl ⟨t.1, t.2.1, t.2.2, hy, fun H' e => ⟨by rw [eqT_self], e⟩⟩⟩
abbrev mEqN : List Str := ["self", "other"]
theorem scMEq : FnScope mEqN ["self", "other"] (defScope sMEq) := ⟨rfl, rfl, rfl, by decide +kernel, rfl, by decide +kernel, by decide +kernel⟩
theorem ok_meq (p : PtB K mg) (t : TrB K mg p.C) (M : MsB K mg) (m9 : M9 K mg t.CT M.CM) : FnOk P w K mg base CX0 6 m9.eq.f m9.eq.fd ["self", "other"] (spMEq p.C t.CT M.CM) := by
  have GE : FnOk P w K mg base CX0 4 m9.te.f m9.te.fd ["self", "other"] (spTEq p.C t.CT) := ok_teq m9.te.F t.d p.D
  have T := p.D.T
  refine m9.eq.F.ok scMEq (fun vs H Q E h => ?_) (fun cdv A outer s H vs Q E hr hq => ?_)
  · obtain ⟨_, _, _, rfl, _⟩ := h
    rfl
  · obtain ⟨v, u, ts, rfl, hv, hc⟩ := hq
    have hr5 : Room 5 _ := hr
    have eqO : L2.EqB (cxOf CX0 P w K mg base mEqN "Mesh.__eq__" (defScope sMEq) m9.eq.f cdv A outer s H E).nox 4 (DTr p.C t.CT) := DTr.eqB GE m9.oTe.eq m9.oTe.fn m9.te.b
    have monO : L2.MonB (DTr p.C t.CT) := DTr.mon
    refine ⟨_, (pss_one (ps_ret (pe_and (pe_callB call_isi (by rfl) T.isi (by decide +kernel) (pa_cons (pv 1) (pa_cons (pe_glob (v := .ref M.CM) rfl M.D.mgM rfl) pa_nil))) (pe_one (pe_cmpR (op_eqL monO eqO hr5) (pe_fld (pv 0) rfl) (pe_fld (pv 1) rfl) (nomark _)))))), ?_⟩
    rcases hc with ⟨hu, k⟩ | ⟨l, xs, rfl, hl, k⟩
    · obtain ⟨m, dx, l, xs, rfl, h1, h2, h3⟩ := id hv
      obtain ⟨m', dx', l', ys, rfl, j1, j2, j3⟩ := id hu
      refine ⟨_, rfl, _, _, _, _, true, rfl, .own M.CM, .base (.ins j1 M.D.cl m9.hM T.hn T.htk m9.mM), m9.kMM, true, rfl, ?_⟩
      refine iteT ?_
      refine ⟨_, rfl, m, _, dx, _, _, rfl, h1, M.D.cl, M.D.nP, pieF_p _, _, rfl, m', _, dx', _, _, rfl, j1, M.D.cl, M.D.nP, pieF_p _, l, l', xs, ys, rfl, rfl, h2, j2, .inr ⟨List.replicate ts.length true, by rw [List.length_replicate]; exact h3.1, by rw [List.length_replicate]; exact j3.1, fun i z y b hz hy hb => ?_, fun H' e => ?_⟩⟩
      · refine ⟨?_, ts.getD i z9, h3.d hz, j3.d hy⟩
        exact List.eq_of_mem_replicate (List.mem_of_getElem? hb)
      · have : ((List.replicate ts.length true).all id) = true := by simp
        rw [this]
        exact k H' e
    · refine ⟨_, rfl, _, _, _, _, false, rfl, .own M.CM, .base (.lst hl), m9.kLM, false, rfl, ?_⟩
      exact iteF k
end
end Fo
set_option Elab.async false
set_option linter.all false
set_option maxRecDepth 100000
set_option maxHeartbeats 2000000
namespace Fo
open PySem L2
/-! ### the law's own words -/
def spLPt : Sp := fun vs H Q _ => ∃ (n : Nat) (u v : V) (t s : T9), vs = [u, v] ∧ IsTh H u t ∧ IsTh H v s ∧ n < 1000 ∧ SmTn n t ∧ SmTn n s ∧ ∀ H', Same H H' → Q (.bl (apB t s)) H'
/-- what is told of an error -/
inductive Er9 (CI CO CN : Addr) : Addr → HO → PyData → Prop
  | over (i j : Int) : Er9 CI CO CN CO (XOv i j) (.tuple [.str "over", .int i, .int j])
  | mesh (v : V) (s : Scal v) : Er9 CI CO CN CI (XDn v) (.tuple [.str "mesh", scD v])
  | num (v : V) (g : GoodV v) : Er9 CI CO CN CN (XDn v) (.tuple [.str "number", .str (scD v).shown])
structure R9 (P : Program) (K : PySem.W.Frag) (mg : Str → Option Value) (CI fII CO fOI CN fNI CF : Addr) : Prop where
  X : X9 P K mg CI fII CO fOI CN fNI
  gF : mg "FillError" = some (.ref CF)
  eI : PySem.W.exmOne K (.ref CI) (.ref CF) = some true
  eO : PySem.W.exmOne K (.ref CO) (.ref CF) = some true
  eN : PySem.W.exmOne K (.ref CN) (.ref CF) = some true
  iI : XIsC K CI
  iO : XIsC K CO
  iN : XIsC K CN
  kOO : PySem.W.kitOne K (.ref CO) (.ref CO) = some true
  kIO : PySem.W.kitOne K (.ref CI) (.ref CO) = some false
  kII : PySem.W.kitOne K (.ref CI) (.ref CI) = some true
  kNO : PySem.W.kitOne K (.ref CN) (.ref CO) = some false
  kNI : PySem.W.kitOne K (.ref CN) (.ref CI) = some false
  kNN : PySem.W.kitOne K (.ref CN) (.ref CN) = some true
  zR : mg "repr" = none
def spErrP (K : PySem.W.Frag) (CI CO CN a : Addr) (cls : Value) (d0 : Option Addr) : Sp := fun vs H Q _ => ∃ (c dd : Addr) (o : HO) (d : PyData), vs = [.ref a] ∧ cls = .ref c ∧ d0 = some dd ∧ H dd = some o ∧ Er9 CI CO CN c o d ∧ ∀ t H', Same H H' → Dp K H' (.ref t) d → Q (.ref t) H'
def spErrE (K : PySem.W.Frag) (CI CO CN : Addr) (p : Addr × Obj) : Sp := fun vs H Q E => ∃ (cls : Value) (d0 : Option Addr), Zc cls d0 p.2 ∧ (∃ fs, p.2.data = .fields fs) ∧ spErrP K CI CO CN p.1 cls d0 vs H Q E
def spAs9 (K : PySem.W.Frag) (C CT CI CO CN : Addr) : Sp := fun vs H Q _ => ∃ (v : V), vs = [v] ∧ ((∃ (n : Nat) (l : Addr) (xs : List V) (ts : List T9), v = .ref l ∧ H l = some (.lst xs) ∧ EachT C CT H xs ts ∧ ts.length ≤ 60 ∧ n < 1000 ∧ (∀ t ∈ ts, SmTn n t) ∧ firstOv ts = none ∧ ∀ t H', Same H H' → Dp K H' (.ref t) (.tuple [.str "made", .int ((ts.length : Nat) : Int)]) → Q (.ref t) H') ∨
  (∃ (c : Addr) (o : HO) (d : PyData), MBad C CT CI CO H v c o ∧ Er9 CI CO CN c o d ∧ ∀ t H', Same H H' → Dp K H' (.ref t) d → Q (.ref t) H'))
def spPu9 (K : PySem.W.Frag) (C CT CM CI CO CN : Addr) : Sp := fun vs H Q _ => ∃ (v i u : V), vs = [v, i, u] ∧ ((∃ (n : Nat) (l : Addr) (xs : List V) (ts : List T9) (k : Nat) (t : T9), i = .int (k : Int) ∧ IsML C CT CM v l xs ts H ∧ k < ts.length ∧ IsT C CT u t.1 t.2.1 t.2.2 H ∧ ts.length ≤ 60 ∧ n < 1000 ∧ (∀ t ∈ ts, SmTn n t) ∧ SmTn n t ∧ putOv ts k t = none ∧ ∀ H', But l H H' → H' l = some (.lst (xs.set k u)) → Q .non H') ∨
  (∃ (ts : List T9) (c : Addr) (o : HO) (d : PyData), IsM C CT CM v ts H ∧ SBad C CT CI CO CN ts H i u c o ∧ Er9 CI CO CN c o d ∧ ∀ t H', Same H H' → Dp K H' (.ref t) d → Q (.ref t) H'))
def spRd9 (K : PySem.W.Frag) (C CT CM : Addr) : Sp := fun vs H Q _ => ∃ (v i : V) (ts : List T9), vs = [v, i] ∧ IsM C CT CM v ts H ∧ GoodV i ∧ ixB i ts.length = false ∧ ∀ t H', Same H H' → Dp K H' (.ref t) (.tuple [.str "number", .str (scD i).shown]) → Q (.ref t) H'
/-- what the first pair that is not apart makes of it -/
def dueD (ts : List T9) : PyData := match firstOv ts with
  | none => .tuple [.str "made", .int ((ts.length : Nat) : Int)]
  | some (i, j) => .tuple [.str "over", .int ((i : Nat) : Int), .int ((j : Nat) : Int)]
def pdD (ts : List T9) (k : Nat) (t : T9) : PyData := match putOv ts k t with
  | none => .none
  | some j => .tuple [.str "over", .int ((k : Nat) : Int), .int ((j : Nat) : Int)]
def spLDu (K : PySem.W.Frag) : Sp := fun vs H Q _ => ∃ (n : Nat) (l : Addr) (xs : List V) (ts : List T9), vs = [.ref l] ∧ H l = some (.lst xs) ∧ EachTh H xs ts ∧ n < 1000 ∧ ts.length < 1000 ∧ (∀ t ∈ ts, SmTn n t) ∧ ∀ v H', Same H H' → Dp K H' v (dueD ts) → Q v H'
def spLPd (K : PySem.W.Frag) : Sp := fun vs H Q _ => ∃ (n : Nat) (l : Addr) (xs : List V) (ts : List T9) (k : Nat) (u : V) (t : T9), vs = [.ref l, .int (k : Int), u] ∧ H l = some (.lst xs) ∧ EachTh H xs ts ∧ IsTh H u t ∧ n < 1000 ∧ ts.length < 1000 ∧ (∀ t ∈ ts, SmTn n t) ∧ SmTn n t ∧ ∀ v H', Same H H' → (v = .non ↔ putOv ts k t = none) → Dp K H' v (pdD ts k t) → Q v H'
def mvT (t : T9) (b : I2) : T9 := (mv t.1 b, mv t.2.1 b, mv t.2.2 b)
def spLMv : Sp := fun vs H Q _ => ∃ (pl : Addr) (v : V) (t : T9), vs = [.ref pl, v] ∧ PoolAt pl H ∧ IsTh H v t ∧ ∀ u b H', But pl H H' → PoolAt pl H' → -3 ≤ b.1 → b.1 ≤ 3 → -3 ≤ b.2 → b.2 ≤ 3 → IsTh H' u (mvT t b) → Q u H'
def spLFr (C CT CM : Addr) : Sp := fun vs H Q _ => ∃ (n : Nat) (l : Addr) (xs : List V) (ts : List T9), vs = [.ref l] ∧ H l = some (.lst xs) ∧ EachT C CT H xs ts ∧ ts.length ≤ 60 ∧ n < 1000 ∧ (∀ t ∈ ts, SmTn n t) ∧ firstOv ts = none ∧ ∀ v l' H', Same H H' → H l' = none → IsML C CT CM v l' xs ts H' → Q v H'
structure L29 (K : PySem.W.Frag) (mg : Str → Option Value) : Type where
  TL : TxtL mg
  hd : Mo K mg "_law_hand" sHand ["script", "k"]
  dr : Mo K mg "_law_draw" sDraw ["pool", "many"]
  pr : Mo K mg "_law_pair" sPair ["pool", "size_here"]
  ls : Mo K mg "_law_side" sLSide ["a", "b", "p"]
  wy : Mo K mg "_law_ways" sWays ["corners_here"]
  cp : Mo K mg "_law_corner_points" sCP ["pool", "wide", "high"]
  spl : Mo K mg "_law_split" sSplit ["pool", "three"]
  me : Mo K mg "_law_mesh" sLMesh ["pool"]
  ld : Mo K mg "_law_laid" sLaid ["threes"]
  pt : Mo K mg "_law_parted" sLPt ["one", "other"]
  er : Mo K mg "_law_error" sLEr ["e"]
  as_ : Mo K mg "_law_asked" sLAs ["thing"]
  pu : Mo K mg "_law_put" sLPu ["mesh", "number", "triangle"]
  rd : Mo K mg "_law_read" sLRd ["mesh", "number"]
  du : Mo K mg "_law_due" sLDu ["threes"]
  pd : Mo K mg "_law_put_due" sLPd ["threes", "number", "three"]
  mv : Mo K mg "_law_moved" sLMv ["pool", "three"]
  fr : Mo K mg "_law_from" sLFr ["triangles"]
theorem T3.tp {H : Hp} {q1 q2 q3 : Addr} {t : T9} (h : T3 H q1 q2 q3 t.1 t.2.1 t.2.2) : ∀ (i : Nat) (x : V), [V.ref q1, .ref q2, .ref q3][i]? = some x → ∃ q p, x = .ref q ∧ [t.1, t.2.1, t.2.2][i]? = some p ∧ Tp H q p := fun i x hx => by
  rcases two3 hx with ⟨rfl, rfl⟩ | ⟨rfl, rfl⟩ | ⟨rfl, rfl⟩
  · exact ⟨q1, t.1, rfl, rfl, h.a⟩
  · exact ⟨q2, t.2.1, rfl, rfl, h.b⟩
  · exact ⟨q3, t.2.2, rfl, rfl, h.c⟩
theorem cutE_nil (a b d e f : I2) : ([d, e, f].filter fun p => decide (0 < sd a b p)) = [] ↔ cutE a b d e f = true := by
  unfold cutE
  rw [List.filter_eq_nil_iff]
  simp only [List.mem_cons, List.not_mem_nil, or_false, decide_eq_true_eq, Bool.and_eq_true]
  constructor
  · intro h
    exact ⟨by have := h d (.inl rfl); omega, by have := h e (.inr (.inl rfl)); omega, by have := h f (.inr (.inr rfl)); omega⟩
  · rintro ⟨h1, h2, h3⟩ p (rfl | rfl | rfl) <;> omega
theorem ones_eqv (n : Nat) : PyData.eqv (.list (List.replicate n (.int 1))) (.list []) = decide (n = 0) := by
  cases n with
  | zero => rfl
  | succ n => rfl
theorem ones_sh (n : Nat) : SeqAt.shaped (.list (List.replicate n (.int 1))) = true := Flt.shaped (n := 1) (.list fun x hx => by
  rw [List.eq_of_mem_replicate hx]
  exact .int 1) (by decide)
theorem dp_ones {K : PySem.W.Frag} {H : Hp} : ∀ n : Nat, DpAll K H (List.replicate n (.int 1)) (List.replicate n (.int 1))
  | 0 => .nil
  | n + 1 => .cons (.int 1) (dp_ones n)
section
variable {K : PySem.W.Frag}
/-- some way of ours has nothing of theirs at its left -/
theorem parted_in {n : Nat} {A B : T9} {l1 l2 : Addr} {v0 v1 w4 w5 : Option V} {D : L2.Ends} {H : Hp} (hA : IsTh H (.ref l1) A) (hB : IsTh H (.ref l2) B) (n1 : n < 1000) (sA : SmTn n A) (sB : SmTn n B)
    (h1 : cutT A.1 A.2.1 A.2.2 B.1 B.2.1 B.2.2 = true → ∀ H', Same H H' → D.rt (.bl true) H') (h2 : cutT A.1 A.2.1 A.2.2 B.1 B.2.1 B.2.2 = false → ∀ w4 w5 H', Same H H' → D.nx [v0, v1, some (.ref l1), some (.ref l2), w4, w5, none] H') :
    tFor (iList K (tCall (spWays K) [] E0 (tCons (tVar 2) tNil))) (gTup K 2 (gCons (gName 4) (gCons (gName 5) gNil))) (tIfS (tTest (tOp (rEqD K) (tLc (iList K (tVar 3)) (gName 6) (tTest (tOp (rI0 fun i j => .bl (decide (j < i))) (tCall spLSide [] E0 (tCons (tVar 4) (tCons (tVar 5) (tCons (tVar 6) tNil)))) (tC (.int 0)))) (tC (.int 1)) [6]) (tLst tNil))) (tRet (tC (.bl true))) tNext)
      D [v0, v1, some (.ref l1), some (.ref l2), w4, w5, none] H := by
  obtain ⟨l1', qa, qb, qc, e1, hl1, t1⟩ := hA
  obtain ⟨l2', q1, q2, q3, e2, hl2, t2⟩ := hB
  cases e1; cases e2
  refine ⟨_, rfl, l1, .ref qa, .ref qb, .ref qc, rfl, SqL.of hl1, fun ml e1 e2 e3 H1 nml g1 hml k1 k2 k3 => ?_⟩
  refine ⟨ml, rfl, ⟨_, SqL.of hml⟩, ?_⟩
  have way : ∀ (qu qv e : Addr) (U V' : I2) (w4 w5 : Option V) (D' : L2.Ends) (H2 : Hp), Same H1 H2 → Tp H2 qu U → Tp H2 qv V' → H2 e = some (.tup [.ref qu, .ref qv]) → Sm2 n U → Sm2 n V' → D'.rt = D.rt →
      (cutE U V' B.1 B.2.1 B.2.2 = true → ∀ H', Same H H' → D.rt (.bl true) H') → (cutE U V' B.1 B.2.1 B.2.2 = false → ∀ w4 w5 H', Same H1 H' → D'.nx [v0, v1, some (.ref l1), some (.ref l2), w4, w5, none] H') →
      (gTup K 2 (gCons (gName 4) (gCons (gName 5) gNil))) (.ref e) [v0, v1, some (.ref l1), some (.ref l2), w4, w5, none] H2 fun σ2 H3 => tIfS (tTest (tOp (rEqD K) (tLc (iList K (tVar 3)) (gName 6) (tTest (tOp (rI0 fun i j => .bl (decide (j < i))) (tCall spLSide [] E0 (tCons (tVar 4) (tCons (tVar 5) (tCons (tVar 6) tNil)))) (tC (.int 0)))) (tC (.int 1)) [6]) (tLst tNil))) (tRet (tC (.bl true))) tNext D' σ2 H3 := by
    intro qu qv e U V' w4 w5 D' H2 g2 hu hv he su sv er k1 k2
    refine ⟨e, _, rfl, SqT.of he, rfl, _, _, rfl, _, _, rfl, rfl, ?_⟩
    have hl22 := g2 _ _ (g1 _ _ hl2)
    have t22 := (t2.ex g1).ex g2
    refine ⟨_, rfl, l2, rfl, ⟨_, SqL.of hl22⟩, fun D0 nD => ?_⟩
    refine lcw (walk_list (K := K) (a := l2) (xs := [.ref q1, .ref q2, .ref q3])) [B.1, B.2.1, B.2.2] rfl (fun p => decide (0 < sd U V' p)) (fun z v _ => v = .int 1) (fun _ _ _ _ _ h => h) (fun _ _ _ _ _ _ _ _ h => h) (by show 3 < sizeLine; decide) (fun H' e => SqL.of (e _ _ hl22)) (fun _ _ _ _ y => yAt_same y) (fun i y z H3 H4 hz e3 yy Nx Q' k3 k4 => ?_) nD (fun H3 vs e3 hD hA => ?_)
    · obtain ⟨rfl, hx⟩ := yy
      obtain ⟨q, p, rfl, hp, hq⟩ := t22.tp i y hx
      rw [hz] at hp
      cases hp
      have sz : Sm2 n z := by
        have := List.mem_of_getElem? hz
        simp only [List.mem_cons, List.not_mem_nil, or_false] at this
        rcases this with rfl | rfl | rfl
        · exact sB.1
        · exact sB.2.1
        · exact sB.2.2
      refine ⟨rfl, _, rfl, _, rfl, _, rfl, n, qu, qv, q, U, V', z, rfl, ⟨e3 _ _ hu, e3 _ _ hv, e3 _ _ hq⟩, n1, su, sv, sz, _, _, rfl, rfl, _, rfl, ?_⟩
      cases hb : decide (0 < sd U V' z) with
      | true => exact iteT (k4 hb _ _ (Same.refl _) rfl)
      | false => exact iteF (k3 hb _ (Same.refl _))
    · have hv := Al2.pure (f := fun _ : I2 => V.int 1) hA
      subst hv
      have em : ([B.1, B.2.1, B.2.2].filter fun p => decide (0 < sd U V' p)).map (fun _ : I2 => V.int 1) = List.replicate ([B.1, B.2.1, B.2.2].filter fun p => decide (0 < sd U V' p)).length (V.int 1) := List.map_const' ..
      rw [em] at hD
      refine ⟨(by show 0 ≤ sizeLine; decide), fun m nm => ?_⟩
      have gm := same_new (o := .lst []) nm
      refine ⟨.list (List.replicate ([B.1, B.2.1, B.2.2].filter fun p => decide (0 < sd U V' p)).length (.int 1)), .list [], .lst (SqL.of (gm _ _ hD)) (dp_ones _), .lst (SqL.of upd_same) .nil, ones_sh _, rfl, _, rfl, ?_⟩
      rw [ones_eqv]
      have hc := cutE_nil U V' B.1 B.2.1 B.2.2
      cases hb : cutE U V' B.1 B.2.1 B.2.2 with
      | true =>
        rw [decide_eq_true (by rw [hc.mpr hb]; rfl)]
        refine iteT ?_
        show D'.rt _ _
        rw [er]
        exact k1 hb _ (((g1.trans g2).trans e3).trans gm)
      | false =>
        rw [decide_eq_false (fun z => by rw [hc.mp (List.length_eq_zero_iff.mp z)] at hb; cases hb)]
        exact iteF (k2 hb _ _ _ ((g2.trans e3).trans gm))
  have t11 := t1.ex g1
  unfold cutT at h1 h2
  refine for_list (K := K) (a := ml) (xs := [.ref e1, .ref e2, .ref e3]) (fun j σ' H' => (∃ w4 w5 : Option V, σ' = [v0, v1, some (.ref l1), some (.ref l2), w4, w5, none]) ∧ Same H1 H' ∧ (1 ≤ j → cutE A.1 A.2.1 B.1 B.2.1 B.2.2 = false) ∧ (2 ≤ j → cutE A.2.1 A.2.2 B.1 B.2.1 B.2.2 = false) ∧ (3 ≤ j → cutE A.2.2 A.1 B.1 B.2.1 B.2.2 = false)) ⟨⟨_, _, rfl⟩, Same.refl _, fun z => absurd z (by decide), fun z => absurd z (by decide), fun z => absurd z (by decide)⟩ (fun j σ' H' _ h => SqL.of (h.2.1 _ _ hml)) ?_ ?_
  · rintro j x σ H3 hx ⟨⟨w4, w5, rfl⟩, e3', p1, p2, p3⟩
    have t13 := t11.ex e3'
    rcases two3 hx with ⟨rfl, rfl⟩ | ⟨rfl, rfl⟩ | ⟨rfl, rfl⟩
    · exact way qa qb e1 A.1 A.2.1 w4 w5 _ H3 e3' t13.a t13.b (e3' _ _ k1) sA.1 sA.2.1 rfl (fun h => h1 (by rw [h]; rfl)) fun h w4 w5 H' e => ⟨⟨_, _, rfl⟩, e, fun _ => h, fun z => absurd z (by decide), fun z => absurd z (by decide)⟩
    · exact way qb qc e2 A.2.1 A.2.2 w4 w5 _ H3 e3' t13.b t13.c (e3' _ _ k2) sA.2.1 sA.2.2 rfl (fun h => h1 (by rw [h, Bool.true_or, Bool.or_true])) fun h w4 w5 H' e => ⟨⟨_, _, rfl⟩, e, fun _ => p1 (by decide), fun _ => h, fun z => absurd z (by decide)⟩
    · exact way qc qa e3 A.2.2 A.1 w4 w5 _ H3 e3' t13.c t13.a (e3' _ _ k3) sA.2.2 sA.1 rfl (fun h => h1 (by rw [h, Bool.or_true, Bool.or_true])) fun h w4 w5 H' e => ⟨⟨_, _, rfl⟩, e, fun _ => p1 (by decide), fun _ => p2 (by decide), fun _ => h⟩
  · rintro σ H3 ⟨⟨w4, w5, rfl⟩, e3', p1, p2, p3⟩
    exact h2 (by rw [p1 (by show 1 ≤ 3; decide), p2 (by show 2 ≤ 3; decide), p3 (by show 3 ≤ 3; decide)]; rfl) _ _ _ (g1.trans e3')
end
section
variable {P : Program} {w : World} {K : PySem.W.Frag} {mg : Str → Option Value} {base : Heap} {CI fII CO fOI CN fNI CF : Addr}
abbrev lPtN : List Str := ["one", "other", "ours", "theirs", "a", "b", "p"]
theorem scLPt : FnScope lPtN ["one", "other"] (defScope sLPt) := ⟨rfl, rfl, rfl, by decide +kernel, rfl, by decide +kernel, by decide +kernel⟩
theorem L29.GPt (L : L29 K mg) : FnOk P w K mg base CX0 2 L.pt.f L.pt.fd ["one", "other"] spLPt := by
  have GLs : FnOk P w K mg base CX0 1 L.ls.f L.ls.fd ["a", "b", "p"] spLSide := ok_lside L.ls.F
  have GWy : FnOk P w K mg base CX0 1 L.wy.f L.wy.fd ["corners_here"] (spWays K) := ok_ways L.wy.F L.TL
  refine L.pt.F.ok scLPt (fun vs H Q E h => ?_) (fun cdv A outer s H vs Q E hr hq => ?_)
  · obtain ⟨_, _, _, _, _, rfl, _⟩ := h
    rfl
  · obtain ⟨n, u, v, t, s', rfl, hu, hv, n1, st, ss, k⟩ := hq
    have hr1 : Room 1 _ := hr
    refine ⟨_, (pss_cons (ps_for PassesOwn.never rfl (pi_list (pe_lst (pa_cons (pe_tup (pa_cons (pv 0) (pa_cons (pv 1) pa_nil))) (pa_cons (pe_tup (pa_cons (pv 1) (pa_cons (pv 0) pa_nil))) pa_nil)))) (pg_tup rfl (pgs_cons (pg_name (i := 2) scLPt.nd rfl (Or.inl rfl)) (pgs_cons (pg_name (i := 3) scLPt.nd rfl (Or.inl rfl)) pgs_nil)))
      (pss_one (ps_for PassesOwn.never rfl (pi_list (pe_call GWy hr1 rfl L.wy.m L.wy.F.kp L.wy.b .nil pass0 (pa_cons (pv 2) pa_nil))) (pg_tup rfl (pgs_cons (pg_name (i := 4) scLPt.nd rfl (Or.inr rfl)) (pgs_cons (pg_name (i := 5) scLPt.nd rfl (Or.inr rfl)) pgs_nil)))
      (pss_one (ps_if (pt_cmpR (op_eqD hr.units) (pe_lc (own := [("p", 6)]) (g := gName 6) rfl scLPt.nd (pi_list (pv 3)) (blkOk_by (own := [("p", 6)]) (N := lPtN) (sc := defScope sLPt) (by decide +kernel)) (fun _ _ _ _ _ => (pg_name (i := 6) scLPt.nd rfl (Or.inl rfl))) (fun _ _ _ _ _ => (pts_one (pt_cmpR op_gt (pe_call GLs hr1 rfl L.ls.m L.ls.F.kp L.ls.b .nil pass0 (pa_cons (pv 4) (pa_cons (pv 5) (pa_cons (pv 6) pa_nil)))) pe_int (nomark _)))) (fun _ _ _ _ _ => pe_int)) (pe_lst pa_nil) (nomark _)) (pss_one (ps_ret pe_bl)) pss_nil)))))
      (pss_one (ps_ret pe_bl))), ?_⟩
    obtain ⟨l1, _, _, _, rfl, _⟩ := id hu
    obtain ⟨l2, _, _, _, rfl, _⟩ := id hv
    refine ⟨_, rfl, _, rfl, (by show 2 ≤ sizeLine; decide), fun t1 n1' => ⟨_, rfl, _, rfl, (by show 2 ≤ sizeLine; decide), fun t2 n2' => ⟨(by show 2 ≤ sizeLine; decide), fun lo nlo => ?_⟩⟩⟩
    have g1 := same_new (o := .tup [.ref l1, .ref l2]) n1'
    have g2 := same_new (o := .tup [.ref l2, .ref l1]) n2'
    have g3 := same_new (o := .lst [.ref t1, .ref t2]) nlo
    have h1 := g3 _ _ (g2 _ _ (show upd H t1 (.tup [.ref l1, .ref l2]) t1 = some _ from upd_same))
    have h2 := g3 _ _ (show upd (upd H t1 (.tup [.ref l1, .ref l2])) t2 (.tup [.ref l2, .ref l1]) t2 = some _ from upd_same)
    have h3 : upd (upd (upd H t1 (.tup [.ref l1, .ref l2])) t2 (.tup [.ref l2, .ref l1])) lo (.lst [.ref t1, .ref t2]) lo = some (.lst [.ref t1, .ref t2]) := upd_same
    have e0 := (g1.trans g2).trans g3
    generalize upd (upd (upd H t1 (.tup [.ref l1, .ref l2])) t2 (.tup [.ref l2, .ref l1])) lo (.lst [.ref t1, .ref t2]) = H1 at h1 h2 h3 e0 ⊢
    refine ⟨lo, rfl, ⟨_, SqL.of h3⟩, ?_⟩
    have ek : apB t s' = (cutT t.1 t.2.1 t.2.2 s'.1 s'.2.1 s'.2.2 || cutT s'.1 s'.2.1 s'.2.2 t.1 t.2.1 t.2.2) := rfl
    refine for_list (K := K) (a := lo) (xs := [.ref t1, .ref t2]) (fun j σ' H' => (∃ w2 w3 w4 w5 : Option V, σ' = [some (.ref l1), some (.ref l2), w2, w3, w4, w5, none]) ∧ Same H1 H' ∧ (1 ≤ j → cutT t.1 t.2.1 t.2.2 s'.1 s'.2.1 s'.2.2 = false) ∧ (2 ≤ j → cutT s'.1 s'.2.1 s'.2.2 t.1 t.2.1 t.2.2 = false)) ⟨⟨_, _, _, _, rfl⟩, Same.refl _, fun z => absurd z (by decide), fun z => absurd z (by decide)⟩ (fun j σ' H' _ h => SqL.of (h.2.1 _ _ h3)) ?_ ?_
    · rintro j x σ H3 hx ⟨⟨w2, w3, w4, w5, rfl⟩, e3, p1, p2⟩
      have hu3 := hu.ex (e0.trans e3)
      have hv3 := hv.ex (e0.trans e3)
      match j, hx with
      | 0, hx =>
        cases hx
        refine ⟨t1, _, rfl, SqT.of (e3 _ _ h1), rfl, _, _, rfl, _, _, rfl, rfl, ?_⟩
        exact parted_in hu3 hv3 n1 st ss (fun h H' e => by have := k H' ((e0.trans e3).trans e); rw [ek, h] at this; exact this) fun h w4 w5 H' e => ⟨⟨_, _, _, _, rfl⟩, e3.trans e, fun _ => h, fun z => absurd z (by decide)⟩
      | 1, hx =>
        cases hx
        refine ⟨t2, _, rfl, SqT.of (e3 _ _ h2), rfl, _, _, rfl, _, _, rfl, rfl, ?_⟩
        exact parted_in hv3 hu3 n1 ss st (fun h H' e => by have := k H' ((e0.trans e3).trans e); rw [ek, h, Bool.or_true] at this; exact this) fun h w4 w5 H' e => ⟨⟨_, _, _, _, rfl⟩, e3.trans e, fun _ => p1 (by decide), fun _ => h⟩
      | j + 2, hx => simp at hx
    · rintro σ H3 ⟨⟨w2, w3, w4, w5, rfl⟩, e3, p1, p2⟩
      have := k H3 (e0.trans e3)
      rw [ek, p1 (by show 1 ≤ 2; decide), p2 (by show 2 ≤ 2; decide)] at this
      exact this
end
end Fo
set_option Elab.async false
set_option linter.all false
set_option maxRecDepth 100000
set_option maxHeartbeats 2000000
namespace Fo
open PySem L2
section
variable {P : Program} {w : World} {K : PySem.W.Frag} {mg : Str → Option Value} {base : Heap} {CI fII CO fOI CN fNI CF : Addr}
theorem EachTh.d {H : Hp} {xs : List V} {ts : List T9} (h : EachTh H xs ts) {i : Nat} {v : V} (hv : xs[i]? = some v) : IsTh H v (ts.getD i z9) := by
  obtain ⟨t, h1, h2⟩ := h.2 i v hv
  rw [List.getD_eq_getElem?_getD, h1]
  exact h2
abbrev lDuN : List Str := ["threes", "number", "other"]
theorem scLDu : FnScope lDuN ["threes"] (defScope sLDu) := ⟨rfl, rfl, rfl, by decide +kernel, rfl, by decide +kernel, by decide +kernel⟩
theorem L29.GDu (L : L29 K mg) : FnOk P w K mg base CX0 3 L.du.f L.du.fd ["threes"] (spLDu K) := by
  have GPt : FnOk P w K mg base CX0 2 L.pt.f L.pt.fd ["one", "other"] spLPt := L.GPt
  refine L.du.F.ok scLDu (fun vs H Q E h => ?_) (fun cdv A outer s H vs Q E hr hq => ?_)
  · obtain ⟨_, _, _, _, rfl, _⟩ := h
    rfl
  · obtain ⟨n, l, xs, ts, rfl, hl, hE, n1, lt, sm, k⟩ := hq
    have hr2 : Room 2 _ := hr
    have hlx := hE.1
    refine ⟨_, (pss_cons (ps_for PassesOwn.never rfl (pi_range1 rfl L.TL.range (pa_cons (pe_callB call_len_seq (by rfl) L.TL.len PySem.boot_len (pa_cons (pv 0) pa_nil)) pa_nil)) (pg_name (i := 1) scLDu.nd rfl (Or.inl rfl))
      (pss_one (ps_for PassesOwn.never rfl (pi_range1 rfl L.TL.range (pa_cons (pv 1) pa_nil)) (pg_name (i := 2) scLDu.nd rfl (Or.inl rfl))
      (pss_one (ps_if (pt_not (pt_val (pe_call GPt hr2 rfl L.pt.m L.pt.F.kp L.pt.b .nil pass0 (pa_cons (pe_ix ix_list (pv 0) (pv 1) (fun _ _ => rfl)) (pa_cons (pe_ix ix_list (pv 0) (pv 2) (fun _ _ => rfl)) pa_nil))))) (pss_one (ps_ret (pe_tup (pa_cons pe_str (pa_cons (pv 1) (pa_cons (pv 2) pa_nil)))))) pss_nil)))))
      (pss_one (ps_ret (pe_tup (pa_cons pe_str (pa_cons (pe_callB call_len_seq (by rfl) L.TL.len PySem.boot_len (pa_cons (pv 0) pa_nil)) pa_nil)))))), ?_⟩
    have big : (xs.length : Int) < 2 ^ 62 := by
      have : (2 : Int) ^ 62 = 4611686018427387904 := by decide
      omega
    refine seq_gen (fun σ' H' => (∃ v1 v2 : Option V, σ' = [some (.ref l), v1, v2]) ∧ Same H H' ∧ firstOv ts = none) (fun N hN => ?_) ?_
    · refine ⟨_, rfl, l, _, rfl, .inl (SqL.of hl), _, rfl, by omega, by omega, ?_⟩
      refine for_range (lo := 0) (n := xs.length) (fun j σ' H' => (∃ v1 v2 : Option V, σ' = [some (.ref l), v1, v2]) ∧ Same H H' ∧ ∀ i, i < j → ovAt ts i = none) ⟨⟨_, _, rfl⟩, Same.refl _, fun i hi => absurd hi (Nat.not_lt_zero _)⟩ ?_ ?_
      · rintro j σ H1 hj ⟨⟨v1, v2, rfl⟩, e1, hno⟩
        dsimp only [gName]
        obtain ⟨x, hx⟩ : ∃ x, xs[j]? = some x := ⟨_, List.getElem?_eq_getElem hj⟩
        have e0 : V.int ((0 : Int) + (j : Nat)) = V.int ((j : Nat) : Int) := by rw [Int.zero_add]
        refine ⟨_, rfl, ((j : Nat) : Int), by rw [Int.zero_add], by omega, by omega, ?_⟩
        refine for_range (lo := 0) (n := j) (fun i σ' H' => (∃ v2 : Option V, σ' = [some (.ref l), some (.int (0 + (j : Int))), v2]) ∧ Same H H' ∧ ∀ i', i' < i → apB (ts.getD j z9) (ts.getD i' z9) = true) ⟨⟨_, rfl⟩, e1, fun i hi => absurd hi (Nat.not_lt_zero _)⟩ ?_ ?_
        · rintro i σ H2 hi ⟨⟨v2, rfl⟩, e2, hap⟩
          dsimp only [gName]
          have hi' : i < xs.length := by omega
          obtain ⟨y, hy⟩ : ∃ y, xs[i]? = some y := ⟨_, List.getElem?_eq_getElem hi'⟩
          have e0' : V.int ((0 : Int) + (i : Nat)) = V.int ((i : Nat) : Int) := by rw [Int.zero_add]
          refine ⟨_, rfl, _, rfl, l, _, _, _, rfl, e0, SqL.of (e2 _ _ hl), atI_nat hx, _, rfl, _, rfl, l, _, _, _, rfl, e0', SqL.of (e2 _ _ hl), atI_nat hy, ?_⟩
          refine ⟨n, x, y, _, _, rfl, (hE.d hx).ex e2, (hE.d hy).ex e2, n1, sm_d sm (by rw [← hlx]; exact hj), sm_d sm (by rw [← hlx]; exact hi'), fun H3 e3 => ⟨_, rfl, ?_⟩⟩
          cases ap : apB (ts.getD j z9) (ts.getD i z9) with
          | true =>
            refine iteF ?_
            refine ⟨⟨_, rfl⟩, e2.trans e3, fun i' h => ?_⟩
            by_cases e : i' = i
            · rw [e]; exact ap
            · exact hap i' (by omega)
          | false =>
            refine iteT ?_
            have hf := firstOv_some (show j < ts.length by rw [← hlx]; exact hj) hno (ovAt_some hi hap ap)
            refine ⟨_, rfl, _, rfl, (by show 3 ≤ sizeLine; decide), fun t nt => ?_⟩
            have g := same_new (o := .tup [.str "over", .int (0 + (j : Int)), .int (0 + (i : Int))]) nt
            refine k _ _ ((e2.trans e3).trans g) ?_
            unfold dueD
            rw [hf]
            have hd : Dp K (upd H3 t (.tup [.str "over", .int (0 + (j : Int)), .int (0 + (i : Int))])) (.ref t) (.tuple [.str "over", .int (0 + (j : Int)), .int (0 + (i : Int))]) := .tup (SqT.of upd_same) (.cons (.str _) (.cons (.int _) (.cons (.int _) .nil)))
            have ed : PyData.tuple [.str "over", .int (0 + (j : Int)), .int (0 + (i : Int))] = .tuple [.str "over", .int (j : Int), .int (i : Int)] := by rw [Int.zero_add, Int.zero_add]
            rw [ed] at hd
            exact hd
        · rintro σ H2 ⟨⟨v2, rfl⟩, e2, hap⟩
          refine ⟨⟨_, _, rfl⟩, e2, fun i h => ?_⟩
          by_cases e : i = j
          · rw [e]; exact ovAt_none hap
          · exact hno i (by omega)
      · rintro σ H1 ⟨⟨v1, v2, rfl⟩, e1, hno⟩
        exact hN _ _ ⟨⟨_, _, rfl⟩, e1, firstOv_none fun i hi => hno i (by rw [hlx]; exact hi)⟩
    rintro σ H1 ⟨⟨v1, v2, rfl⟩, e1, hf⟩
    refine ⟨_, rfl, l, _, rfl, .inl (SqL.of (e1 _ _ hl)), (by show 2 ≤ sizeLine; decide), fun t nt => ?_⟩
    refine k _ _ (e1.trans (same_new nt)) ?_
    unfold dueD
    rw [hf, ← hlx]
    exact .tup (SqT.of upd_same) (.cons (.str _) (.cons (.int _) .nil))
theorem filter_head {p : Nat → Bool} {n : Nat} : ((List.range n).filter p).head? = (List.range n).find? p := by
  rw [← List.head?_filter]
theorem find_nil {p : Nat → Bool} {n : Nat} : ((List.range n).filter p) = [] ↔ (List.range n).find? p = none := by
  rw [← filter_head, List.head?_eq_none_iff]
abbrev lPdN : List Str := ["threes", "number", "three", "over", "k"]
theorem scLPd : FnScope lPdN ["threes", "number", "three"] (defScope sLPd) := ⟨rfl, rfl, rfl, by decide +kernel, rfl, by decide +kernel, by decide +kernel⟩
theorem L29.GPd (L : L29 K mg) : FnOk P w K mg base CX0 3 L.pd.f L.pd.fd ["threes", "number", "three"] (spLPd K) := by
  have GPt : FnOk P w K mg base CX0 2 L.pt.f L.pt.fd ["one", "other"] spLPt := L.GPt
  refine L.pd.F.ok scLPd (fun vs H Q E h => ?_) (fun cdv A outer s H vs Q E hr hq => ?_)
  · obtain ⟨_, _, _, _, _, _, _, rfl, _⟩ := h
    rfl
  · obtain ⟨n, l, xs, ts, kk, u, t, rfl, hl, hE, hu, n1, lt, sm, st, k⟩ := hq
    have hr2 : Room 2 _ := hr
    have hlx := hE.1
    have big : (xs.length : Int) < 2 ^ 62 := by
      have : (2 : Int) ^ 62 = 4611686018427387904 := by decide
      omega
    refine ⟨_, (pss_cons (ps_setLc (i := 3) (own := [("k", 4)]) (g := gName 4) rfl scLPd.nd rfl rfl (sw_true rfl rfl rfl (by decide +kernel)) (pi_range1 rfl L.TL.range (pa_cons (pe_callB call_len_seq (by rfl) L.TL.len PySem.boot_len (pa_cons (pv 0) pa_nil)) pa_nil)) (blkOk_by (own := [("k", 4)]) (N := lPdN) (sc := defScope sLPd) (by decide +kernel)) (fun _ _ _ _ _ => (pg_name (i := 4) scLPd.nd rfl (Or.inl rfl))) (fun _ _ _ _ _ => (pts_one (PW.pt (pw_and (pt_cmpR op_ne (pv 4) (pv 1) (nomark _)) (pw_and1 (pt_not (pt_val (pe_call GPt hr2 rfl L.pt.m L.pt.F.kp L.pt.b .nil pass0 (pa_cons (pv 2) (pa_cons (pe_ix (r := rIxL K) ix_list (pv 0) (pv 4) (fun _ _ => rfl)) pa_nil)))))))))) (fun _ _ _ _ _ => (pv 4)))
      (pss_one (ps_ret (pe_ifExp (pt_cmpR (op_eqD hr.units) (pv 3) (pe_lst pa_nil) (nomark _)) pe_non (pe_tup (pa_cons pe_str (pa_cons (pv 1) (pa_cons (pe_ix ix_list (pv 3) pe_int (fun _ _ => rfl)) pa_nil)))))))), ?_⟩
    refine ⟨_, rfl, l, _, rfl, .inl (SqL.of hl), _, rfl, by omega, by omega, fun D nD => ?_⟩
    have lxs : xs.length < sizeLine := by
      have : (1000 : Nat) < sizeLine := by decide
      omega
    let pr : Nat → Bool := fun j => decide (j ≠ kk) && !apB t (ts.getD j z9)
    refine lcw (walk_range (lo := 0) (n := xs.length)) (List.range xs.length) (by rw [List.length_range]) pr (fun z v _ => v = .int ((z : Nat) : Int)) (fun _ _ _ _ _ h => h) (fun _ _ _ _ _ _ _ _ h => h) lxs (fun _ _ => trivial) (fun _ _ _ _ y => by rw [y.1]; exact Same.refl _) (fun i y z H2 H3 hz e2 yy Nx Q' k3 k4 => ?_) nD (fun H1 vs e1 hD hA => ?_)
    · obtain ⟨rfl, rfl⟩ := yy
      obtain ⟨hi, rfl⟩ : i < xs.length ∧ i = z := by
        obtain ⟨h1, h2⟩ := List.getElem?_eq_some_iff.mp hz
        rw [List.length_range] at h1
        rw [List.getElem_range] at h2
        exact ⟨h1, h2⟩
      have e0 : V.int ((0 : Int) + (i : Nat)) = V.int ((i : Nat) : Int) := by rw [Int.zero_add]
      obtain ⟨x, hx⟩ : ∃ x, xs[i]? = some x := ⟨_, List.getElem?_eq_getElem hi⟩
      refine ⟨rfl, _, rfl, _, rfl, rfl, _, rfl, ?_⟩
      by_cases e : i = kk
      · have hp : pr i = false := by show (decide (i ≠ kk) && _) = false; rw [e]; simp
        refine iteFr (by show (!decide (V.int (0 + (i : Int)) = V.int (kk : Int))) = false; rw [e0, e]; simp) ?_
        exact iteF (k3 hp _ (Same.refl _))
      · refine iteTr (by show (!decide (V.int (0 + (i : Int)) = V.int (kk : Int))) = true; rw [e0]; simp; omega) ?_
        refine ⟨_, rfl, _, rfl, _, rfl, l, _, _, _, rfl, e0, SqL.of (e2 _ _ hl), atI_nat hx, n, u, x, t, _, rfl, hu.ex e2, (hE.d hx).ex e2, n1, st, sm_d sm (by rw [← hlx]; exact hi), fun H4 e4 => ⟨_, rfl, ?_⟩⟩
        have hp : pr i = !apB t (ts.getD i z9) := by show (decide (i ≠ kk) && _) = _; rw [decide_eq_true e]; rfl
        cases ap : apB t (ts.getD i z9) with
        | true => exact iteF (k3 (by rw [hp, ap]; rfl) _ e4)
        | false => exact iteT ⟨_, rfl, k4 (by rw [hp, ap]; rfl) _ _ e4 e0⟩
    · have hv := Al2.pure (f := fun z : Nat => V.int ((z : Nat) : Int)) hA
      subst hv
      have ep : (List.range xs.length).find? pr = putOv ts kk t := by unfold putOv; rw [hlx]
      dsimp only [gName]
      refine ⟨_, rfl, (by show 0 ≤ sizeLine; decide), fun m nm => ?_⟩
      have gm := same_new (o := .lst []) nm
      have hD2 := gm _ _ hD
      have dpn : DpAll K (upd H1 m (.lst [])) (((List.range xs.length).filter pr).map fun z : Nat => V.int ((z : Nat) : Int)) (((List.range xs.length).filter pr).map fun z : Nat => PyData.int ((z : Nat) : Int)) := by
        induction ((List.range xs.length).filter pr) with
        | nil => exact .nil
        | cons a as ih => exact .cons (.int _) ih
      have shn : SeqAt.shaped (.list (((List.range xs.length).filter pr).map fun z : Nat => PyData.int ((z : Nat) : Int))) = true := Flt.shaped (n := 1) (.list fun x hx => by
        obtain ⟨b, _, rfl⟩ := List.mem_map.mp hx
        exact .int _) (by decide)
      refine ⟨.list _, .list [], .lst (SqL.of hD2) dpn, .lst (SqL.of upd_same) .nil, shn, rfl, _, rfl, ?_⟩
      cases hf : (List.range xs.length).filter pr with
      | nil =>
        have hn : putOv ts kk t = none := by rw [← ep]; exact find_nil.mp hf
        refine iteT ?_
        refine k .non _ (e1.trans gm) ⟨fun _ => hn, fun _ => rfl⟩ ?_
        unfold pdD
        rw [hn]
        exact .non
      | cons a as =>
        have hn : putOv ts kk t = some a := by rw [← ep, ← filter_head, hf]; rfl
        rw [hf] at hD2
        refine iteF ?_
        refine ⟨_, rfl, _, rfl, D, _, _, _, rfl, rfl, SqL.of hD2, atI_nat (j := 0) rfl, (by show 3 ≤ sizeLine; decide), fun tt nt => ?_⟩
        refine k (.ref tt) _ ((e1.trans gm).trans (same_new nt)) ⟨(fun z => nomatch z), fun z => by rw [hn] at z; cases z⟩ ?_
        unfold pdD
        rw [hn]
        exact .tup (SqT.of upd_same) (.cons (.str _) (.cons (.int _) (.cons (.int _) .nil)))
abbrev lMvN : List Str := ["pool", "three", "by", "x", "y"]
theorem scLMv : FnScope lMvN ["pool", "three"] (defScope sLMv) := ⟨rfl, rfl, rfl, by decide +kernel, rfl, by decide +kernel, by decide +kernel⟩
theorem L29.GMv (L : L29 K mg) : FnOk P w K mg base CX0 3 L.mv.f L.mv.fd ["pool", "three"] spLMv := by
  have GPr : FnOk P w K mg base CX0 2 L.pr.f L.pr.fd ["pool", "size_here"] spPair := ok_pair L.pr.F L.TL L.dr.F L.dr.b L.dr.m
  refine L.mv.F.ok scLMv (fun vs H Q E h => ?_) (fun cdv A outer s H vs Q E hr hq => ?_)
  · obtain ⟨_, _, _, rfl, _⟩ := h
    rfl
  · obtain ⟨pl, v, t, rfl, hp, hv, k⟩ := hq
    have hr2 : Room 2 _ := hr
    refine ⟨_, (pss_cons (ps_set (i := 2) scLMv.nd rfl (Or.inr rfl) (pe_call GPr hr2 rfl L.pr.m L.pr.F.kp L.pr.b .nil pass0 (pa_cons (pv 0) (pa_cons pe_int pa_nil))))
      (pss_one (ps_ret (pe_lc (own := [("x", 3), ("y", 4)]) (g := gTup K 2 (gCons (gName 3) (gCons (gName 4) gNil))) (tt := tYes) rfl scLMv.nd (pi_list (pv 1)) (blkOk_by (own := [("x", 3), ("y", 4)]) (N := lMvN) (sc := defScope sLMv) (by decide +kernel)) (fun _ _ _ _ _ => (pg_tup rfl (pgs_cons (pg_name (i := 3) scLMv.nd rfl (Or.inl rfl)) (pgs_cons (pg_name (i := 4) scLMv.nd rfl (Or.inl rfl)) pgs_nil)))) (fun _ _ _ _ _ => pts_nil) (fun _ _ _ _ _ => (pe_tup (pa_cons (pe_op op_add (pv 3) (pe_ix (r := rIxT K) ix_tup (pv 2) pe_int (fun _ _ => rfl))) (pa_cons (pe_op op_add (pv 4) (pe_ix (r := rIxT K) ix_tup (pv 2) pe_int (fun _ _ => rfl))) pa_nil)))))))), ?_⟩
    refine ⟨_, rfl, pl, 3, rfl, hp, by decide, by decide, fun qb bx by' H1 b1 p1 hb c1 c2 c3 c4 => ?_⟩
    dsimp only [gName]
    obtain ⟨lv, q1, q2, q3, rfl, hlv, t3⟩ := hv.butP hp b1
    refine ⟨_, rfl, lv, rfl, ⟨_, SqL.of hlv⟩, fun D nD => ?_⟩
    refine lcw (walk_list (K := K) (a := lv) (xs := [.ref q1, .ref q2, .ref q3])) [t.1, t.2.1, t.2.2] rfl (fun _ => true) (fun z v H => ∃ q, v = .ref q ∧ Tp H q (Fo.mv z (bx, by'))) (fun z v H H' e ⟨q, h1, h2⟩ => ⟨q, h1, e _ _ h2⟩) (fun z v H H' D ys hD b ⟨q, h1, h2⟩ => ⟨q, h1, b _ _ (ne_of h2 hD (by intro z; cases z)) h2⟩) (by show 3 < sizeLine; decide) (fun H' e => SqL.of (e _ _ hlv)) (fun _ _ _ _ y => yAt_same y) (fun i y z H2 H3 hz e2 yy Nx Q' k3 k4 => ?_) nD (fun H2 vs e2 hD hA => ?_)
    · obtain ⟨rfl, hx⟩ := yy
      obtain ⟨q, p, rfl, hp', hq⟩ := t3.tp i y hx
      rw [hz] at hp'
      cases hp'
      have hb2 := e2 _ _ hb
      refine ⟨q, _, rfl, SqT.of (e2 _ _ hq), rfl, _, _, rfl, _, _, rfl, rfl, rfl, ?_⟩
      refine ⟨_, rfl, _, rfl, qb, _, _, _, rfl, rfl, SqT.of hb2, atI_nat (j := 0) rfl, _, _, rfl, rfl, _, rfl, _, rfl, qb, _, _, _, rfl, rfl, SqT.of hb2, atI_nat (j := 1) rfl, _, _, rfl, rfl, (by show 2 ≤ sizeLine; decide), fun m nm => ?_⟩
      exact k4 rfl _ _ (same_new nm) ⟨m, rfl, upd_same⟩
    · rw [filt_all] at hA
      cases hA with
      | cons h1 hA => cases hA with
        | cons h2 hA => cases hA with
          | cons h3 hA =>
            cases hA
            obtain ⟨r1, rfl, h1⟩ := h1
            obtain ⟨r2, rfl, h2⟩ := h2
            obtain ⟨r3, rfl, h3⟩ := h3
            exact k (.ref D) (bx, by') H2 (b1.trans (But.of e2)) (p1.ex e2) c1 c2 c3 c4 ⟨D, r1, r2, r3, rfl, hD, ⟨h1, h2, h3⟩⟩
theorem refs_of {C CT : Addr} {H : Hp} {xs : List V} {ts : List T9} (h : EachT C CT H xs ts) : ∃ rs : List Addr, xs = rs.map V.ref := by
  have : ∀ x ∈ xs, ∃ a, x = V.ref a := fun x hx => by
    obtain ⟨i, hi⟩ := List.getElem?_of_mem hx
    obtain ⟨t, _, a, _, _, _, _, _, e, _⟩ := h.2 i x hi
    exact ⟨a, e⟩
  clear h
  induction xs with
  | nil => exact ⟨[], rfl⟩
  | cons x xs ih =>
    obtain ⟨a, rfl⟩ := this x List.mem_cons_self
    obtain ⟨rs, rfl⟩ := ih fun y hy => this y (List.mem_cons_of_mem _ hy)
    exact ⟨a :: rs, rfl⟩
/-- Mesh(l) -/
theorem make_m9 {C CT CM : Addr} {H : Hp} {n : Nat} {l : Addr} {xs : List V} {ts : List T9} {Q : VK} {E : XK} (hl : H l = some (.lst xs)) (hE : EachT C CT H xs ts) (lt : ts.length ≤ 60) (n1 : n < 1000) (sm : ∀ t ∈ ts, SmTn n t) (fo : firstOv ts = none) (k : ∀ v l' H', Same H H' → H l' = none → IsML C CT CM v l' xs ts H' → Q v H') :
    ∀ x dx, H x = none → H dx = none → dx ≠ x → spMI9 C CT CM (.ref x :: ([.ref l] ++ [])) (upd (upd H dx (.own x)) x (.ins CM dx [])) (fun v H2 => v = .non ∧ Q (.ref x) H2) E := fun x dx nx nd ndx => by
  have g1 : Same H (upd (upd H dx (.own x)) x (.ins CM dx [])) := (same_new nd).trans (same_new (by rw [upd_ne ndx.symm]; exact nx))
  refine ⟨n, x, dx, l, xs, ts, rfl, upd_same, g1 _ _ hl, hE.ex g1, lt, n1, sm, fo, fun l' H' bt nl hx hl' => ⟨rfl, ?_⟩⟩
  exact k _ l' H' (bt.same nx g1) (Same.none g1 nl) ⟨x, dx, rfl, hx, hl', hE.ex (bt.same nx g1)⟩
abbrev lFrN : List Str := ["triangles", "given", "mesh"]
theorem scLFr : FnScope lFrN ["triangles"] (defScope sLFr) := ⟨rfl, rfl, rfl, by decide +kernel, rfl, by decide +kernel, by decide +kernel⟩
theorem L29.GFr {p : PtB K mg} {t : TrB K mg p.C} {M : MsB K mg} (L : L29 K mg) : FnOk P w K mg base CX0 12 L.fr.f L.fr.fd ["triangles"] (spLFr p.C t.CT M.CM) := by
  have GMI : FnOk P w K mg base CX0 10 M.fMI M.fdMI ["self", "triangles"] (spMI9 p.C t.CT M.CM) := ok_mi9 p t M
  refine L.fr.F.ok scLFr (fun vs H Q E h => ?_) (fun cdv A outer s H vs Q E hr hq => ?_)
  · obtain ⟨_, _, _, _, rfl, _⟩ := h
    rfl
  · obtain ⟨n, l, xs, ts, rfl, hl, hE, lt, n1, sm, fo, k⟩ := hq
    have hr11 : Room 11 _ := hr
    refine ⟨_, (pss_cons (ps_set (i := 1) scLFr.nd rfl (Or.inl rfl) (pe_callTy call_list_of (by rfl) M.D.zL (by decide +kernel) (pa_cons (pv 0) pa_nil)))
      (pss_cons (ps_set (i := 2) scLFr.nd rfl (Or.inl rfl) (pe_make M.D.MM GMI hr11 rfl M.D.mgM M.D.bMI .nil pass0 (pa_cons (pv 1) pa_nil)))
      (pss_cons (ps_if (pt_cmpR (op_neRefs hr.units0) (pv 1) (pv 0) (nomark _)) (pss_one (ps_ret pe_non)) pss_nil)
      (pss_cons (ps_expr (pe_bm PySem.F.plainAttrs_list PySem.F.slot_list_append PySem.F.type_list_append mt_append (pv 1) (pa_cons pe_non pa_nil)))
      (pss_one (ps_ret (pv 2))))))), ?_⟩
    refine ⟨_, rfl, l, _, rfl, .inl (SqL.of hl), fun m nm => ?_⟩
    dsimp only [gName]
    have g1 := same_new (o := .lst xs) nm
    have hm1 : upd H m (.lst xs) m = some (.lst xs) := upd_same
    refine seq_gen (fun σ' H' => ∃ (v : V) (l' : Addr), σ' = [some (.ref l), some (.ref m), some v] ∧ Same (upd H m (.lst xs)) H' ∧ upd H m (.lst xs) l' = none ∧ IsML p.C t.CT M.CM v l' xs ts H') (fun N hN => ?_) ?_
    · refine ⟨_, rfl, ?_⟩
      exact make_m9 hm1 (hE.ex g1) lt n1 sm fo fun v l' H' e nl hM => hN _ _ ⟨v, l', rfl, e, nl, hM⟩
    rintro σ H2 ⟨v, l', rfl, e2, nl, hM⟩
    obtain ⟨rs, rfl⟩ := refs_of hE
    have hm2 := e2 _ _ hm1
    refine ⟨_, rfl, _, rfl, m, l, rs, rfl, rfl, hm2, (g1.trans e2) _ _ hl, _, rfl, iteF ?_⟩
    have nm' : l' ≠ m := (ne_of_none hm1 nl).symm
    refine ⟨_, rfl, .inl ⟨rfl, _, SqL.of hm2⟩, m, _, _, rfl, rfl, hm2, ?_, ?_⟩
    · have : (60 : Nat) < sizeLine := by decide
      have := hE.1
      omega
    have b3 : But m H2 (upd H2 m (.lst (rs.map V.ref ++ [.non]))) := But.upd
    refine ⟨_, rfl, k v l' _ (b3.same nm (g1.trans e2)) (Same.none g1 nl) ?_⟩
    obtain ⟨a, dx, rfl, h1, h2, h3⟩ := hM
    refine ⟨a, dx, rfl, b3 _ _ (ne_of h1 hm2 (by intro z; cases z)) h1, b3 _ _ nm' h2, ?_⟩
    exact hE.ex (b3.same nm (g1.trans e2))
end
end Fo
set_option Elab.async false
set_option linter.all false
set_option maxRecDepth 100000
set_option maxHeartbeats 2000000
namespace Fo
open PySem L2
/-! ### what is refused -/
section
variable {P : Program} {w : World} {K : PySem.W.Frag} {mg : Str → Option Value} {base : Heap} {CI fII CO fOI CN fNI CF : Addr}
theorem dp_two {K : PySem.W.Frag} {H : Hp} {t : Addr} {z : Str} {v : V} (s : Scal v) (h : H t = some (.tup [.str z, v])) : Dp K H (.ref t) (.tuple [.str z, scD v]) := .tup (SqT.of h) (.cons (.str _) (.cons (dp_sc s) .nil))
theorem scLEr : FnScope ["e"] ["e"] (defScope sLEr) := ⟨rfl, rfl, rfl, by decide +kernel, rfl, by decide +kernel, by decide +kernel⟩
theorem L29.GEr (L : L29 K mg) {C' : Addr} (T : Txt K mg C') (R : R9 P K mg CI fII CO fOI CN fNI CF) : FnE P w K mg base 1 L.er.f L.er.fd ["e"] (spErrE K CI CO CN) := by
  refine L.er.F.okE scLEr (fun p vs H Q E h => ?_) (fun cdv A outer s H vs Q E p hgd hr h => ?_)
  · obtain ⟨_, _, _, _, _, _, _, _, rfl, _⟩ := h
    rfl
  · obtain ⟨a, oe⟩ := p
    obtain ⟨cls, d0, hz, hf, c, dd, o, d, rfl, rfl, rfl, hd, hw, k⟩ := h
    have hu : (A.deeper (PyProof.Rows.envOfC (Str.ofString "_law_error") (defScope sLEr) s.heap.objs.size L.er.f cdv)).units + 64 < cLine := by
      have := hr.un
      omega
    have hp : (a, oe) ∈ (L2H.cxH CX0 P w K mg base ["e"] "_law_error" (defScope sLEr) L.er.f cdv A outer s H E (a, oe)).nox.pn := List.mem_singleton.mpr rfl
    have cR : CallR (L2H.cxH CX0 P w K mg base ["e"] "_law_error" (defScope sLEr) L.er.f cdv A outer s H E (a, oe)).nox (.builtin "repr") (rReprD K) := call_reprD hgd hu
    refine ⟨_, pss_cons (ps_if (pt_val (pe_callB (call_isP hp hz hf) (by rfl) T.isi (by decide +kernel) (pa_cons (pv 0) (pa_cons (pe_glob (v := .ref CO) rfl R.X.gO rfl) pa_nil))))
        (pss_one (ps_ret (pe_tup (pa_cons pe_str (pa_cons (pe_byPv_n1 hp hz hf (pv 0)) (pa_cons (pe_byPv_n2 hp hz hf (pv 0)) pa_nil)))))) pss_nil)
      (pss_cons (ps_if (pt_val (pe_callB (call_isP hp hz hf) (by rfl) T.isi (by decide +kernel) (pa_cons (pv 0) (pa_cons (pe_glob (v := .ref CI) rfl R.X.gI rfl) pa_nil))))
        (pss_one (ps_ret (pe_tup (pa_cons pe_str (pa_cons (pe_byP_number hp hz hf (pv 0)) pa_nil))))) pss_nil)
      (pss_one (ps_ret (pe_tup (pa_cons pe_str (pa_cons (pe_and (pe_callB (call_isP hp hz hf) (by rfl) T.isi (by decide +kernel) (pa_cons (pv 0) (pa_cons (pe_glob (v := .ref CN) rfl R.X.gN rfl) pa_nil)))
        (pe_one (pe_callB cR (by rfl) R.zR (by decide +kernel) (pa_cons (pe_byP_number hp hz hf (pv 0)) pa_nil)))) pa_nil)))))), ?_⟩
    cases hw with
    | over i j =>
      refine ⟨_, rfl, _, dd, _, _, _, true, rfl, rfl, rfl, hd, .own _, R.iO, R.kOO, true, rfl, ?_⟩
      refine iteT ?_
      refine ⟨_, rfl, rfl, _, _, R.X.xO, rfl, dd, _, _, rfl, hd, _, rfl, rfl, _, _, R.X.xO, rfl, dd, _, _, rfl, hd, (by show 3 ≤ sizeLine; decide), fun t nt => ?_⟩
      exact k t _ (same_new nt) (.tup (SqT.of upd_same) (.cons (.str _) (.cons (.int _) (.cons (.int _) .nil))))
    | mesh v s =>
      refine ⟨_, rfl, _, dd, _, _, _, false, rfl, rfl, rfl, hd, .own _, R.iI, R.kIO, false, rfl, ?_⟩
      refine iteF ?_
      refine ⟨_, rfl, _, dd, _, _, _, true, rfl, rfl, rfl, hd, .own _, R.iI, R.kII, true, rfl, ?_⟩
      refine iteT ?_
      refine ⟨_, rfl, rfl, _, _, R.X.xI, rfl, dd, v, rfl, hd, (by show 2 ≤ sizeLine; decide), fun t nt => ?_⟩
      exact k t _ (same_new nt) (dp_two s upd_same)
    | num v g =>
      refine ⟨_, rfl, _, dd, _, _, _, false, rfl, rfl, rfl, hd, .own _, R.iN, R.kNO, false, rfl, ?_⟩
      refine iteF ?_
      refine ⟨_, rfl, _, dd, _, _, _, false, rfl, rfl, rfl, hd, .own _, R.iN, R.kNI, false, rfl, ?_⟩
      refine iteF ?_
      refine ⟨_, rfl, _, dd, _, _, _, true, rfl, rfl, rfl, hd, .own _, R.iN, R.kNN, true, rfl, ?_⟩
      refine iteT ?_
      refine ⟨_, rfl, rfl, _, _, R.X.xN, rfl, dd, v, rfl, hd, v, _, rfl, dp_sc g.s, g.sh.s, g.sh.nd, g.sh.dp, g.sh.z, (by show 2 ≤ sizeLine; decide), fun t nt => ?_⟩
      exact k t _ (same_new nt) (.tup (SqT.of upd_same) (.cons (.str _) (.cons (.str _) .nil)))
theorem err_ex (R : R9 P K mg CI fII CO fOI CN fNI CF) {c : Addr} {o : HO} {d : PyData} (h : Er9 CI CO CN c o d) : PySem.W.exmOne K (.ref c) (.ref CF) = some true := by
  cases h
  · exact R.eO
  · exact R.eI
  · exact R.eN
theorem scLAs : FnScope ["thing", "e"] ["thing"] (defScope sLAs) := ⟨rfl, rfl, rfl, by decide +kernel, rfl, by decide +kernel, by decide +kernel⟩
theorem L29.GAs {p : PtB K mg} {t : TrB K mg p.C} {M : MsB K mg} (m9 : M9 K mg t.CT M.CM) (L : L29 K mg) (R : R9 P K mg CI fII CO fOI CN fNI CF) : FnG P w K mg base CX0 12 L.as_.f L.as_.fd ["thing"] (spAs9 K p.C t.CT CI CO CN) := by
  have G1 : FnOk P w K mg base (L2.CX P w) 10 M.fMI M.fdMI ["self", "triangles"] (spMI9 p.C t.CT M.CM) := (ok_mi9 p t M).up
  have G2 : FnOk P w K mg base (L2.CX P w) 10 M.fMI M.fdMI ["self", "triangles"] (spMIX p.C t.CT CI CO) := ok_miX p t M m9 R.X
  have GMI := G1.or G2
  have GLn : FnOk P w K mg base CX0 1 m9.ln.f m9.ln.fd ["self"] (spMLen p.C t.CT M.CM) := ok_mlen p M m9
  have GE : FnE P w K mg base 1 L.er.f L.er.fd ["e"] (spErrE K CI CO CN) := L.GEr p.D.T R
  have T := p.D.T
  refine L.as_.F.okG scLAs (fun vs H Q E h => ?_) (fun cdv A0 outer s H vs Q E hgd hr hq => ?_)
  · obtain ⟨_, rfl, _⟩ := h
    rfl
  · obtain ⟨a, rfl, hc⟩ := hq
    have hr11 : Room 11 _ := hr
    have hr2 : Room 2 _ := hr.mono (by decide)
    have hrE : ∀ a : Addr, L2H.RoomH 1 ((A0.deeper (PyProof.Rows.envOfC (Str.ofString "_law_asked") (defScope sLAs) s.heap.objs.size L.as_.f cdv)).mark (some (.ref a))) := fun a => ⟨(hr.mono (by decide : 1 ≤ 11)).dp, (hr.mono (by decide : 1 ≤ 11)).un⟩
    have hT : ∃ (tb : WX → TS) (ts0 : Addr → Value → Option Addr → TS), PS (cxOf CX0 P w K mg base ["thing", "e"] "_law_asked" (defScope sLAs) L.as_.f cdv A0 outer s H E).nox ((defBody sLAs).getD 0 (.Pass ⟨0, 0, 0, 0⟩)) (fun D σ H => tb (wAs K (.ref CF) 1 ts0 (fun _ _ _ _ => False) D) D σ H) ∧
        (∀ (W : WX) (D' : L2.Ends), (∀ (cl dd : Addr) (o : HO) (d : PyData) (H' : Hp), Same H H' → H' dd = some o → Er9 CI CO CN cl o d → (∀ t H'', Same H H'' → Dp K H'' (.ref t) d → Q (.ref t) H'') → EW W 2 (.ref cl) (some dd) H') → (∀ x H', Q x H' → D'.rt x H') → tb W D' (start ["thing", "e"] [a]) H) ∧
        (∀ (a cl dd : Addr) (o : HO) (d : PyData) (σ : L2.St) (H' : Hp) (D' : L2.Ends), σ[1]? = some (some (.ref a)) → H' dd = some o → Er9 CI CO CN cl o d → (∀ t H2, Same H' H2 → Dp K H2 (.ref t) d → D'.rt (.ref t) H2) → ts0 a (.ref cl) (some dd) D' σ H') := by
      refine ⟨_, _, ps_try_as (i := 1) (c := .ref CF) (Wout := fun _ _ _ _ => False) rfl rfl scLAs.nd rfl rfl ⟨rfl, by decide, .inl R.gF⟩ takes0
        (fun W pn xe tk po => pss_one (ps_ret (pe_tup (pa_cons pe_str (pa_cons (pe_callB (call_lenOwn (lenOf m9.ln) GLn hr2 m9.ln.b pass0) (by rfl) T.len PySem.boot_len (pa_cons (pe_make (E := EW W 2) M.D.MM GMI hr11 rfl M.D.mgM M.D.bMI .nil (passesW tk rfl) (pa_cons (pv 0) pa_nil)) pa_nil)) pa_nil)))))
        (fun a oe cls dd pn hz hf => pss_one (ps_ret (pe_callE (X := (cxOf CX0 P w K mg base ["thing", "e"] "_law_asked" (defScope sLAs) L.as_.f cdv A0 outer s H E).nox.suite a ((a, oe) :: pn)) (p := (a, oe)) (sp' := spErrP K CI CO CN a cls dd) (fun vs H Q h => ⟨cls, dd, hz, hf, h⟩) GE hgd (hrE a) List.mem_cons_self rfl L.er.m L.er.F.kp L.er.b (pa_cons (pv 1) pa_nil)))), ?_, ?_⟩
      · intro W D' hx hret
        rcases hc with ⟨n, l, xs, ts, rfl, hl, hE, lt, n1, sm, fo, k⟩ | ⟨c, o, d, bad, her, k⟩
        · refine ⟨_, rfl, fun x dx nx nd ne => .inl (make_m9 (Q := fun v H' => rLenOwn M.CM (spMLen p.C t.CT M.CM) E0 ([v] ++ []) H' (fun v H' => 2 ≤ sizeLine ∧ ∀ q, H' q = none → D'.rt (.ref q) (upd H' q (.tup [.str "made", v])))) hl hE lt n1 sm fo (fun v l' H' e _ hM => ?_) x dx nx nd ne)⟩
          obtain ⟨b0, db, fs, rfl, g1⟩ := m_at hM.n
          refine ⟨b0, db, _, rfl, g1, .ref b0, ts, rfl, hM.n, ts.length, rfl, Nat.lt_of_le_of_lt lt (by decide), by decide, fun q nq => ?_⟩
          exact hret _ _ (k q _ (e.trans (same_new nq)) (.tup (SqT.of upd_same) (.cons (.str _) (.cons (.int _) .nil))))
        · refine ⟨_, rfl, fun x dx nx nd ne => .inr ?_⟩
          have g1 : Same H (upd (upd H dx (.own x)) x (.ins M.CM dx [])) := fun b o e => by
            rw [upd_ne (ne_of_none e nx), upd_ne (ne_of_none e nd)]
            exact e
          exact ⟨x, a, c, o, rfl, bad.ex g1, fun dd H' e hd => hx c dd o d H' (g1.trans e) hd her k⟩
      · intro a cl dd o d σ H' D' hσ hd hk k'
        exact ⟨_, hσ, cl, dd, o, d, rfl, rfl, rfl, hd, hk, k'⟩
    obtain ⟨tb, ts0, hPS, h1, h2⟩ := hT
    refine ⟨_, pss_one hPS, ?_⟩
    refine h1 _ _ (fun cl dd o d H' e' hd hk kq σ hσ => ⟨true, err_ex R hk, fun _ a na => ?_, (fun z => nomatch z)⟩) (fun x H' h => h)
    refine h2 a cl dd o d _ H' _ ?_ hd hk fun t H2 e2 ht => kq t H2 (e'.trans e2) ht
    rw [List.getElem?_set_self (by omega)]
theorem scLPu : FnScope ["mesh", "number", "triangle", "e"] ["mesh", "number", "triangle"] (defScope sLPu) := ⟨rfl, rfl, rfl, by decide +kernel, rfl, by decide +kernel, by decide +kernel⟩
theorem L29.GPu {p : PtB K mg} {t : TrB K mg p.C} {M : MsB K mg} (m9 : M9 K mg t.CT M.CM) (L : L29 K mg) (R : R9 P K mg CI fII CO fOI CN fNI CF) : FnG P w K mg base CX0 12 L.pu.f L.pu.fd ["mesh", "number", "triangle"] (spPu9 K p.C t.CT M.CM CI CO CN) := by
  have G1 : FnOk P w K mg base (L2.CX P w) 10 m9.st.f m9.st.fd ["self", "at", "worth"] (spMSet p.C t.CT M.CM) := (ok_mset p t M m9).up
  have G2 : FnOk P w K mg base (L2.CX P w) 10 m9.st.f m9.st.fd ["self", "at", "worth"] (spMSetX p.C t.CT M.CM CI CO CN) := ok_msetX p t M m9 R.X
  have GS := G1.or G2
  have GE : FnE P w K mg base 1 L.er.f L.er.fd ["e"] (spErrE K CI CO CN) := L.GEr p.D.T R
  refine L.pu.F.okG scLPu (fun vs H Q E h => ?_) (fun cdv A0 outer s H vs Q E hgd hr hq => ?_)
  · obtain ⟨_, _, _, rfl, _⟩ := h
    rfl
  · obtain ⟨v, i, u, rfl, hc⟩ := hq
    have hr10 : Room 10 _ := hr.mono (by decide)
    have hrE : ∀ a : Addr, L2H.RoomH 1 ((A0.deeper (PyProof.Rows.envOfC (Str.ofString "_law_put") (defScope sLPu) s.heap.objs.size L.pu.f cdv)).mark (some (.ref a))) := fun a => ⟨(hr.mono (by decide : 1 ≤ 11)).dp, (hr.mono (by decide : 1 ≤ 11)).un⟩
    have hT : ∃ (tb : WX → TS) (ts0 : Addr → Value → Option Addr → TS), PS (cxOf CX0 P w K mg base ["mesh", "number", "triangle", "e"] "_law_put" (defScope sLPu) L.pu.f cdv A0 outer s H E).nox ((defBody sLPu).getD 0 (.Pass ⟨0, 0, 0, 0⟩)) (fun D σ H => tb (wAs K (.ref CF) 3 ts0 (fun _ _ _ _ => False) D) D σ H) ∧
        (∀ (W : WX) (D' : L2.Ends), (∀ (cl dd : Addr) (o : HO) (d : PyData) (H' : Hp), Same H H' → H' dd = some o → Er9 CI CO CN cl o d → (∀ t H'', Same H H'' → Dp K H'' (.ref t) d → Q (.ref t) H'') → EW W 4 (.ref cl) (some dd) H') → (∀ σ H', Q .non H' → D'.nx σ H') → tb W D' (start ["mesh", "number", "triangle", "e"] [v, i, u]) H) ∧
        (∀ (a cl dd : Addr) (o : HO) (d : PyData) (σ : L2.St) (H' : Hp) (D' : L2.Ends), σ[3]? = some (some (.ref a)) → H' dd = some o → Er9 CI CO CN cl o d → (∀ t H2, Same H' H2 → Dp K H2 (.ref t) d → D'.rt (.ref t) H2) → ts0 a (.ref cl) (some dd) D' σ H') := by
      refine ⟨_, _, ps_try_as (i := 3) (c := .ref CF) (Wout := fun _ _ _ _ => False) rfl rfl scLPu.nd rfl rfl ⟨rfl, by decide, .inl R.gF⟩ takes0
        (fun W pn xe tk po => pss_one (ps_asg (pv 2) (pg_sub (pv 0) (pv 1) (set_own (E := EW W 4) m9.oSt GS hr10 m9.st.b (passesW tk rfl)))))
        (fun a oe cls dd pn hz hf => pss_one (ps_ret (pe_callE (X := (cxOf CX0 P w K mg base ["mesh", "number", "triangle", "e"] "_law_put" (defScope sLPu) L.pu.f cdv A0 outer s H E).nox.suite a ((a, oe) :: pn)) (p := (a, oe)) (sp' := spErrP K CI CO CN a cls dd) (fun vs H Q h => ⟨cls, dd, hz, hf, h⟩) GE hgd (hrE a) List.mem_cons_self rfl L.er.m L.er.F.kp L.er.b (pa_cons (pv 3) pa_nil)))), ?_, ?_⟩
      · intro W D' hx hret
        rcases hc with ⟨n, l, xs, ts, k0, tt, rfl, hM, hk, hu, lt, n1, sm, st, po, k⟩ | ⟨ts, c, o, d, hM, bad, her, k⟩
        · obtain ⟨b0, db, fs, rfl, g1⟩ := m_at hM.n
          exact ⟨_, rfl, _, rfl, _, rfl, b0, db, _, rfl, g1, .inl ⟨n, .ref b0, u, l, xs, ts, k0, tt, rfl, hM, hk, hu, lt, n1, sm, st, po, fun H' b hl' => hret _ _ (k H' b hl')⟩⟩
        · obtain ⟨b0, db, fs, rfl, g1⟩ := m_at hM
          exact ⟨_, rfl, _, rfl, _, rfl, b0, db, _, rfl, g1, .inr ⟨.ref b0, i, u, ts, c, o, rfl, hM, bad, fun dd H' e hd => hx c dd o d H' e hd her k⟩⟩
      · intro a cl dd o d σ H' D' hσ hd hk k'
        exact ⟨_, hσ, cl, dd, o, d, rfl, rfl, rfl, hd, hk, k'⟩
    obtain ⟨tb, ts0, hPS, h1, h2⟩ := hT
    refine ⟨_, pss_cons hPS (pss_one (ps_ret pe_non)), ?_⟩
    refine h1 _ _ (fun cl dd o d H' e' hd hk kq σ hσ => ⟨true, err_ex R hk, fun _ a na => ?_, (fun z => nomatch z)⟩) (fun σ H' h => h)
    refine h2 a cl dd o d _ H' _ ?_ hd hk fun t H2 e2 ht => kq t H2 (e'.trans e2) ht
    rw [List.getElem?_set_self (by omega)]
theorem scLRd : FnScope ["mesh", "number", "e"] ["mesh", "number"] (defScope sLRd) := ⟨rfl, rfl, rfl, by decide +kernel, rfl, by decide +kernel, by decide +kernel⟩
theorem L29.GRd {p : PtB K mg} {CT : Addr} {M : MsB K mg} (m9 : M9 K mg CT M.CM) (L : L29 K mg) (R : R9 P K mg CI fII CO fOI CN fNI CF) : FnG P w K mg base CX0 5 L.rd.f L.rd.fd ["mesh", "number"] (spRd9 K p.C CT M.CM) := by
  have GG : FnOk P w K mg base (L2.CX P w) 3 m9.gt.f m9.gt.fd ["self", "at"] (spMGetX p.C CT M.CM CN) := ok_mgetX p M m9 R.X
  have GE : FnE P w K mg base 1 L.er.f L.er.fd ["e"] (spErrE K CI CO CN) := L.GEr p.D.T R
  have T := p.D.T
  refine L.rd.F.okG scLRd (fun vs H Q E h => ?_) (fun cdv A0 outer s H vs Q E hgd hr hq => ?_)
  · obtain ⟨_, _, _, rfl, _⟩ := h
    rfl
  · obtain ⟨v, i, ts, rfl, hM, gi, hb, k⟩ := hq
    have hr4 : Room 4 _ := hr
    have hrE : ∀ a : Addr, L2H.RoomH 1 ((A0.deeper (PyProof.Rows.envOfC (Str.ofString "_law_read") (defScope sLRd) s.heap.objs.size L.rd.f cdv)).mark (some (.ref a))) := fun a => ⟨(hr.mono (by decide : 1 ≤ 4)).dp, (hr.mono (by decide : 1 ≤ 4)).un⟩
    have hT : ∃ (tb : WX → TS) (ts0 : Addr → Value → Option Addr → TS), PS (cxOf CX0 P w K mg base ["mesh", "number", "e"] "_law_read" (defScope sLRd) L.rd.f cdv A0 outer s H E).nox ((defBody sLRd).getD 0 (.Pass ⟨0, 0, 0, 0⟩)) (fun D σ H => tb (wAs K (.ref CF) 2 ts0 (fun _ _ _ _ => False) D) D σ H) ∧
        (∀ (W : WX) (D' : L2.Ends), (∀ (dd : Addr) (H' : Hp), Same H H' → H' dd = some (XDn i) → EW W 3 (.ref CN) (some dd) H') → tb W D' (start ["mesh", "number", "e"] [v, i]) H) ∧
        (∀ (a cl dd : Addr) (o : HO) (d : PyData) (σ : L2.St) (H' : Hp) (D' : L2.Ends), σ[2]? = some (some (.ref a)) → H' dd = some o → Er9 CI CO CN cl o d → (∀ t H2, Same H' H2 → Dp K H2 (.ref t) d → D'.rt (.ref t) H2) → ts0 a (.ref cl) (some dd) D' σ H') := by
      refine ⟨_, _, ps_try_as (i := 2) (c := .ref CF) (Wout := fun _ _ _ _ => False) rfl rfl scLRd.nd rfl rfl ⟨rfl, by decide, .inl R.gF⟩ takes0
        (fun W pn xe tk po => pss_one (ps_ret (pe_ixOwn (E := EW W 3) m9.oGt GG hr4 m9.gt.b (passesW tk rfl) (pv 0) (pv 1))))
        (fun a oe cls dd pn hz hf => pss_one (ps_ret (pe_callE (X := (cxOf CX0 P w K mg base ["mesh", "number", "e"] "_law_read" (defScope sLRd) L.rd.f cdv A0 outer s H E).nox.suite a ((a, oe) :: pn)) (p := (a, oe)) (sp' := spErrP K CI CO CN a cls dd) (fun vs H Q h => ⟨cls, dd, hz, hf, h⟩) GE hgd (hrE a) List.mem_cons_self rfl L.er.m L.er.F.kp L.er.b (pa_cons (pv 2) pa_nil)))), ?_, ?_⟩
      · intro W D' hx
        obtain ⟨b0, db, fs, rfl, g1⟩ := m_at hM
        exact ⟨_, rfl, _, rfl, b0, db, _, rfl, g1, .ref b0, i, ts, rfl, hM, gi.s, hb, fun dd H' e hd => hx dd H' e hd⟩
      · intro a cl dd o d σ H' D' hσ hd hk k'
        exact ⟨_, hσ, cl, dd, o, d, rfl, rfl, rfl, hd, hk, k'⟩
    obtain ⟨tb, ts0, hPS, h1, h2⟩ := hT
    refine ⟨_, pss_one hPS, ?_⟩
    refine h1 _ _ (fun dd H' e' hd σ hσ => ⟨true, R.eN, fun _ a na => ?_, (fun z => nomatch z)⟩)
    refine h2 a CN dd _ _ _ H' _ ?_ hd (.num i gi) fun t H2 e2 ht => k t H2 (e'.trans e2) ht
    rw [List.getElem?_set_self (by omega)]
end
end Fo
set_option Elab.async false
set_option linter.all false
set_option maxRecDepth 100000
set_option maxHeartbeats 2000000
namespace Fo
open PySem L2
/-! ### what stands in the law, lists of triangles, far triangles -/
theorem IsT.not_pt {C CT : Addr} {v : V} {a b c : I2} {x y : Int} {H : Hp} (h : IsT C CT v a b c H) (h' : IsP C v x y H) : False := by
  obtain ⟨q, dx, l, v1, v2, v3, rfl, h1, _⟩ := h
  obtain ⟨a, da, e, h2⟩ := h'
  cases e
  rw [h1] at h2
  injection h2 with h2
  injection h2 with _ _ h3
  have h4 := congrArg (List.lookup ("tips" : Str)) h3
  rw [tipF_tips, ptF_no _ _ (by decide +kernel) (by decide +kernel)] at h4
  cases h4
section
variable {C CT CM ml : Addr} {ys : List V} {qs : List T9} {H H' : Hp}
theorem IsT.butM {v : V} {a b c : I2} (hl : H ml = some (.lst ys)) (hE : EachT C CT H ys qs) (bb : But ml H H') (h : IsT C CT v a b c H) : IsT C CT v a b c H' := by
  obtain ⟨t, dx, l, v1, v2, v3, rfl, h1, h2, h3⟩ := h
  have nl : l ≠ ml := fun z => by
    rw [z, hl] at h2
    injection h2 with h2
    injection h2 with h2
    subst h2
    obtain ⟨t', _, k⟩ := hE.2 0 v1 rfl
    exact k.not_pt h3.1
  exact ⟨t, dx, l, v1, v2, v3, rfl, bb _ _ (ne_of h1 hl (by intro z; cases z)) h1, bb _ _ nl h2, h3.1.but hl bb, h3.2.1.but hl bb, h3.2.2.but hl bb⟩
theorem IsTh.butM {v : V} {t : T9} (hl : H ml = some (.lst ys)) (hE : EachT C CT H ys qs) (bb : But ml H H') (h : IsTh H v t) : IsTh H' v t := by
  obtain ⟨l, q1, q2, q3, rfl, h1, h2⟩ := h
  have nl : l ≠ ml := fun z => by
    rw [z, hl] at h1
    injection h1 with h1
    injection h1 with h1
    subst h1
    obtain ⟨t', _, q, dx, l', w1, w2, w3, e, k1, _⟩ := hE.2 0 (.ref q1) rfl
    cases e
    have := h2.a
    cases (show some (HO.tup _) = some (HO.ins _ _ _) from this.symm.trans k1)
  have tn : ∀ {q : Addr} {p : I2}, Tp H q p → Tp H' q p := fun {q p} hq => bb _ _ (ne_of hq hl (by intro z; cases z)) hq
  exact ⟨l, q1, q2, q3, rfl, bb _ _ nl h1, ⟨tn h2.a, tn h2.b, tn h2.c⟩⟩
theorem EachT.butM {xs : List V} {ts : List T9} (hl : H ml = some (.lst ys)) (hE : EachT C CT H ys qs) (bb : But ml H H') (h : EachT C CT H xs ts) : EachT C CT H' xs ts := ⟨h.1, fun i v hv => by
  obtain ⟨t, h1, h2⟩ := h.2 i v hv
  exact ⟨t, h1, h2.butM hl hE bb⟩⟩
theorem EachTh.butM {xs : List V} {ts : List T9} (hl : H ml = some (.lst ys)) (hE : EachT C CT H ys qs) (bb : But ml H H') (h : EachTh H xs ts) : EachTh H' xs ts := ⟨h.1, fun i v hv => by
  obtain ⟨t, h1, h2⟩ := h.2 i v hv
  exact ⟨t, h1, h2.butM hl hE bb⟩⟩
theorem EachT.butP {pl : Addr} {xs : List V} {ts : List T9} (p : PoolAt pl H) (bb : But pl H H') (h : EachT C CT H xs ts) : EachT C CT H' xs ts := ⟨h.1, fun i v hv => by
  obtain ⟨t, h1, h2⟩ := h.2 i v hv
  exact ⟨t, h1, h2.butP' p bb⟩⟩
theorem EachT.set {k : Nat} {u : V} {t : T9} {xs : List V} {ts : List T9} (h : EachT C CT H xs ts) (hu : IsT C CT u t.1 t.2.1 t.2.2 H) : EachT C CT H (xs.set k u) (ts.set k t) := ⟨by simp [h.1], fun i v hv => by
  by_cases e : k = i
  · subst e
    have hk := (List.getElem?_eq_some_iff.mp hv).1
    rw [List.length_set] at hk
    rw [List.getElem?_set_self hk] at hv
    cases hv
    exact ⟨t, List.getElem?_set_self (by rw [← h.1]; exact hk), hu⟩
  · rw [List.getElem?_set_ne e] at hv
    obtain ⟨t', h1, h2⟩ := h.2 i v hv
    exact ⟨t', by rw [List.getElem?_set_ne e]; exact h1, h2⟩⟩
theorem EachT.snoc {u : V} {t : T9} {xs : List V} {ts : List T9} (h : EachT C CT H xs ts) (hu : IsT C CT u t.1 t.2.1 t.2.2 H) : EachT C CT H (xs ++ [u]) (ts ++ [t]) := by
  refine ⟨by rw [List.length_append, List.length_append, h.1]; rfl, fun i v hv => ?_⟩
  rcases get_snoc hv with hv | ⟨rfl, rfl⟩
  · obtain ⟨t', h1, h2⟩ := h.2 i v hv
    exact ⟨t', by rw [List.getElem?_append_left (List.getElem?_eq_some_iff.mp h1).1]; exact h1, h2⟩
  · exact ⟨t, by rw [h.1]; simp, hu⟩
theorem EachTh.cut {xs : List V} {ts : List T9} (h : EachTh H xs ts) (m : Nat) : EachTh H (xs.take m) (ts.take m) := ⟨by rw [List.length_take, List.length_take, h.1], fun i v hv => by
  have hi : i < m := by
    have := (List.getElem?_eq_some_iff.mp hv).1
    rw [List.length_take] at this
    omega
  rw [List.getElem?_take_of_lt hi] at hv
  obtain ⟨t', h1, h2⟩ := h.2 i v hv
  exact ⟨t', by rw [List.getElem?_take_of_lt hi]; exact h1, h2⟩⟩
theorem EachTh.rest {xs : List V} {ts : List T9} (h : EachTh H xs ts) (m : Nat) : EachTh H (xs.drop m) (ts.drop m) := ⟨by rw [List.length_drop, List.length_drop, h.1], fun i v hv => by
  rw [List.getElem?_drop] at hv
  obtain ⟨t', h1, h2⟩ := h.2 _ v hv
  exact ⟨t', by rw [List.getElem?_drop]; exact h1, h2⟩⟩
theorem EachT.cut {xs : List V} {ts : List T9} (h : EachT C CT H xs ts) (m : Nat) : EachT C CT H (xs.take m) (ts.take m) := ⟨by rw [List.length_take, List.length_take, h.1], fun i v hv => by
  have hi : i < m := by
    have := (List.getElem?_eq_some_iff.mp hv).1
    rw [List.length_take] at this
    omega
  rw [List.getElem?_take_of_lt hi] at hv
  obtain ⟨t', h1, h2⟩ := h.2 i v hv
  exact ⟨t', by rw [List.getElem?_take_of_lt hi]; exact h1, h2⟩⟩
variable {v : V} {l pl : Addr} {xs : List V} {ts : List T9}
theorem IsML.neP (h : IsML C CT CM v l xs ts H) (p : PoolAt pl H) : l ≠ pl := fun z => by
  obtain ⟨m, dx, _, _, h2, h3⟩ := h
  obtain ⟨i, j, hp, _⟩ := p
  rw [z, hp] at h2
  cases h2
  obtain ⟨t, _, a, _, _, _, _, _, e, _⟩ := h3.2 0 _ rfl
  cases e
theorem IsML.butP (p : PoolAt pl H) (b : But pl H H') (h : IsML C CT CM v l xs ts H) : IsML C CT CM v l xs ts H' := by
  have n := h.neP p
  obtain ⟨m, dx, rfl, h1, h2, h3⟩ := h
  obtain ⟨i, j, hp, _⟩ := id p
  exact ⟨m, dx, rfl, b _ _ (ne_of h1 hp (by intro z; cases z)) h1, b _ _ n h2, h3.butP p b⟩
theorem IsML.set {k : Nat} {u : V} {t : T9} (h : IsML C CT CM v l xs ts H) (b : But l H H') (hl : H' l = some (.lst (xs.set k u))) (hu : IsT C CT u t.1 t.2.1 t.2.2 H) : IsML C CT CM v l (xs.set k u) (ts.set k t) H' := by
  obtain ⟨m, dx, rfl, h1, h2, h3⟩ := h
  exact ⟨m, dx, rfl, b _ _ (ne_of h1 h2 (by intro z; cases z)) h1, hl, (EachT.butM h2 h3 b h3).set (hu.butM h2 h3 b)⟩
theorem IsML.at (h : IsML C CT CM v l xs ts H) : ∃ m dx, v = .ref m ∧ H m = some (.ins CM dx (pieF l)) := by
  obtain ⟨m, dx, h1, h2, _⟩ := h
  exact ⟨m, dx, h1, h2⟩
end
theorem PoolAt.but {pl z : Addr} {H H' : Hp} (hp : PoolAt pl H) (ne : z ≠ pl) (b : But z H H') : PoolAt pl H' := by
  obtain ⟨i, j, h1, h2⟩ := hp
  exact ⟨i, j, b _ _ (fun e => ne e.symm) h1, h2⟩
/-- what stands all along -/
structure J29 (C CT CM pl lt lx ml : Addr) (xs us ys : List V) (ts qs : List T9) (mv : V) (H : Hp) : Prop where
  pool : PoolAt pl H
  th : H lt = some (.lst xs)
  eh : EachTh H xs ts
  tr : H lx = some (.lst us)
  et : EachT C CT H us ts
  me : IsML C CT CM mv ml ys qs H
  n1 : lt ≠ ml
  n2 : lx ≠ ml
  n4 : lt ≠ pl
  n5 : lx ≠ pl
section
variable {C CT CM pl lt lx ml : Addr} {xs us ys : List V} {ts qs : List T9} {mv : V} {H H' : Hp}
theorem J29.ex (e : Same H H') (J : J29 C CT CM pl lt lx ml xs us ys ts qs mv H) : J29 C CT CM pl lt lx ml xs us ys ts qs mv H' :=
  ⟨J.pool.ex e, e _ _ J.th, J.eh.ex e, e _ _ J.tr, J.et.ex e, J.me.ex e, J.n1, J.n2, J.n4, J.n5⟩
theorem J29.butP (b : But pl H H') (p' : PoolAt pl H') (J : J29 C CT CM pl lt lx ml xs us ys ts qs mv H) : J29 C CT CM pl lt lx ml xs us ys ts qs mv H' :=
  ⟨p', b _ _ J.n4 J.th, J.eh.butP J.pool b, b _ _ J.n5 J.tr, J.et.butP J.pool b, J.me.butP J.pool b, J.n1, J.n2, J.n4, J.n5⟩
theorem J29.m (J : J29 C CT CM pl lt lx ml xs us ys ts qs mv H) : H ml = some (.lst ys) ∧ EachT C CT H ys qs := by
  obtain ⟨_, _, _, _, g, h⟩ := J.me
  exact ⟨g, h⟩
theorem J29.butM {k : Nat} {u : V} {t : T9} (b : But ml H H') (hl : H' ml = some (.lst (ys.set k u))) (hu : IsT C CT u t.1 t.2.1 t.2.2 H) (J : J29 C CT CM pl lt lx ml xs us ys ts qs mv H) : J29 C CT CM pl lt lx ml xs us (ys.set k u) ts (qs.set k t) mv H' :=
  have h := J.m
  ⟨J.pool.but (J.me.neP J.pool) b, b _ _ J.n1 J.th, J.eh.butM h.1 h.2 b, b _ _ J.n2 J.tr, EachT.butM h.1 h.2 b J.et, J.me.set b hl hu, J.n1, J.n2, J.n4, J.n5⟩
end
/-! ### the list a mesh tells, with its own objects -/
def spMTL (C CT CM : Addr) : Sp := fun vs H Q _ => ∃ (v : V) (l : Addr) (xs : List V) (ts : List T9), vs = [v] ∧ IsML C CT CM v l xs ts H ∧ ∀ l' H', H l' = none → Same H H' → H' l' = some (.lst xs) → Q (.ref l') H'
section
variable {P : Program} {w : World} {K : PySem.W.Frag} {mg : Str → Option Value} {base : Heap} {C CT CI CO CN : Addr}
theorem ok_mTL (M : MsB K mg) : FnOk P w K mg base CX0 1 M.fMT M.fdMT ["self"] (spMTL C CT M.CM) := by
  refine M.D.FMT.ok scMTris (fun vs H Q E h => ?_) (fun cdv A outer s H vs Q E hr hq => ?_)
  · obtain ⟨v, _, _, _, rfl, _⟩ := h
    rfl
  · obtain ⟨v, l, xs, ts, rfl, ⟨m, dx, rfl, h1, h2, h3⟩, k⟩ := hq
    refine ⟨_, pss_one (ps_ret (pe_callTy call_list_of (by rfl) M.D.zL (by decide +kernel) (pa_cons (pe_fld (pv 0) rfl) pa_nil))), ?_⟩
    refine ⟨_, rfl, m, M.CM, dx, _, _, rfl, h1, M.D.cl, M.D.nP, pieF_p _, l, _, rfl, .inl (SqL.of h2), fun l' nl' => ?_⟩
    exact k l' _ nl' (same_new nl') upd_same
theorem ne_tri {v : V} {a b c : I2} {H : Hp} {Q : VK} {E : XK} (hv : IsT C CT v a b c H) (k : ∀ H', Same H H' → Q (.bl false) H') : rOwnNe CT (spTEq C CT) E v v H Q := by
  obtain ⟨q, dx, l, _, _, _, e1, h1, _⟩ := id hv
  exact ⟨q, dx, _, q, dx, _, e1, h1, e1, h1, v, v, a, b, c, rfl, hv, .inl ⟨a, b, c, hv, fun H' e => ⟨true, by rw [eqT_self], k H' e⟩⟩⟩
theorem ne_mesh {CM : Addr} {v u : V} {ts : List T9} {H : Hp} {Q : VK} {E : XK} (hv : IsM C CT CM v ts H) (hu : IsM C CT CM u ts H) (k : ∀ H', Same H H' → Q (.bl false) H') : rOwnNe CM (spMEq C CT CM) E v u H Q := by
  obtain ⟨a, dx, _, _, e1, h1, _⟩ := id hv
  obtain ⟨b, dy, _, _, e2, h2, _⟩ := id hu
  exact ⟨a, dx, _, b, dy, _, e1, h1, e2, h2, v, u, ts, rfl, hv, .inl ⟨hu, fun H' e => ⟨true, rfl, k H' e⟩⟩⟩
theorem eq_meshL {CM b : Addr} {v : V} {xs : List V} {ts : List T9} {H : Hp} {Q : VK} {E : XK} (hv : IsM C CT CM v ts H) (hb : H b = some (.lst xs)) (k : Q (.bl false) H) : rOwnEqL CM (spMEq C CT CM) E v (.ref b) H Q := by
  obtain ⟨a, dx, _, _, e1, h1, _⟩ := id hv
  exact ⟨a, dx, _, b, xs, e1, h1, rfl, hb, v, .ref b, ts, rfl, hv, .inr ⟨b, xs, rfl, hb, k⟩⟩
/-- [Triangle(three[0], three[1], three[2]) for three in l] -/
theorem tris_lc {l D : Addr} {xs : List V} {ts : List T9} {n sl : Nat} {σ : L2.St} {H1 : Hp} {E : XK} {Qd : Hp → Prop} (hl : H1 l = some (.lst xs)) (hE : EachTh H1 xs ts) (pos : ∀ t ∈ ts, 0 < sd t.1 t.2.1 t.2.2) (n1 : n < 1000) (sm : ∀ t ∈ ts, SmTn n t) (lq : ts.length ≤ 100) (nD : H1 D = none)
    (k : ∀ us H', Same H1 H' → H' D = some (.lst us) → EachT C CT H' us ts → Qd H') (hsl : sl < σ.length := by simp) :
    ∃ W : Nat → Nat → Hp → Prop, (∃ m, W 0 m (upd H1 D (.lst []))) ∧ ∀ i m H, W i m H →
      ((Itl K l).stop i H ∧ Qd H) ∨ ((Itl K l).go i H ∧ ∃ Nx : Hp → Prop, (∀ H', Nx H' → ∃ m', m' < m ∧ W (i + 1) m' H') ∧ ∀ x H', (Itl K l).yld i H x H' → gName sl x (wipe σ [sl]) H' fun σ2 H2 => wipe σ2 [sl] = wipe σ [sl] ∧ tYes σ2 H2 fun b H3 =>
        if b = true then tMake CT (spTInit C CT) [] E (tCons (tOp (rIxL K) (tVar sl) (tC (.int 0))) (tCons (tOp (rIxL K) (tVar sl) (tC (.int 1))) (tCons (tOp (rIxL K) (tVar sl) (tC (.int 2))) tNil))) σ2 H3 fun y H4 => ∃ acc, H4 D = some (.lst acc) ∧ acc.length < sizeLine ∧ Nx (upd H4 D (.lst (acc ++ [y]))) else Nx H3) := by
  have w1 : ∀ x : V, ((σ.set sl none).set sl (some x)).set sl none = σ.set sl none := fun x => by rw [List.set_set, List.set_set]
  have w2 : ∀ x : V, ((σ.set sl none).set sl (some x))[sl]? = some (some x) := fun x => List.getElem?_set_self (by simpa using hsl)
  refine lc_list (K := K) (a := l) (xs := xs) (fun i H' => Same H1 H' ∧ ∃ vs : List V, H' D = some (.lst vs) ∧ vs.length = i ∧ ∀ (j : Nat) (v : V), vs[j]? = some v → ∃ t : T9, ts[j]? = some t ∧ IsTD C CT D v t H') ?_ ?_ ?_ ?_
  · exact ⟨same_new nD, [], upd_same, rfl, fun j v h => by simp at h⟩
  · rintro i H' _ ⟨e, _⟩
    exact e.seq (SqL.of hl)
  · rintro i x H' hx ⟨e, vs, hv, hlen, hR⟩
    have hi : i < xs.length := (List.getElem?_eq_some_iff.mp hx).1
    obtain ⟨t, ht, lq', q1, q2, q3, rfl, hlq, t3⟩ := hE.2 i x hx
    have hlq' := e _ _ hlq
    have t3' := t3.ex e
    have tm := List.mem_of_getElem? ht
    have hT0 := pos t tm
    have hs := sm t tm
    refine ⟨w1 _, ?_⟩
    unfold tYes
    dsimp only
    rw [if_pos rfl]
    refine ⟨_, w2 _, lq', _, _, _, rfl, rfl, SqL.of hlq', atI_nat (j := 0) rfl, _, w2 _, lq', _, _, _, rfl, rfl, SqL.of hlq', atI_nat (j := 1) rfl, _, w2 _, lq', _, _, _, rfl, rfl, SqL.of hlq', atI_nat (j := 2) rfl, fun tx dx nx nd ne => ?_⟩
    have g1 : Same H' (upd (upd H' dx (.own tx)) tx (.ins CT dx [])) := (same_new nd).trans (same_new (by rw [upd_ne ne.symm]; exact nx))
    refine ⟨n, tx, dx, .ref q1, .ref q2, .ref q3, t.1, t.2.1, t.2.2, rfl, upd_same, ⟨q1, rfl, .inr (g1 _ _ t3'.a)⟩, ⟨q2, rfl, .inr (g1 _ _ t3'.b)⟩, ⟨q3, rfl, .inr (g1 _ _ t3'.c)⟩, n1, hs.1, hs.2.1, hs.2.2, by omega, fun l' v1 v2 v3 H2 bt hx' hl' ht' => ⟨rfl, ?_⟩⟩
    have eb : onB t.1 t.2.1 t.2.2 = t.2.1 := by unfold onB; rw [if_pos hT0]
    have ec : onC t.1 t.2.1 t.2.2 = t.2.2 := by unfold onC; rw [if_pos hT0]
    rw [eb, ec] at ht'
    have e2 := But.same nx g1 bt
    have hv2 := e2 _ _ hv
    have nl : l' ≠ D := fun z => by
      rw [z, hv2] at hl'
      injection hl' with hl'
      injection hl' with hl'
      subst hl'
      obtain ⟨t', _, h'⟩ := hR 0 v1 rfl
      exact tri_pt (h'.ex e2) ht'.1
    have hNew : IsTD C CT D (.ref tx) t H2 := ⟨tx, dx, l', v1, v2, v3, rfl, hx', hl', nl, ht'⟩
    refine ⟨vs, hv2, Nat.lt_of_le_of_lt (by rw [hE.1] at hi; omega : vs.length ≤ 100) (by decide), But.upd.same nD (e.trans e2), vs ++ [.ref tx], upd_same, by rw [List.length_append, hlen]; rfl, fun j v hj => ?_⟩
    rcases get_snoc hj with hj | ⟨rfl, rfl⟩
    · obtain ⟨t', h1, h2⟩ := hR j v hj
      exact ⟨t', h1, (h2.ex e2).but hv2 But.upd⟩
    · exact ⟨t, by rw [hlen]; exact ht, hNew.but hv2 But.upd⟩
  · rintro H2 ⟨e, vs, hv, hlen, hR⟩
    refine k vs H2 e hv ⟨by rw [hlen]; exact hE.1, fun i v hv' => ?_⟩
    obtain ⟨t, h1, h2⟩ := hR i v hv'
    exact ⟨t, h1, h2.t⟩
/-! ### what is asked, and what is due -/
theorem sh2 {z : Str} (hw : PyData.canLay0 (.str z) = true) {d : PyData} (hd : PyData.canLay0 d = true) (dd : d.depth = 0) : SeqAt.shaped (.tuple [.str z, d]) = true := by
  show (PyData.canLay0 (.tuple [.str z, d]) && decide (PyData.depth (.tuple [.str z, d]) ≤ 64)) = true
  have e1 : PyData.canLay0 (.tuple [.str z, d]) = true := by
    simp only [PyData.canLay0, PyData.canLayAll0] at hw ⊢
    rw [hw, hd]
    rfl
  have e2 : PyData.depth (.tuple [.str z, d]) ≤ 64 := by simp [PyData.depth, PyData.depthAll, dd]
  rw [e1, decide_eq_true e2]
  rfl
theorem sh3 {z : Str} (hw : PyData.canLay0 (.str z) = true) (i j : Int) : SeqAt.shaped (.tuple [.str z, .int i, .int j]) = true := by
  show (PyData.canLay0 (.tuple [.str z, .int i, .int j]) && decide (PyData.depth (.tuple [.str z, .int i, .int j]) ≤ 64)) = true
  have e1 : PyData.canLay0 (.tuple [.str z, .int i, .int j]) = true := by
    simp only [PyData.canLay0, PyData.canLayAll0] at hw ⊢
    rw [hw]
    rfl
  have e2 : PyData.depth (.tuple [.str z, .int i, .int j]) ≤ 64 := by simp [PyData.depth, PyData.depthAll]
  rw [e1, decide_eq_true e2]
  rfl
theorem strMade : PyData.canLay0 (.str "made") = true := by decide +kernel
theorem strOver : PyData.canLay0 (.str "over") = true := by decide +kernel
theorem strMesh : PyData.canLay0 (.str "mesh") = true := by decide +kernel
theorem strNum : PyData.canLay0 (.str "number") = true := by decide +kernel
theorem dueD_sh {ts : List T9} : SeqAt.shaped (dueD ts) = true := by
  unfold dueD
  split
  · exact sh2 strMade rfl rfl
  · exact sh3 strOver _ _
theorem pdD_sh {ts : List T9} {k : Nat} {t : T9} : SeqAt.shaped (pdD ts k t) = true := by
  unfold pdD
  split
  · rfl
  · exact sh3 strOver _ _
theorem as_due {n : Nat} {l : Addr} {xs : List V} {ts : List T9} {H : Hp} {Q : VK} {E : XK} (hl : H l = some (.lst xs)) (hE : EachT C CT H xs ts) (lt : ts.length ≤ 60) (n1 : n < 1000) (sm : ∀ t ∈ ts, SmTn n t)
    (k : ∀ t H', Same H H' → Dp K H' (.ref t) (dueD ts) → Q (.ref t) H') : spAs9 K C CT CI CO CN [.ref l] H Q E := by
  refine ⟨_, rfl, ?_⟩
  cases ho : firstOv ts with
  | none =>
    refine .inl ⟨n, l, xs, ts, rfl, hl, hE, lt, n1, sm, ho, fun t H' e hd => k t H' e ?_⟩
    unfold dueD
    rw [ho]
    exact hd
  | some p =>
    obtain ⟨i, j⟩ := p
    refine .inr ⟨_, _, _, .over hl hE lt n1 sm ho, .over _ _, fun t H' e hd => k t H' e ?_⟩
    unfold dueD
    rw [ho]
    exact hd
end
/-! ### far triangles -/
def farT (k : Nat) : T9 := ((9 * (k : Int), 0), (9 * (k : Int) + 1, 0), (9 * (k : Int), 1))
def fars (n : Nat) : List T9 := (List.range n).map farT
theorem fars_len (n : Nat) : (fars n).length = n := by simp [fars]
theorem fars_get {n i : Nat} (h : i < n) : (fars n).getD i z9 = farT i := by
  simp [fars, List.getD_eq_getElem?_getD, h]
theorem far_sd (i : Nat) (p : I2) : sd (farT i).2.2 (farT i).1 p = p.1 - 9 * (i : Int) := by
  show (9 * (i : Int) - 9 * (i : Int)) * (p.2 - 1) - (0 - 1) * (p.1 - 9 * (i : Int)) = _
  rw [Int.sub_self]
  omega
theorem far_pos (k : Nat) : 0 < sd (farT k).1 (farT k).2.1 (farT k).2.2 := by
  show 0 < (9 * (k : Int) + 1 - 9 * (k : Int)) * (1 - 0) - (0 - 0) * (9 * (k : Int) - 9 * (k : Int))
  omega
theorem far_ap {i j : Nat} (h : j < i) : apB (farT i) (farT j) = true := by
  have c : cutE (farT i).2.2 (farT i).1 (farT j).1 (farT j).2.1 (farT j).2.2 = true := by
    unfold cutE
    rw [far_sd, far_sd, far_sd]
    simp only [farT, Bool.and_eq_true, decide_eq_true_eq]
    exact ⟨decide_eq_true (by omega), decide_eq_true (by omega), decide_eq_true (by omega)⟩
  show (cutT _ _ _ _ _ _ || _) = true
  unfold cutT
  rw [c]
  simp
theorem far_none (n : Nat) : firstOv (fars n) = none := firstOv_none fun i hi => ovAt_none fun j hj => by
  rw [fars_len] at hi
  rw [fars_get hi, fars_get (show j < n by omega)]
  exact far_ap hj
theorem far_sm {k : Nat} (h : k < 61) : SmTn 10 (farT k) := by
  unfold SmTn Sm2 Sm farT
  simp only
  omega
theorem good16 {n : Nat} (h : n ≤ 16) : GoodV (.int ((n : Nat) : Int)) := by
  have : n = 0 ∨ n = 1 ∨ n = 2 ∨ n = 3 ∨ n = 4 ∨ n = 5 ∨ n = 6 ∨ n = 7 ∨ n = 8 ∨ n = 9 ∨ n = 10 ∨ n = 11 ∨ n = 12 ∨ n = 13 ∨ n = 14 ∨ n = 15 ∨ n = 16 := by omega
  rcases this with rfl | rfl | rfl | rfl | rfl | rfl | rfl | rfl | rfl | rfl | rfl | rfl | rfl | rfl | rfl | rfl | rfl <;> exact good_by trivial (by decide +kernel)
theorem mvT_sm {t : T9} {b : I2} (h : SmT t) (h1 : -3 ≤ b.1) (h2 : b.1 ≤ 3) (h3 : -3 ≤ b.2) (h4 : b.2 ≤ 3) : SmTn 7 (mvT t b) := by
  have f : ∀ {p : I2}, Sm2 6 p → Sm2 7 (Fo.mv p b) := fun {p} hp => by
    have a1 := hp.1
    have a2 := hp.2
    unfold Sm at a1 a2
    constructor <;> show Int.natAbs _ < 2 ^ 7 <;> simp only [Fo.mv] <;> omega
  exact ⟨f h.1, f h.2.1, f h.2.2⟩
theorem smT_up {t : T9} (h : SmT t) : SmTn 7 t := ⟨h.1.up (by decide), h.2.1.up (by decide), h.2.2.up (by decide)⟩
theorem mvT_pos {t : T9} {b : I2} (h : 0 < sd t.1 t.2.1 t.2.2) : 0 < sd (mvT t b).1 (mvT t b).2.1 (mvT t b).2.2 := by
  unfold mvT
  rw [sd_mv]
  exact h
theorem cut_first {xs : List V} {m : Nat} (h2 : m ≤ xs.length) : cutV xs none (some (m : Int)) = xs.take m := by
  unfold cutV HT.sIx
  dsimp only
  rw [if_neg (by omega), Int.toNat_natCast, Nat.min_eq_left h2, List.drop_zero, Nat.sub_zero]
theorem cut_rest {xs : List V} {m : Nat} (h2 : m ≤ xs.length) : cutV xs (some (m : Int)) none = xs.drop m := by
  unfold cutV HT.sIx
  dsimp only
  rw [if_neg (by omega), Int.toNat_natCast, Nat.min_eq_left h2]
  exact List.take_of_length_le (Nat.le_of_eq List.length_drop)
theorem set_cut {α : Type} {xs : List α} {i : Nat} {x : α} (h : i < xs.length) : xs.take i ++ [x] ++ xs.drop (i + 1) = xs.set i x := by
  rw [List.set_eq_take_append_cons_drop, if_pos h, List.append_assoc]
  rfl
theorem flat_rep {v : V} : ∀ n : Nat, (List.replicate n [v]).flatten = List.replicate n v
  | 0 => rfl
  | n + 1 => by rw [List.replicate_succ, List.flatten_cons, flat_rep n, List.replicate_succ]; rfl
/-- ("mesh", None) -/
abbrev dMN : PyData := .tuple [.str "mesh", .none]
theorem dp_mn {K : PySem.W.Frag} {D : Addr} {v : V} {H H' : Hp} {ys : List V} (hD : H D = some (HO.lst ys)) (b : But D H H') (h : Dp K H v dMN) : Dp K H' v dMN := by
  cases h with
  | @tup _ vs _ hs ha =>
    have ha' : DpAll K H' vs [.str "mesh", .none] := by
      cases ha with
      | cons h1 h2 =>
        cases h1
        cases h2 with
        | cons h3 h4 =>
          cases h3
          cases h4
          exact .cons (.str _) (.cons .non .nil)
    refine .tup ?_ ha'
    rcases hs with (h | ⟨o, h⟩) | h
    · exact .inl (.inl (b _ _ (ne_of h hD (by intro z; cases z)) h))
    · exact .inl (.inr ⟨o, b _ _ (ne_of h hD (by intro z; cases z)) h⟩)
    · exact .inr h
theorem mn_sh : SeqAt.shaped (.list [dMN, dMN, dMN]) = true := by decide +kernel
theorem dmn_sh : SeqAt.shaped dMN = true := by decide +kernel
theorem fars_cut : (fars 61).take 60 = fars 60 := by
  unfold fars
  rw [← List.map_take, List.take_range]
  rfl
theorem fars_at {i : Nat} (h : i < 61) : (fars 61)[i]? = some (farT i) := by
  simp [fars, h]
theorem fars_sm {n : Nat} (h : n ≤ 61) : ∀ t ∈ fars n, SmTn 10 t := fun t ht => by
  obtain ⟨i, hi, rfl⟩ := List.mem_map.mp ht
  exact far_sm (by have := List.mem_range.mp hi; omega)
end Fo
set_option Elab.async false
set_option linter.all false
set_option maxRecDepth 100000
set_option maxHeartbeats 2000000
namespace Fo
open PySem L2
/-! ### the law -/
def spLaw (K : PySem.W.Frag) : Sp := fun vs H Q _ => ∃ (a : Addr) (ns : List Int), vs = [.ref a] ∧ SqL K H a (ns.map V.int) ∧ ns.length ≤ 63 ∧ ∀ H', Q (.bl true) H'
section
variable {P : Program} {w : World} {K : PySem.W.Frag} {mg : Str → Option Value} {base : Heap} {CI fII CO fOI CN fNI CF : Addr}
abbrev lawN : List Str := ["script", "k", "pool", "threes", "triangles", "mesh", "at", "to", "moved", "more", "new", "due", "odd", "far", "three", "thing"]
theorem scLaw : FnScope lawN ["script"] (defScope sLaw) := ⟨rfl, rfl, rfl, by decide +kernel, rfl, by decide +kernel, by decide +kernel⟩
theorem ok_law {f : Addr} {fd : FuncData} (F : Fun K "law" "law" sLaw f fd) (p : PtB K mg) (t : TrB K mg p.C) (M : MsB K mg) (m9 : M9 K mg t.CT M.CM) (L : L29 K mg) (R : R9 P K mg CI fII CO fOI CN fNI CF) : FnG P w K mg base CX0 14 f fd ["script"] (spLaw K) := by
  have GH : FnOk P w K mg base CX0 1 L.hd.f L.hd.fd ["script", "k"] (spHand K) := ok_hand L.hd.F L.TL
  have GD : FnOk P w K mg base CX0 1 L.dr.f L.dr.fd ["pool", "many"] spDraw := ok_draw L.dr.F L.TL
  have GLm : FnOk P w K mg base CX0 3 L.me.f L.me.fd ["pool"] spLMesh := ok_lmesh L.me.F L.TL L.dr.F L.dr.b L.dr.m L.cp.F L.cp.b L.cp.m L.spl.F L.spl.b L.spl.m
  have GLd : FnOk P w K mg base CX0 12 L.ld.f L.ld.fd ["threes"] (spLaid p.C t.CT M.CM) := ok_laid L.ld.F M.D t.d p.D
  have GTI : FnOk P w K mg base CX0 8 t.fTI t.fdTI ["self", "a", "b", "c"] (spTInit p.C t.CT) := t.d.GTI p.D
  have GFr : FnOk P w K mg base CX0 12 L.fr.f L.fr.fd ["triangles"] (spLFr p.C t.CT M.CM) := L.GFr (p := p) (t := t) (M := M)
  have GMT : FnOk P w K mg base CX0 1 M.fMT M.fdMT ["self"] (spMTL p.C t.CT M.CM) := ok_mTL M
  have GMl : FnOk P w K mg base CX0 1 m9.ln.f m9.ln.fd ["self"] (spMLen p.C t.CT M.CM) := ok_mlen p M m9
  have GME : FnOk P w K mg base CX0 6 m9.eq.f m9.eq.fd ["self", "other"] (spMEq p.C t.CT M.CM) := ok_meq p t M m9
  have GMv : FnOk P w K mg base CX0 3 L.mv.f L.mv.fd ["pool", "three"] spLMv := L.GMv
  have GAs : FnG P w K mg base CX0 12 L.as_.f L.as_.fd ["thing"] (spAs9 K p.C t.CT CI CO CN) := L.GAs m9 R
  have GDu : FnOk P w K mg base CX0 3 L.du.f L.du.fd ["threes"] (spLDu K) := L.GDu
  have GA : FnOk P w K mg base CX0 9 M.fAp M.fdAp ["one", "other"] (spCut p.C t.CT apartT) := ok_apart M.D t.d p.D
  have GPt : FnOk P w K mg base CX0 2 L.pt.f L.pt.fd ["one", "other"] spLPt := L.GPt
  have GPd : FnOk P w K mg base CX0 3 L.pd.f L.pd.fd ["threes", "number", "three"] (spLPd K) := L.GPd
  have GPu : FnG P w K mg base CX0 12 L.pu.f L.pu.fd ["mesh", "number", "triangle"] (spPu9 K p.C t.CT M.CM CI CO CN) := L.GPu m9 R
  have GMg : FnOk P w K mg base CX0 3 m9.gt.f m9.gt.fd ["self", "at"] (spMGet p.C t.CT M.CM) := ok_mget p M m9
  have GTe : FnOk P w K mg base CX0 4 m9.te.f m9.te.fd ["self", "other"] (spTEq p.C t.CT) := ok_teq m9.te.F t.d p.D
  have GRd : FnG P w K mg base CX0 5 L.rd.f L.rd.fd ["mesh", "number"] (spRd9 K p.C t.CT M.CM) := L.GRd m9 R
  have GMI : FnOk P w K mg base CX0 10 M.fMI M.fdMI ["self", "triangles"] (spMI9 p.C t.CT M.CM) := ok_mi9 p t M
  have T := p.D.T
  have TT := t.d.TT
  refine F.okG scLaw (fun vs H Q E h => ?_) (fun cdv A0 outer s H vs Q E hgd hr hq => ?_)
  · obtain ⟨a, ns, rfl, _⟩ := h
    rfl
  · obtain ⟨sa, ns, rfl, hS, hlen, kk⟩ := hq
    have hr13 : Room 13 _ := hr
    have hr12 : Room 12 _ := hr.mono (by decide)
    have hr11 : Room 11 _ := hr.mono (by decide)
    have hr9 : Room 9 _ := hr.mono (by decide)
    have hr7 : Room 7 _ := hr.mono (by decide)
    have hr6 : Room 6 _ := hr.mono (by decide)
    have hr5 : Room 5 _ := hr.mono (by decide)
    have hr4 : Room 4 _ := hr.mono (by decide)
    have hr3 : Room 3 _ := hr.mono (by decide)
    have hr2 : Room 2 _ := hr.mono (by decide)
    have hr1 : Room 1 _ := hr.mono (by decide)
    have hu : (A0.deeper (PyProof.Rows.envOfC (Str.ofString "law") (defScope sLaw) s.heap.objs.size f cdv)).units + 64 < cLine := by
      have := hr.un
      omega
    have cR : CallR (cxOf CX0 P w K mg base lawN "law" (defScope sLaw) f cdv A0 outer s H E).nox (.builtin "repr") (rReprD K) := call_reprD hgd hu
    refine ⟨_, (pss_cons (ps_for PassesOwn.never rfl (pi_range1 rfl L.TL.range (pa_cons (pe_callB (call_max2 rfl) (by rfl) L.TL.max (by decide +kernel) (pa_cons pe_int (pa_cons (pe_callB (call_min2 rfl) (by rfl) L.TL.min (by decide +kernel) (pa_cons (pe_callB call_len_seq (by rfl) L.TL.len PySem.boot_len (pa_cons (pv 0) pa_nil)) (pa_cons pe_int pa_nil))) pa_nil))) pa_nil)) (pg_name (i := 1) scLaw.nd rfl (Or.inl rfl))
      (pss_cons (ps_set (i := 2) scLaw.nd rfl (Or.inl rfl) (pe_call GH hr1 rfl L.hd.m L.hd.F.kp L.hd.b .nil pass0 (pa_cons (pv 0) (pa_cons (pv 1) pa_nil))))
      (pss_cons (ps_set (i := 3) scLaw.nd rfl (Or.inl rfl) (pe_call GLm hr3 rfl L.me.m L.me.F.kp L.me.b .nil pass0 (pa_cons (pv 2) pa_nil)))
      (pss_cons (ps_setLc (i := 4) (own := [("three", 14)]) (g := gName 14) (tt := tYes) rfl scLaw.nd rfl rfl (sw_true rfl rfl rfl (by decide +kernel)) (pi_list (pv 3)) (blkOk_by (own := [("three", 14)]) (N := lawN) (sc := defScope sLaw) (by decide +kernel)) (fun _ _ _ _ _ => (pg_name (i := 14) scLaw.nd rfl (Or.inl rfl))) (fun _ _ _ _ _ => pts_nil) (fun _ _ _ _ _ => (pe_make t.d.MT GTI hr9 rfl TT.mgT t.d.bTI .nil pass0 (pa_cons (pe_ix (r := rIxL K) ix_list (pv 14) pe_int (fun _ _ => rfl)) (pa_cons (pe_ix (r := rIxL K) ix_list (pv 14) pe_int (fun _ _ => rfl)) (pa_cons (pe_ix (r := rIxL K) ix_list (pv 14) pe_int (fun _ _ => rfl)) pa_nil))))))
      (pss_cons (ps_set (i := 5) scLaw.nd rfl (Or.inl rfl) (pe_call GFr hr12 rfl L.fr.m L.fr.F.kp L.fr.b .nil pass0 (pa_cons (pv 4) pa_nil)))
      (pss_cons (ps_if (PW.pt (pw_or (pt_cmpR op_isN (pv 5) pe_non (nomark _)) (pw_or (pt_cmpR (op_neRefs hr.units0) (pe_meth0 (pv 5) M.D.cl M.D.mMT GMT hr1 M.D.bMT .nil pass0) (pv 4) (nomark _)) (pw_or1 (pt_cmpR op_ne (pe_callB (call_lenOwn (lenOf m9.ln) GMl hr2 m9.ln.b pass0) (by rfl) L.TL.len PySem.boot_len (pa_cons (pv 5) pa_nil)) (pe_callB call_len_seq (by rfl) L.TL.len PySem.boot_len (pa_cons (pv 3) pa_nil)) (nomark _)))))) (pss_one (ps_ret pe_bl)) pss_nil)
      (pss_cons (ps_if (PW.pt (pw_or (pt_cmpR (op_ownNe m9.oEq GME hr7 m9.eq.b pass0) (pv 5) (pe_call GLd hr12 rfl L.ld.m L.ld.F.kp L.ld.b .nil pass0 (pa_cons (pv 3) pa_nil)) (nomark _)) (pw_or1 (pt_cmpR (op_ownEqL m9.oEq.eq m9.oEq.fn m9.nl GME hr6 m9.eq.b pass0) (pv 5) (pv 4) (nomark _))))) (pss_one (ps_ret pe_bl)) pss_nil)
      (pss_cons (ps_expr (pe_bm PySem.F.plainAttrs_list PySem.F.slot_list_append PySem.F.type_list_append mt_append (pe_meth0 (pv 5) M.D.cl M.D.mMT GMT hr1 M.D.bMT .nil pass0) (pa_cons pe_non pa_nil)))
      (pss_cons (ps_par (i := 6) (j := 7) (by rfl) scLaw.nd rfl rfl (by decide) rfl rfl (pa_cons (pe_call GD hr1 rfl L.dr.m L.dr.F.kp L.dr.b .nil pass0 (pa_cons (pv 2) (pa_cons (pe_callB call_len_seq (by rfl) L.TL.len PySem.boot_len (pa_cons (pv 3) pa_nil)) pa_nil))) (pa_cons (pe_call GD hr1 rfl L.dr.m L.dr.F.kp L.dr.b .nil pass0 (pa_cons (pv 2) (pa_cons (pe_callB call_len_seq (by rfl) L.TL.len PySem.boot_len (pa_cons (pv 3) pa_nil)) pa_nil))) pa_nil)) (by rfl))
      (pss_cons (ps_set (i := 8) scLaw.nd rfl (Or.inl rfl) (pe_call GMv hr3 rfl L.mv.m L.mv.F.kp L.mv.b .nil pass0 (pa_cons (pv 2) (pa_cons (pe_ix ix_list (pv 3) (pv 6) (fun _ _ => rfl)) pa_nil))))
      (pss_cons (ps_set (i := 9) scLaw.nd rfl (Or.inl rfl) (pe_op op_cat (pe_op op_cat (pe_slice sl_list (pv 3) po_none (po_some (pv 7))) (pe_lst (pa_cons (pv 8) pa_nil))) (pe_slice sl_list (pv 3) (po_some (pv 7)) po_none)))
      (pss_cons (ps_if (pt_cmpR (op_neD hr.units) (pe_callG GAs hgd hr12 rfl L.as_.m L.as_.F.kp L.as_.b pass0 (pa_cons (pe_lc (own := [("three", 14)]) (g := gName 14) (tt := tYes) rfl scLaw.nd (pi_list (pv 9)) (blkOk_by (own := [("three", 14)]) (N := lawN) (sc := defScope sLaw) (by decide +kernel)) (fun _ _ _ _ _ => (pg_name (i := 14) scLaw.nd rfl (Or.inl rfl))) (fun _ _ _ _ _ => pts_nil) (fun _ _ _ _ _ => (pe_make t.d.MT GTI hr9 rfl TT.mgT t.d.bTI .nil pass0 (pa_cons (pe_ix (r := rIxL K) ix_list (pv 14) pe_int (fun _ _ => rfl)) (pa_cons (pe_ix (r := rIxL K) ix_list (pv 14) pe_int (fun _ _ => rfl)) (pa_cons (pe_ix (r := rIxL K) ix_list (pv 14) pe_int (fun _ _ => rfl)) pa_nil)))))) pa_nil)) (pe_call GDu hr3 rfl L.du.m L.du.F.kp L.du.b .nil pass0 (pa_cons (pv 9) pa_nil)) (nomark _)) (pss_one (ps_ret pe_bl)) pss_nil)
      (pss_cons (ps_if (pt_cmpR op_ne (pe_call GA hr9 rfl M.D.mAp M.D.FAp.kp M.D.bAp .nil pass0 (pa_cons (pe_ix ix_list (pv 4) (pv 6) (fun _ _ => rfl)) (pa_cons (pe_ix ix_list (pv 4) (pv 7) (fun _ _ => rfl)) pa_nil))) (pe_call GPt hr2 rfl L.pt.m L.pt.F.kp L.pt.b .nil pass0 (pa_cons (pe_ix ix_list (pv 3) (pv 6) (fun _ _ => rfl)) (pa_cons (pe_ix ix_list (pv 3) (pv 7) (fun _ _ => rfl)) pa_nil))) (nomark _)) (pss_one (ps_ret pe_bl)) pss_nil)
      (pss_cons (ps_set (i := 10) scLaw.nd rfl (Or.inl rfl) (pe_make t.d.MT GTI hr9 rfl TT.mgT t.d.bTI .nil pass0 (pa_cons (pe_ix ix_list (pv 8) pe_int (fun _ _ => rfl)) (pa_cons (pe_ix ix_list (pv 8) pe_int (fun _ _ => rfl)) (pa_cons (pe_ix ix_list (pv 8) pe_int (fun _ _ => rfl)) pa_nil)))))
      (pss_cons (ps_set (i := 11) scLaw.nd rfl (Or.inl rfl) (pe_call GPd hr3 rfl L.pd.m L.pd.F.kp L.pd.b .nil pass0 (pa_cons (pv 3) (pa_cons (pv 7) (pa_cons (pv 8) pa_nil)))))
      (pss_cons (ps_if (PW.pt (pw_or (pt_cmpR (op_neD hr.units) (pe_callG GPu hgd hr12 rfl L.pu.m L.pu.F.kp L.pu.b pass0 (pa_cons (pv 5) (pa_cons (pv 7) (pa_cons (pv 10) pa_nil)))) (pv 11) (nomark _)) (pw_or1 (pt_cmpR (op_ownNe m9.oTe GTe hr5 m9.te.b pass0) (pe_ixOwn m9.oGt GMg hr4 m9.gt.b pass0 (pv 5) (pv 7)) (pe_ifExp (pt_cmpR op_isN (pv 11) pe_non (nomark _)) (pv 10) (pe_ix ix_list (pv 4) (pv 7) (fun _ _ => rfl))) (nomark _))))) (pss_one (ps_ret pe_bl)) pss_nil)
      (pss_cons (ps_for PassesOwn.never rfl (pi_list (pe_lst (pa_cons (pe_un un_neg pe_int) (pa_cons (pe_callB call_len_seq (by rfl) L.TL.len PySem.boot_len (pa_cons (pv 3) pa_nil)) (pa_cons pe_non (pa_cons pe_bl (pa_cons pe_str pa_nil))))))) (pg_name (i := 12) scLaw.nd rfl (Or.inl rfl))
      (pss_one (ps_if (PW.pt (pw_or (pt_cmpR (op_neD hr.units) (pe_callG GRd hgd hr5 rfl L.rd.m L.rd.F.kp L.rd.b pass0 (pa_cons (pv 5) (pa_cons (pv 12) pa_nil))) (pe_tup (pa_cons pe_str (pa_cons (pe_callB cR (by rfl) R.zR (by decide +kernel) (pa_cons (pv 12) pa_nil)) pa_nil))) (nomark _)) (pw_or1 (pt_cmpR (op_neD hr.units) (pe_callG GPu hgd hr12 rfl L.pu.m L.pu.F.kp L.pu.b pass0 (pa_cons (pv 5) (pa_cons (pv 12) (pa_cons pe_non pa_nil)))) (pe_tup (pa_cons pe_str (pa_cons (pe_callB cR (by rfl) R.zR (by decide +kernel) (pa_cons (pv 12) pa_nil)) pa_nil))) (nomark _))))) (pss_one (ps_ret pe_bl)) pss_nil)))
      (pss_cons (ps_if (PW.pt (pw_or (pt_cmpR (op_neD hr.units) (pe_callG GPu hgd hr12 rfl L.pu.m L.pu.F.kp L.pu.b pass0 (pa_cons (pv 5) (pa_cons (pv 7) (pa_cons pe_non pa_nil)))) (pe_tup (pa_cons pe_str (pa_cons (pv 7) pa_nil))) (nomark _)) (pw_or1 (pt_cmpR (op_neD hr.units) (pe_callG GAs hgd hr12 rfl L.as_.m L.as_.F.kp L.as_.b pass0 (pa_cons (pe_op op_cat (pv 4) (pe_lst (pa_cons (pv 10) (pa_cons pe_non pa_nil)))) pa_nil)) (pe_tup (pa_cons pe_str (pa_cons (pe_op op_add (pe_callB call_len_seq (by rfl) L.TL.len PySem.boot_len (pa_cons (pv 3) pa_nil)) pe_int) pa_nil))) (nomark _))))) (pss_one (ps_ret pe_bl)) pss_nil)
      (pss_cons (ps_if (pt_cmpR (op_neRefs hr.units0) (pe_meth0 (pv 5) M.D.cl M.D.mMT GMT hr1 M.D.bMT .nil pass0) (pe_op op_cat (pe_op op_cat (pe_slice sl_list (pv 4) po_none (po_some (pv 7))) (pe_lst (pa_cons (pe_ifExp (pt_cmpR op_isN (pv 11) pe_non (nomark _)) (pv 10) (pe_ix ix_list (pv 4) (pv 7) (fun _ _ => rfl))) pa_nil))) (pe_slice sl_list (pv 4) (po_some (pe_op op_add (pv 7) pe_int)) po_none)) (nomark _)) (pss_one (ps_ret pe_bl)) pss_nil)
      (pss_one (ps_if (pt_cmpR (op_neD hr.units) (pe_lc (own := [("thing", 15)]) (g := gName 15) (tt := tYes) rfl scLaw.nd (pi_list (pe_lst (pa_cons pe_non (pa_cons (pe_callTy call_tuple_of (by rfl) T.tuple (by decide +kernel) (pa_cons (pv 4) pa_nil)) (pa_cons pe_str pa_nil))))) (blkOk_by (own := [("thing", 15)]) (N := lawN) (sc := defScope sLaw) (by decide +kernel)) (fun _ _ _ _ _ => (pg_name (i := 15) scLaw.nd rfl (Or.inl rfl))) (fun _ _ _ _ _ => pts_nil) (fun _ _ _ _ _ => (pe_callG GAs hgd hr12 rfl L.as_.m L.as_.F.kp L.as_.b pass0 (pa_cons (pv 15) pa_nil)))) (pe_op op_rep (pe_lst (pa_cons (pe_tup (pa_cons pe_str (pa_cons pe_non pa_nil))) pa_nil)) pe_int) (nomark _)) (pss_one (ps_ret pe_bl)) pss_nil)))))))))))))))))))))
      (pss_cons (ps_setLc (i := 13) (own := [("k", 1)]) (g := gName 1) (tt := tYes) rfl scLaw.nd rfl rfl (sw_true rfl rfl rfl (by decide +kernel)) (pi_range1 rfl L.TL.range (pa_cons pe_int pa_nil)) (blkOk_by (own := [("k", 1)]) (N := lawN) (sc := defScope sLaw) (by decide +kernel)) (fun _ _ _ _ _ => (pg_name (i := 1) scLaw.nd rfl (Or.inl rfl))) (fun _ _ _ _ _ => pts_nil) (fun _ _ _ _ _ => (pe_make t.d.MT GTI hr9 rfl TT.mgT t.d.bTI .nil pass0 (pa_cons (pe_tup (pa_cons (pe_op op_mulW pe_int (pv 1)) (pa_cons pe_int pa_nil))) (pa_cons (pe_tup (pa_cons (pe_op op_add (pe_op op_mulW pe_int (pv 1)) pe_int) (pa_cons pe_int pa_nil))) (pa_cons (pe_tup (pa_cons (pe_op op_mulW pe_int (pv 1)) (pa_cons pe_int pa_nil))) pa_nil))))))
      (pss_one (ps_ret (pe_and (pe_cmpR (op_eqD hr.units) (pe_callG GAs hgd hr12 rfl L.as_.m L.as_.F.kp L.as_.b pass0 (pa_cons (pv 13) pa_nil)) (pe_tup (pa_cons pe_str (pa_cons pe_non pa_nil))) (nomark _)) (pe_and (pe_cmpR (op_eqD hr.units) (pe_callG GAs hgd hr12 rfl L.as_.m L.as_.F.kp L.as_.b pass0 (pa_cons (pe_slice sl_list (pv 13) po_none (po_some pe_int)) pa_nil)) (pe_tup (pa_cons pe_str (pa_cons pe_int pa_nil))) (nomark _)) (pe_one (pe_cmpR op_eq (pe_callB (call_lenOwn (lenOf m9.ln) GMl hr2 m9.ln.b pass0) (by rfl) L.TL.len PySem.boot_len (pa_cons (pe_make M.D.MM GMI hr11 rfl M.D.mgM M.D.bMI .nil pass0 (pa_cons (pe_lst pa_nil) pa_nil)) pa_nil)) pe_int (nomark _))))))))), ?_⟩
    refine seq_gen (fun σ' H' => ∃ v1 v2 v3 v4 v5 v6 v7 v8 v9 v10 v11 v12 v13 v14 v15 : Option V, σ' = [some (.ref sa), v1, v2, v3, v4, v5, v6, v7, v8, v9, v10, v11, v12, v13, v14, v15] ∧ Same H H') (fun N hN => ?_) ?_
    · refine ⟨_, rfl, sa, _, rfl, .inl hS, _, _, rfl, _, _, rfl, ?_⟩
      have hn8 : ∀ z : Int, z = (if (if (6 : Int) < ((ns.map V.int).length : Int) then (6 : Int) else ((ns.map V.int).length : Int)) > 1 then (if (6 : Int) < ((ns.map V.int).length : Int) then (6 : Int) else ((ns.map V.int).length : Int)) else 1) → 0 ≤ z ∧ z ≤ 6 := by
        intro z hz
        split at hz <;> split at hz <;> omega
      obtain ⟨n0, n8⟩ := hn8 _ rfl
      refine ⟨_, rfl, by omega, by omega, ?_⟩
      refine for_range (lo := 0) (fun i σ H' => ∃ v1 v2 v3 v4 v5 v6 v7 v8 v9 v10 v11 v12 v13 v14 v15 : Option V, σ = [some (.ref sa), v1, v2, v3, v4, v5, v6, v7, v8, v9, v10, v11, v12, v13, v14, v15] ∧ Same H H') ⟨_, _, _, _, _, _, _, _, _, _, _, _, _, _, _, rfl, Same.refl _⟩ ?_ ?_
      case refine_2 =>
        rintro σ H' ⟨v1, v2, v3, v4, v5, v6, v7, v8, v9, v10, v11, v12, v13, v14, v15, rfl, eH⟩
        exact hN _ _ ⟨_, _, _, _, _, _, _, _, _, _, _, _, _, _, _, rfl, eH⟩
      rintro i σ H0 hi ⟨v1, v2, v3, v4, v5, v6, v7, v8, v9, v10, v11, v12, v13, v14, v15, rfl, eH⟩
      refine ⟨_, rfl, _, rfl, sa, ns, _, rfl, eH.seq hS, hlen, by omega, by omega, fun pl H1 hpl e1 p1 => ?_⟩
      clear hn8 n0 n8 hi
      dsimp only [gName]
      -- threes
      refine ⟨_, rfl, pl, rfl, p1, fun lt xs ts H2 b2 p2 hlt nlp hE hOk l16 l0 => ?_⟩
      have e2 := b2.same hpl e1
      have pos : ∀ t ∈ ts, 0 < sd t.1 t.2.1 t.2.2 := fun t ht => (hOk.1 t ht).1
      have sm6 : ∀ t ∈ ts, SmT t := fun t ht => (hOk.1 t ht).2
      have sm : ∀ t ∈ ts, SmTn 7 t := fun t ht => smT_up (sm6 t ht)
      have fo : firstOv ts = none := firstOv_pw hOk.2
      have lxs := hE.1
      -- triangles
      refine ⟨_, rfl, lt, rfl, ⟨_, SqL.of hlt⟩, fun lx nlx => ?_⟩
      refine tris_lc hlt hE pos (by decide) sm (by omega) nlx fun us H3 e3 htr hET => ?_
      have lus := hET.1
      -- mesh
      refine ⟨_, rfl, 7, lx, us, ts, rfl, htr, hET, by omega, by decide, sm, fo, fun mv ml H4 e4 nml hM => ?_⟩
      dsimp only [gName]
      have n2 : lx ≠ ml := ne_of_none htr nml
      have n1 : lt ≠ ml := ne_of_none (e3 _ _ hlt) nml
      have nl0 : H0 ml = none := Same.none (e2.trans e3) nml
      have e24 := e3.trans e4
      have J4 : J29 p.C t.CT M.CM pl lt lx ml xs us us ts ts mv H4 := ⟨p2.ex e24, e24 _ _ hlt, hE.ex e24, e4 _ _ htr, hET.ex e4, hM, n1, n2, nlp, p2.ne nlx⟩
      have e04 := e2.trans e24
      clear b2 p2 hlt nlp hE e3 htr hET e4 nml hM n1 n2 e24 e2 e1 p1 nlx
      obtain ⟨rs, rfl⟩ := refs_of J4.et
      obtain ⟨b0, db, rfl, g4⟩ := J4.me.at
      have lz : xs.length < sizeLine := Nat.lt_of_le_of_lt (show xs.length ≤ 100 by omega) (by decide)
      -- what it tells
      refine ⟨_, rfl, rfl, _, rfl, iteF' (by simp) ?_⟩
      refine ⟨_, rfl, b0, db, _, rfl, g4, pieF_no _ (by decide +kernel), .ref b0, ml, _, ts, rfl, J4.me, fun l5 H5 nl5 e5 hl5 => ?_⟩
      have J5 := J4.ex e5
      refine ⟨_, rfl, l5, lx, rs, rfl, rfl, hl5, J5.tr, _, rfl, iteF ?_⟩
      refine ⟨_, rfl, b0, db, _, rfl, e5 _ _ g4, .ref b0, ts, rfl, J5.me.n, ts.length, rfl, Nat.lt_of_le_of_lt l16 (by decide), ?_⟩
      refine ⟨_, rfl, lt, _, rfl, .inl (SqL.of J5.th), rfl, _, rfl, iteF' (by rw [lxs]; simp) ?_⟩
      refine ⟨_, rfl, _, rfl, lt, xs, ts, rfl, J5.th, J5.eh, hOk, l16, fun lv H6 e6 hLv => ne_mesh (J5.ex e6).me.n hLv fun H7 e7 => ⟨_, rfl, iteF ?_⟩⟩
      have J7 := (J5.ex e6).ex e7
      refine ⟨_, rfl, _, rfl, eq_meshL J7.me.n J7.tr ⟨_, rfl, iteF ?_⟩⟩
      have g7 := e7 _ _ (e6 _ _ (e5 _ _ g4))
      have e07 := ((e04.trans e5).trans e6).trans e7
      clear J4 J5 e04 e5 e6 e7 hl5 nl5 hLv g4
      -- triangles().append(None)
      refine ⟨_, rfl, b0, db, _, rfl, g7, pieF_no _ (by decide +kernel), .ref b0, ml, _, ts, rfl, J7.me, fun l8 H8 nl8 e8 hl8 => ?_⟩
      refine ⟨.inl ⟨rfl, _, SqL.of hl8⟩, l8, _, _, rfl, rfl, hl8, by omega, ?_⟩
      have e9 : Same H7 (upd H8 l8 (.lst (rs.map V.ref ++ [.non]))) := fun y o ho => by
        rw [upd_ne (ne_of_none ho nl8)]
        exact e8 _ _ ho
      generalize upd H8 l8 (.lst (rs.map V.ref ++ [.non])) = H9 at e9 ⊢
      have J9 := J7.ex e9
      have g9 := e9 _ _ g7
      have e09 := e07.trans e9
      clear J7 e07 e8 hl8 e9 g7 nl8
      -- at, to
      refine ⟨_, rfl, _, rfl, lt, _, rfl, .inl (SqL.of J9.th), pl, _, rfl, J9.pool, by omega, by omega, fun r10 H10 ra rb b10 p10 => ?_⟩
      have J10 := J9.butP b10 p10
      refine ⟨_, rfl, _, rfl, lt, _, rfl, .inl (SqL.of J10.th), pl, _, rfl, J10.pool, by omega, by omega, fun r11 H11 rc rd b11 p11 => ⟨_, _, rfl, ?_⟩⟩
      have J11 := J10.butP b11 p11
      obtain ⟨j, rfl, hj⟩ : ∃ j : Nat, r10 = (j : Int) ∧ j < xs.length := ⟨r10.toNat, by omega, by omega⟩
      obtain ⟨q, rfl, hq⟩ : ∃ q : Nat, r11 = (q : Int) ∧ q < xs.length := ⟨r11.toNat, by omega, by omega⟩
      obtain ⟨x, hx⟩ : ∃ x, xs[j]? = some x := ⟨_, List.getElem?_eq_getElem hj⟩
      -- moved
      refine ⟨_, rfl, _, rfl, _, rfl, lt, _, _, _, rfl, rfl, SqL.of J11.th, atI_nat hx, pl, x, ts.getD j z9, rfl, J11.pool, J11.eh.d hx, fun mo bb H12 b12 p12 c1 c2 c3 c4 hmo => ?_⟩
      dsimp only [gName]
      have J12 := J11.butP b12 p12
      have b912 := (b10.trans b11).trans b12
      have e012 : Same H0 H12 := fun y o ho => b912 _ _ (ne_of_none ho hpl) (e09 _ _ ho)
      obtain ⟨z1, z2, hp9, _⟩ := id J9.pool
      have g12 := b912 _ _ (ne_of g9 hp9 (by intro z; cases z)) g9
      have smo : SmTn 7 (mvT (ts.getD j z9) bb) := mvT_sm (by
        rw [List.getD_eq_getElem?_getD, List.getElem?_eq_getElem (show j < ts.length by omega)]
        exact sm6 _ (List.getElem_mem _)) c1 c2 c3 c4
      have pmo : 0 < sd (mvT (ts.getD j z9) bb).1 (mvT (ts.getD j z9) bb).2.1 (mvT (ts.getD j z9) bb).2.2 := mvT_pos (by
        rw [List.getD_eq_getElem?_getD, List.getElem?_eq_getElem (show j < ts.length by omega)]
        exact pos _ (List.getElem_mem _))
      generalize mvT (ts.getD j z9) bb = mt at hmo smo pmo ⊢
      clear J9 J10 J11 b10 b11 b12 p10 p11 p12 e09 g9 hp9 b912 ra rb rc rd c1 c2 c3 c4
      -- more
      refine ⟨_, rfl, _, rfl, _, rfl, lt, xs, rfl, SqL.of J12.th, fun s1 m1 => ?_⟩
      rw [cut_first (by omega)]
      have k1 := same_new (o := .lst (xs.take q)) m1
      have hs1 : upd H12 s1 (.lst (xs.take q)) s1 = some (.lst (xs.take q)) := upd_same
      generalize upd H12 s1 (.lst (xs.take q)) = H13 at k1 hs1 ⊢
      refine ⟨_, rfl, (by show 1 ≤ sizeLine; decide), fun s2 m2' => ?_⟩
      have k2 := same_new (o := .lst [mo]) m2'
      have hs2 : upd H13 s2 (.lst [mo]) s2 = some (.lst [mo]) := upd_same
      generalize upd H13 s2 (.lst [mo]) = H14 at k2 hs2 ⊢
      refine ⟨s1, s2, _, _, rfl, rfl, k2 _ _ hs1, hs2, Nat.le_trans (show (xs.take q).length + 1 ≤ 100 by rw [List.length_take]; omega) (by decide), fun s3 m3 => ?_⟩
      have k3 := same_new (o := .lst (xs.take q ++ [mo])) m3
      have hs3 : upd H14 s3 (.lst (xs.take q ++ [mo])) s3 = some (.lst (xs.take q ++ [mo])) := upd_same
      generalize upd H14 s3 (.lst (xs.take q ++ [mo])) = H15 at k3 hs3 ⊢
      have k13 := (k1.trans k2).trans k3
      refine ⟨_, rfl, _, rfl, _, rfl, lt, xs, rfl, SqL.of (k13 _ _ J12.th), fun s4 m4 => ?_⟩
      rw [cut_rest (by omega)]
      have k4 := same_new (o := .lst (xs.drop q)) m4
      have hs4 : upd H15 s4 (.lst (xs.drop q)) s4 = some (.lst (xs.drop q)) := upd_same
      generalize upd H15 s4 (.lst (xs.drop q)) = H16 at k4 hs4 ⊢
      refine ⟨s3, s4, _, _, rfl, rfl, k4 _ _ hs3, hs4, Nat.le_trans (show (xs.take q ++ [mo]).length + (xs.drop q).length ≤ 100 by rw [List.length_append, List.length_take, List.length_drop]; simp only [List.length_cons, List.length_nil]; omega) (by decide), fun mr m5 => ?_⟩
      dsimp only [gName]
      have k5 := same_new (o := .lst (xs.take q ++ [mo] ++ xs.drop q)) m5
      have hmr : upd H16 mr (.lst (xs.take q ++ [mo] ++ xs.drop q)) mr = some (.lst (xs.take q ++ [mo] ++ xs.drop q)) := upd_same
      generalize upd H16 mr (.lst (xs.take q ++ [mo] ++ xs.drop q)) = H17 at k5 hmr ⊢
      have k15 := (k13.trans k4).trans k5
      have J17 := J12.ex k15
      have g17 := k15 _ _ g12
      have e017 := e012.trans k15
      have hmo17 := hmo.ex k15
      have hEm : EachTh H17 (xs.take q ++ [mo] ++ xs.drop q) (ts.take q ++ [mt] ++ ts.drop q) := ((J17.eh.cut q).snoc hmo17).append (J17.eh.rest q)
      have lm : (ts.take q ++ [mt] ++ ts.drop q).length ≤ 17 := by
        rw [List.length_append, List.length_append, List.length_take, List.length_drop]
        simp only [List.length_cons, List.length_nil]
        omega
      have mm : ∀ {R : T9 → Prop}, (∀ t ∈ ts, R t) → R mt → ∀ t ∈ ts.take q ++ [mt] ++ ts.drop q, R t := fun {R} h1 h2 t ht => by
        rcases List.mem_append.mp ht with ht | ht
        · rcases List.mem_append.mp ht with ht | ht
          · exact h1 t (List.mem_of_mem_take ht)
          · rw [List.mem_singleton.mp ht]
            exact h2
        · exact h1 t (List.mem_of_mem_drop ht)
      have smm := mm sm smo
      have posm := mm (R := fun t => 0 < sd t.1 t.2.1 t.2.2) pos pmo
      generalize xs.take q ++ [mo] ++ xs.drop q = xm at hmr hEm
      generalize ts.take q ++ [mt] ++ ts.drop q = tm at hEm lm smm posm
      clear J12 g12 e012 hmo k1 k2 k3 k4 k5 k13 k15 hs1 hs2 hs3 hs4 m1 m2' m3 m4 m5 mm
      -- asked, due
      refine ⟨_, rfl, mr, rfl, ⟨_, SqL.of hmr⟩, fun D18 n18 => ?_⟩
      refine tris_lc hmr hEm posm (by decide) smm (by omega) n18 fun us18 H18 e18 hD18 hA18 => ?_
      dsimp only [tNil, List.append_nil]
      refine as_due hD18 hA18 (by omega) (by decide) smm fun t19 H19 e19 hd19 => ?_
      refine ⟨_, rfl, 7, mr, xm, tm, rfl, (e18.trans e19) _ _ hmr, hEm.ex (e18.trans e19), by decide, by omega, smm, fun v20 H20 e20 hd20 => ?_⟩
      refine ne_same (Dp.ex e20 _ _ hd19) hd20 dueD_sh ⟨_, rfl, iteF ?_⟩
      have e1720 := (e18.trans e19).trans e20
      have J20 := J17.ex e1720
      have g20 := e1720 _ _ g17
      have e020 := e017.trans e1720
      have hmo20 := hmo17.ex e1720
      clear J17 g17 e017 hmo17 hmr hEm smm posm lm n18 e18 hD18 hA18 e19 hd19 e20 hd20 e1720
      -- apart
      obtain ⟨y, hy⟩ : ∃ y, xs[q]? = some y := ⟨_, List.getElem?_eq_getElem hq⟩
      obtain ⟨vj, hvj⟩ : ∃ y, (rs.map V.ref)[j]? = some y := ⟨_, List.getElem?_eq_getElem (by omega)⟩
      obtain ⟨vq, hvq⟩ : ∃ y, (rs.map V.ref)[q]? = some y := ⟨_, List.getElem?_eq_getElem (by omega)⟩
      have smj := sm_d sm (show j < ts.length by omega)
      have smq := sm_d sm (show q < ts.length by omega)
      refine ⟨_, rfl, _, rfl, lx, _, _, _, rfl, rfl, SqL.of J20.tr, atI_nat hvj, _, rfl, _, rfl, lx, _, _, _, rfl, rfl, SqL.of J20.tr, atI_nat hvq, 7, vj, vq, _, _, _, _, _, _, rfl, J20.et.d hvj, J20.et.d hvq, by decide, smj.1, smj.2.1, smj.2.2, smq.1, smq.2.1, smq.2.2, fun H21 e21 => ?_⟩
      have J21 := J20.ex e21
      refine ⟨_, rfl, _, rfl, lt, _, _, _, rfl, rfl, SqL.of J21.th, atI_nat hx, _, rfl, _, rfl, lt, _, _, _, rfl, rfl, SqL.of J21.th, atI_nat hy, 7, x, y, _, _, rfl, J21.eh.d hx, J21.eh.d hy, by decide, smj, smq, fun H22 e22 => ⟨rfl, _, rfl, iteF' (by unfold apB; simp) ?_⟩⟩
      have J22 := J21.ex e22
      have e2022 := e21.trans e22
      have g22 := e2022 _ _ g20
      have e022 := e020.trans e2022
      have hmo22 := hmo20.ex e2022
      clear J20 J21 g20 e020 hmo20 e21 e22 e2022
      -- new
      obtain ⟨lm, qa, qb, qc, rfl, hml, t3⟩ := id hmo22
      have eb : onB mt.1 mt.2.1 mt.2.2 = mt.2.1 := by unfold onB; rw [if_pos pmo]
      have ec : onC mt.1 mt.2.1 mt.2.2 = mt.2.2 := by unfold onC; rw [if_pos pmo]
      unfold tNext
      dsimp only
      refine seq_gen (fun σ' H' => ∃ nv : V, σ' = [some (.ref sa), some (.int (0 + (i : Int))), some (.ref pl), some (.ref lt), some (.ref lx), some (.ref b0), some (.int (j : Int)), some (.int (q : Int)), some (.ref lm), some (.ref mr), some nv, v11, v12, v13, v14, v15] ∧ Same H22 H' ∧ IsT p.C t.CT nv mt.1 mt.2.1 mt.2.2 H') (fun N hN2 => ?_) ?_
      · refine ⟨_, rfl, lm, _, _, _, rfl, rfl, SqL.of hml, atI_nat (j := 0) rfl, _, rfl, lm, _, _, _, rfl, rfl, SqL.of hml, atI_nat (j := 1) rfl, _, rfl, lm, _, _, _, rfl, rfl, SqL.of hml, atI_nat (j := 2) rfl, ?_⟩
        exact make_tri (n := 7) (C := p.C) (CT := t.CT) (a := mt.1) (b := mt.2.1) (c := mt.2.2) ⟨qa, rfl, .inr t3.a⟩ ⟨qb, rfl, .inr t3.b⟩ ⟨qc, rfl, .inr t3.c⟩ (by decide) smo.1 smo.2.1 smo.2.2 (by omega) fun nv H23 e23 hnv => hN2 _ _ ⟨nv, rfl, e23, by rw [eb, ec] at hnv; exact hnv⟩
      rintro σ H23 ⟨nv, rfl, e23, hnv⟩
      -- due
      refine ⟨_, rfl, _, rfl, _, rfl, 7, lt, xs, ts, q, .ref lm, mt, rfl, (J22.ex e23).th, (J22.ex e23).eh, hmo22.ex e23, by decide, by omega, sm, smo, fun dv H24 e24 hnon hdv => ?_⟩
      dsimp only [gName]
      have e2224 := e23.trans e24
      have J24 := J22.ex e2224
      have g24 := e2224 _ _ g22
      have e024 := e022.trans e2224
      have hmo24 := hmo22.ex e2224
      have hn24 := hnv.ex e24
      clear J22 g22 e022 hmo22 hml t3 hnv e23 e24 e2224 eb ec
      -- put
      refine seq_gen (fun σ' H' => ∃ (rn : Addr) (qt : T9), σ' = [some (.ref sa), some (.int (0 + (i : Int))), some (.ref pl), some (.ref lt), some (.ref lx), some (.ref b0), some (.int (j : Int)), some (.int (q : Int)), some (.ref lm), some (.ref mr), some nv, some dv, v12, v13, v14, v15] ∧ J29 p.C t.CT M.CM pl lt lx ml xs (rs.map V.ref) ((rs.map V.ref).set q (.ref rn)) ts (ts.set q qt) (.ref b0) H' ∧ But ml H24 H' ∧ ((dv = .non ∧ nv = .ref rn) ∨ (dv ≠ .non ∧ (rs.map V.ref)[q]? = some (.ref rn))) ∧ H' b0 = some (.ins M.CM db (pieF ml)) ∧ IsTh H' (.ref lm) mt ∧ IsT p.C t.CT nv mt.1 mt.2.1 mt.2.2 H') (fun N hN2 => ?_) ?_
      · have m24 := J24.m
        cases ho : putOv ts q mt with
        | none =>
          obtain ⟨rn, _, _, _, _, _, rfl, _⟩ := id hn24
          obtain rfl : dv = .non := hnon.mpr ho
          refine ⟨_, rfl, _, rfl, _, rfl, .ref b0, .int (q : Int), .ref rn, rfl, .inl ⟨7, ml, _, ts, q, mt, rfl, J24.me, by omega, hn24, by omega, by decide, sm, smo, ho, fun H25 b25 hl25 => ?_⟩⟩
          have J25 := J24.butM b25 hl25 hn24
          have hn25 := hn24.butM m24.1 m24.2 b25
          have hm25 := hmo24.butM m24.1 m24.2 b25
          have g25 := b25 _ _ (ne_of g24 m24.1 (by intro z; cases z)) g24
          have hget : ((rs.map V.ref).set q (.ref rn))[q]? = some (.ref rn) := List.getElem?_set_self (by omega)
          refine ⟨_, rfl, ne_same (d := .none) .non .non (by rfl) ⟨_, rfl, iteF ?_⟩⟩
          refine ⟨_, rfl, _, rfl, b0, db, _, rfl, g25, .ref b0, ml, _, _, q, .ref rn, rfl, J25.me, hget, ?_⟩
          refine ⟨_, rfl, rfl, _, rfl, iteT' (by simp) ⟨_, rfl, ne_tri hn25 fun H26 e26 => ⟨_, rfl, iteF ?_⟩⟩⟩
          exact hN2 _ _ ⟨rn, mt, rfl, J25.ex e26, fun y o hy ho => e26 _ _ (b25 _ _ hy ho), .inl ⟨rfl, rfl⟩, e26 _ _ g25, hm25.ex e26, hn25.ex e26⟩
        | some jj =>
          have dn : dv ≠ .non := fun z => by
            rw [hnon.mp z] at ho
            cases ho
          have hdv' : Dp K H24 dv (.tuple [.str "over", .int ((q : Nat) : Int), .int ((jj : Nat) : Int)]) := by
            unfold pdD at hdv
            rw [ho] at hdv
            exact hdv
          obtain ⟨rn, hrn⟩ : ∃ rn, vq = .ref rn := by
            obtain ⟨_, _, rn, _, _, _, _, _, e, _⟩ := J24.et.2 q vq hvq
            exact ⟨rn, e⟩
          subst hrn
          have hus : (rs.map V.ref).set q (.ref rn) = rs.map V.ref := by
            obtain ⟨h1, h2⟩ := List.getElem?_eq_some_iff.mp hvq
            rw [← h2]
            exact List.set_getElem_self h1
          have hts : ts.set q (ts.getD q z9) = ts := by
            have h1 : q < ts.length := by omega
            rw [List.getD_eq_getElem?_getD, List.getElem?_eq_getElem h1]
            exact List.set_getElem_self h1
          refine ⟨_, rfl, _, rfl, _, rfl, .ref b0, .int (q : Int), nv, rfl, .inr ⟨ts, CO, _, _, J24.me.n, .over (by omega) hn24 (by omega) (by decide) sm smo ho, .over _ _, fun t25 H25 e25 hd25 => ?_⟩⟩
          have J25 := J24.ex e25
          refine ⟨_, rfl, ne_same hd25 (Dp.ex e25 _ _ hdv') (sh3 strOver _ _) ⟨_, rfl, iteF ?_⟩⟩
          refine ⟨_, rfl, _, rfl, b0, db, _, rfl, e25 _ _ g24, .ref b0, ml, _, _, q, .ref rn, rfl, J25.me, hvq, ?_⟩
          refine ⟨_, rfl, rfl, _, rfl, iteF' (by simp [dn]) ⟨_, rfl, _, rfl, lx, _, _, _, rfl, rfl, SqL.of J25.tr, atI_nat hvq, ne_tri (J25.et.d hvq) fun H26 e26 => ⟨_, rfl, iteF ?_⟩⟩⟩
          exact hN2 _ _ ⟨rn, ts.getD q z9, rfl, by rw [hus, hts]; exact J25.ex e26, But.of (e25.trans e26), .inr ⟨dn, hvq⟩, e26 _ _ (e25 _ _ g24), (hmo24.ex e25).ex e26, (hn24.ex e25).ex e26⟩
      rintro σ H25 ⟨rn, qt, rfl, J25, b25, hcase, g25, hm25, hn25⟩
      have e025 : Same H0 H25 := fun y o ho => b25 _ _ (ne_of_none ho nl0) (e024 _ _ ho)
      have lq : (ts.set q qt).length = ts.length := List.length_set
      clear J24 g24 e024 hmo24 hn24 b25 hdv hnon
      -- odd numbers
      refine seq_gen (t1 := tFor _ _ _) (fun σ' H' => ∃ v12' : Option V, σ' = [some (.ref sa), some (.int (0 + (i : Int))), some (.ref pl), some (.ref lt), some (.ref lx), some (.ref b0), some (.int (j : Int)), some (.int (q : Int)), some (.ref lm), some (.ref mr), some nv, some dv, v12', v13, v14, v15] ∧ Same H25 H') (fun N hN3 => ?_) ?_
      · refine ⟨_, rfl, _, rfl, lt, _, rfl, .inl (SqL.of J25.th), (by show 5 ≤ sizeLine; decide), fun lo mo' => ?_⟩
        have k6 := same_new (o := .lst [.int (-1), .int ((xs.length : Nat) : Int), .non, .bl true, .str "0"]) mo'
        have hlo : upd H25 lo (.lst [.int (-1), .int ((xs.length : Nat) : Int), .non, .bl true, .str "0"]) lo = some (.lst [.int (-1), .int ((xs.length : Nat) : Int), .non, .bl true, .str "0"]) := upd_same
        generalize upd H25 lo (.lst [.int (-1), .int ((xs.length : Nat) : Int), .non, .bl true, .str "0"]) = H31 at k6 hlo ⊢
        refine ⟨lo, rfl, ⟨_, SqL.of hlo⟩, ?_⟩
        refine for_list (K := K) (a := lo) (xs := [.int (-1), .int ((xs.length : Nat) : Int), .non, .bl true, .str "0"]) (fun _ σ' H' => ∃ v12' : Option V, σ' = [some (.ref sa), some (.int (0 + (i : Int))), some (.ref pl), some (.ref lt), some (.ref lx), some (.ref b0), some (.int (j : Int)), some (.int (q : Int)), some (.ref lm), some (.ref mr), some nv, some dv, v12', v13, v14, v15] ∧ Same H31 H') ⟨_, rfl, Same.refl _⟩ (fun i σ' H' _ hh => by
          obtain ⟨_, _, e⟩ := hh
          exact SqL.of (e _ _ hlo)) ?_ ?_
        · rintro qq y σ H32 hy ⟨v12', rfl, e32⟩
          have gy : GoodV y ∧ ixB y (ts.set q qt).length = false := by
            match qq, hy with
            | 0, hy => cases hy; exact ⟨good_by trivial (by decide +kernel), by show decide (0 ≤ (-1 : Int) ∧ (-1 : Int) < (((ts.set q qt).length : Nat) : Int)) = false; exact decide_eq_false (by omega)⟩
            | 1, hy => cases hy; exact ⟨good16 (by omega), decide_eq_false (by rw [lq]; omega)⟩
            | 2, hy => cases hy; exact ⟨good_by trivial (by decide +kernel), rfl⟩
            | 3, hy => cases hy; exact ⟨good_by trivial (by decide +kernel), rfl⟩
            | 4, hy => cases hy; exact ⟨good_by trivial (by decide +kernel), rfl⟩
            | qq + 5, hy => simp at hy
          obtain ⟨g, hb⟩ := gy
          have J32 := (J25.ex k6).ex e32
          dsimp only [gName]
          refine ⟨_, rfl, _, rfl, .ref b0, y, _, rfl, J32.me.n, g, hb, fun t H33 e33 hd33 => ?_⟩
          refine ⟨_, rfl, y, _, rfl, dp_sc g.s, g.sh.s, g.sh.nd, g.sh.dp, g.sh.z, (by show 2 ≤ sizeLine; decide), fun t34 n34 => ?_⟩
          have k7 := same_new (o := .tup [.str "number", .str (scD y).shown]) n34
          refine ne_same (Dp.ex k7 _ _ hd33) (.tup (SqT.of upd_same) (.cons (.str _) (.cons (.str _) .nil))) (sh2 strNum g.ok rfl) ⟨_, rfl, iteF ?_⟩
          have J34 := (J32.ex e33).ex k7
          have e3234 := e33.trans k7
          generalize upd H33 t34 (.tup [.str "number", .str (scD y).shown]) = H34 at J34 e3234 ⊢
          refine ⟨_, rfl, _, rfl, .ref b0, y, .non, rfl, .inr ⟨_, CN, _, _, J34.me.n, .ix g.s hb, .num y g, fun t H35 e35 hd35 => ?_⟩⟩
          refine ⟨_, rfl, y, _, rfl, dp_sc g.s, g.sh.s, g.sh.nd, g.sh.dp, g.sh.z, (by show 2 ≤ sizeLine; decide), fun t36 n36 => ?_⟩
          have k8 := same_new (o := .tup [.str "number", .str (scD y).shown]) n36
          exact ne_same (Dp.ex k8 _ _ hd35) (.tup (SqT.of upd_same) (.cons (.str _) (.cons (.str _) .nil))) (sh2 strNum g.ok rfl) ⟨_, rfl, iteF ⟨_, rfl, ((e32.trans e3234).trans e35).trans k8⟩⟩
        · rintro σ H32 ⟨v12', rfl, e32⟩
          exact hN3 _ _ ⟨_, rfl, k6.trans e32⟩
      rintro σ H36 ⟨v12', rfl, e36⟩
      have J36 := J25.ex e36
      have g36 := e36 _ _ g25
      have hn36 := hn25.ex e36
      have e036 := e025.trans e36
      clear J25 g25 hm25 hn25 e025 e36
      -- no triangle
      refine ⟨_, rfl, _, rfl, .ref b0, .int (q : Int), .non, rfl, .inr ⟨_, CI, _, _, J36.me.n, .non (by rw [lq]; omega), .mesh _ trivial, fun t37 H37 e37 hd37 => ?_⟩⟩
      refine ⟨_, rfl, (by show 2 ≤ sizeLine; decide), fun t38 n38 => ?_⟩
      have k1 := same_new (o := .tup [.str "mesh", .int (q : Int)]) n38
      refine ne_same (Dp.ex k1 _ _ hd37) (.tup (SqT.of upd_same) (.cons (.str _) (.cons (.int _) .nil))) (sh2 strMesh rfl rfl) ⟨_, rfl, iteF ?_⟩
      have k2 := e37.trans k1
      generalize upd H37 t38 (.tup [.str "mesh", .int (q : Int)]) = H38 at k2 ⊢
      have J38 := J36.ex k2
      have g38 := k2 _ _ g36
      have hn38 := hn36.ex k2
      have e038 := e036.trans k2
      clear J36 g36 hn36 e036 e37 hd37 k1 k2 n38
      -- triangles + [new, None]
      refine ⟨_, rfl, _, rfl, (by show 2 ≤ sizeLine; decide), fun s1 m1 => ?_⟩
      have k1 := same_new (o := .lst [nv, .non]) m1
      have hs1 : upd H38 s1 (.lst [nv, .non]) s1 = some (.lst [nv, .non]) := upd_same
      generalize upd H38 s1 (.lst [nv, .non]) = H39 at k1 hs1 ⊢
      refine ⟨lx, s1, _, _, rfl, rfl, k1 _ _ J38.tr, hs1, Nat.le_trans (show (rs.map V.ref).length + 2 ≤ 100 by omega) (by decide), fun s2 m2' => ?_⟩
      have k2 := same_new (o := .lst (rs.map V.ref ++ [nv, .non])) m2'
      have hs2 : upd H39 s2 (.lst (rs.map V.ref ++ [nv, .non])) s2 = some (.lst (rs.map V.ref ++ [nv, .non])) := upd_same
      generalize upd H39 s2 (.lst (rs.map V.ref ++ [nv, .non])) = H40 at k2 hs2 ⊢
      have k12 := k1.trans k2
      have hE40 : EachT p.C t.CT H40 (rs.map V.ref ++ [nv]) (ts ++ [mt]) := ((J38.ex k12).et).snoc (hn38.ex k12)
      have el : rs.map V.ref ++ [nv, .non] = rs.map V.ref ++ [nv] ++ [.non] := by rw [List.append_assoc]; rfl
      have ll : (rs.map V.ref ++ [nv]).length = ts.length + 1 := by rw [List.length_append, lus]; rfl
      rw [el] at hs2
      refine ⟨_, rfl, .inr ⟨CI, _, _, .item (ts := ts ++ [mt]) (j := ts.length + 1) hs2 (by rw [List.length_append, ll]; simp only [List.length_cons, List.length_nil]; omega) (by rw [List.length_append]; rfl) (fun i y hi hy => hE40.d (by rw [List.getElem?_append_left (by omega)] at hy; exact hy)) (by rw [List.getElem?_append_right (by omega), ll, Nat.sub_self]; rfl), .mesh _ trivial, fun t41 H41 e41 hd41 => ?_⟩⟩
      refine ⟨_, rfl, lt, _, rfl, .inl (SqL.of (e41 _ _ (k12 _ _ J38.th))), _, _, rfl, rfl, (by show 2 ≤ sizeLine; decide), fun t42 n42 => ?_⟩
      have k3 := same_new (o := .tup [.str "mesh", .int (((xs.length : Nat) : Int) + 1)]) n42
      refine ne_same (d := .tuple [.str "mesh", .int (((xs.length : Nat) : Int) + 1)]) (Dp.ex k3 _ _ (show Dp K H41 (.ref t41) (.tuple [.str "mesh", .int (((xs.length : Nat) : Int) + 1)]) by rw [lxs]; exact hd41)) (.tup (SqT.of upd_same) (.cons (.str _) (.cons (.int _) .nil))) (sh2 strMesh rfl rfl) ⟨_, rfl, iteF ?_⟩
      have k4 := (k12.trans e41).trans k3
      generalize upd H41 t42 (.tup [.str "mesh", .int (((xs.length : Nat) : Int) + 1)]) = H43 at k4 ⊢
      have J43 := J38.ex k4
      have g43 := k4 _ _ g38
      have e043 := e038.trans k4
      clear J38 g38 hn38 e038 k1 hs1 k2 hs2 k12 hE40 el ll e41 hd41 k3 k4 m1 m2' n42
      -- triangles() again
      have hset : (rs.map V.ref).set q (.ref rn) = (rs.set q rn).map V.ref := List.map_set.symm
      dsimp only
      refine seq_gen (fun σ' H' => σ' = [some (.ref sa), some (.int (0 + (i : Int))), some (.ref pl), some (.ref lt), some (.ref lx), some (.ref b0), some (.int (j : Int)), some (.int (q : Int)), some (.ref lm), some (.ref mr), some nv, some dv, v12', v13, v14, v15] ∧ Same H43 H') (fun N hN4 => ?_) ?_
      · refine ⟨_, rfl, b0, db, _, rfl, g43, pieF_no _ (by decide +kernel), .ref b0, ml, _, _, rfl, J43.me, fun l40 H40 nl40 e40 hl40 => ?_⟩
        have J40 := J43.ex e40
        refine ⟨_, rfl, _, rfl, _, rfl, lx, _, rfl, SqL.of J40.tr, fun s1 m1 => ?_⟩
        rw [cut_first (by omega)]
        have k1 := same_new (o := .lst ((rs.map V.ref).take q)) m1
        have hs1 : upd H40 s1 (.lst ((rs.map V.ref).take q)) s1 = some (.lst ((rs.map V.ref).take q)) := upd_same
        generalize upd H40 s1 (.lst ((rs.map V.ref).take q)) = H41 at k1 hs1 ⊢
        rcases hcase with ⟨h1, h2⟩ | ⟨h1, h2⟩
        · subst h1 h2
          refine ⟨_, rfl, rfl, _, rfl, iteT' (by simp) ⟨_, rfl, (by show 1 ≤ sizeLine; decide), fun s2 m2' => ?_⟩⟩
          have k2 := same_new (o := .lst [.ref rn]) m2'
          have hs2 : upd H41 s2 (.lst [.ref rn]) s2 = some (.lst [.ref rn]) := upd_same
          generalize upd H41 s2 (.lst [.ref rn]) = H42 at k2 hs2 ⊢
          refine ⟨s1, s2, _, _, rfl, rfl, k2 _ _ hs1, hs2, Nat.le_trans (show ((rs.map V.ref).take q).length + 1 ≤ 100 by rw [List.length_take]; omega) (by decide), fun s3 m3 => ?_⟩
          have k3 := same_new (o := .lst ((rs.map V.ref).take q ++ [.ref rn])) m3
          have hs3 : upd H42 s3 (.lst ((rs.map V.ref).take q ++ [.ref rn])) s3 = some (.lst ((rs.map V.ref).take q ++ [.ref rn])) := upd_same
          generalize upd H42 s3 (.lst ((rs.map V.ref).take q ++ [.ref rn])) = H43 at k3 hs3 ⊢
          have k13 := (k1.trans k2).trans k3
          refine ⟨_, rfl, _, rfl, _, _, rfl, rfl, _, rfl, lx, _, rfl, SqL.of (k13 _ _ J40.tr), fun s4 m4 => ?_⟩
          rw [show ((q : Int) + 1) = (((q + 1 : Nat) : Nat) : Int) by omega, cut_rest (by omega)]
          have k4 := same_new (o := .lst ((rs.map V.ref).drop (q + 1))) m4
          have hs4 : upd H43 s4 (.lst ((rs.map V.ref).drop (q + 1))) s4 = some (.lst ((rs.map V.ref).drop (q + 1))) := upd_same
          generalize upd H43 s4 (.lst ((rs.map V.ref).drop (q + 1))) = H44 at k4 hs4 ⊢
          refine ⟨s3, s4, _, _, rfl, rfl, k4 _ _ hs3, hs4, Nat.le_trans (show ((rs.map V.ref).take q ++ [V.ref rn]).length + ((rs.map V.ref).drop (q + 1)).length ≤ 100 by rw [List.length_append, List.length_take, List.length_drop]; simp only [List.length_cons, List.length_nil]; omega) (by decide), fun s5 m5 => ?_⟩
          rw [set_cut (show q < (rs.map V.ref).length by omega)]
          have k5 := same_new (o := .lst ((rs.map V.ref).set q (.ref rn))) m5
          have hs5 : upd H44 s5 (.lst ((rs.map V.ref).set q (.ref rn))) s5 = some (.lst ((rs.map V.ref).set q (.ref rn))) := upd_same
          generalize upd H44 s5 (.lst ((rs.map V.ref).set q (.ref rn))) = H45 at k5 hs5 ⊢
          have k15 := (k13.trans k4).trans k5
          rw [hset] at hs5 hl40
          exact ⟨l40, s5, rs.set q rn, rfl, rfl, k15 _ _ hl40, hs5, _, rfl, iteF (hN4 _ _ ⟨rfl, e40.trans k15⟩)⟩
        · refine ⟨_, rfl, rfl, _, rfl, iteF' (by simp [h1]) ⟨_, rfl, _, rfl, lx, _, _, _, rfl, rfl, SqL.of (k1 _ _ J40.tr), atI_nat h2, (by show 1 ≤ sizeLine; decide), fun s2 m2' => ?_⟩⟩
          have k2 := same_new (o := .lst [.ref rn]) m2'
          have hs2 : upd H41 s2 (.lst [.ref rn]) s2 = some (.lst [.ref rn]) := upd_same
          generalize upd H41 s2 (.lst [.ref rn]) = H42 at k2 hs2 ⊢
          refine ⟨s1, s2, _, _, rfl, rfl, k2 _ _ hs1, hs2, Nat.le_trans (show ((rs.map V.ref).take q).length + 1 ≤ 100 by rw [List.length_take]; omega) (by decide), fun s3 m3 => ?_⟩
          have k3 := same_new (o := .lst ((rs.map V.ref).take q ++ [.ref rn])) m3
          have hs3 : upd H42 s3 (.lst ((rs.map V.ref).take q ++ [.ref rn])) s3 = some (.lst ((rs.map V.ref).take q ++ [.ref rn])) := upd_same
          generalize upd H42 s3 (.lst ((rs.map V.ref).take q ++ [.ref rn])) = H43 at k3 hs3 ⊢
          have k13 := (k1.trans k2).trans k3
          refine ⟨_, rfl, _, rfl, _, _, rfl, rfl, _, rfl, lx, _, rfl, SqL.of (k13 _ _ J40.tr), fun s4 m4 => ?_⟩
          rw [show ((q : Int) + 1) = (((q + 1 : Nat) : Nat) : Int) by omega, cut_rest (by omega)]
          have k4 := same_new (o := .lst ((rs.map V.ref).drop (q + 1))) m4
          have hs4 : upd H43 s4 (.lst ((rs.map V.ref).drop (q + 1))) s4 = some (.lst ((rs.map V.ref).drop (q + 1))) := upd_same
          generalize upd H43 s4 (.lst ((rs.map V.ref).drop (q + 1))) = H44 at k4 hs4 ⊢
          refine ⟨s3, s4, _, _, rfl, rfl, k4 _ _ hs3, hs4, Nat.le_trans (show ((rs.map V.ref).take q ++ [V.ref rn]).length + ((rs.map V.ref).drop (q + 1)).length ≤ 100 by rw [List.length_append, List.length_take, List.length_drop]; simp only [List.length_cons, List.length_nil]; omega) (by decide), fun s5 m5 => ?_⟩
          rw [set_cut (show q < (rs.map V.ref).length by omega)]
          have k5 := same_new (o := .lst ((rs.map V.ref).set q (.ref rn))) m5
          have hs5 : upd H44 s5 (.lst ((rs.map V.ref).set q (.ref rn))) s5 = some (.lst ((rs.map V.ref).set q (.ref rn))) := upd_same
          generalize upd H44 s5 (.lst ((rs.map V.ref).set q (.ref rn))) = H45 at k5 hs5 ⊢
          have k15 := (k13.trans k4).trans k5
          rw [hset] at hs5 hl40
          exact ⟨l40, s5, rs.set q rn, rfl, rfl, k15 _ _ hl40, hs5, _, rfl, iteF (hN4 _ _ ⟨rfl, e40.trans k15⟩)⟩
      rintro σ H44 ⟨rfl, e44⟩
      have J44 := J43.ex e44
      have e044 := e043.trans e44
      clear J43 g43 e043 e44
      -- no list
      refine ⟨_, rfl, lx, _, rfl, .inl ⟨SqL.of J44.tr, fun tu ntu => ?_⟩⟩
      have k1 := same_new (o := .tup (rs.map V.ref)) ntu
      have htu : upd H44 tu (.tup (rs.map V.ref)) tu = some (.tup (rs.map V.ref)) := upd_same
      generalize upd H44 tu (.tup (rs.map V.ref)) = H45 at k1 htu ⊢
      refine ⟨(by show 3 ≤ sizeLine; decide), fun lo nlo => ?_⟩
      have k2 := same_new (o := .lst [.non, .ref tu, .str "m"]) nlo
      have hlo : upd H45 lo (.lst [.non, .ref tu, .str "m"]) lo = some (.lst [.non, .ref tu, .str "m"]) := upd_same
      have htu2 := k2 _ _ htu
      generalize upd H45 lo (.lst [.non, .ref tu, .str "m"]) = H46 at k2 hlo htu2 ⊢
      refine ⟨lo, rfl, ⟨_, SqL.of hlo⟩, fun D47 n47 => ?_⟩
      refine lcw (walk_list (K := K) (a := lo) (xs := [.non, .ref tu, .str "m"])) [V.non, .ref tu, .str "m"] rfl (fun _ => true) (fun _ v H' => Dp K H' v dMN) (fun _ _ _ _ e h => Dp.ex e _ _ h) (fun _ _ _ _ _ _ hD b h => dp_mn hD b h) (by show 3 < sizeLine; decide) (fun H' e => SqL.of (e _ _ hlo)) (fun _ _ _ _ y => yAt_same y) (fun i x z H3 H4 hz e3 y Nx Q' k3 k4 => ?_) n47 (fun H47 us e47 hD47 hA47 => ?_)
      · obtain ⟨rfl, hx⟩ := y
        have bad : ∀ H', Same H46 H' → MBad p.C t.CT CI CO H' x CI (XDn .non) := fun H' e => by
          match i, hx with
          | 0, hx => cases hx; exact .non
          | 1, hx => cases hx; exact .tup (e _ _ htu2)
          | 2, hx => cases hx; exact .str _
          | i + 3, hx => simp at hx
        exact ⟨rfl, _, rfl, _, rfl, .inr ⟨CI, _, _, bad _ e3, .mesh _ trivial, fun t' H5 e5 hd5 => k4 rfl _ _ e5 hd5⟩⟩
      · rw [filt_all] at hA47
        have dall : DpAll K H47 us [dMN, dMN, dMN] := by
          cases hA47 with
          | cons a1 hA => cases hA with
            | cons a2 hA => cases hA with
              | cons a3 hA =>
                cases hA
                exact .cons a1 (.cons a2 (.cons a3 .nil))
        refine ⟨(by show 2 ≤ sizeLine; decide), fun a1 ma1 => ?_⟩
        have ea1 := same_new (o := .tup [.str "mesh", .non]) ma1
        have ha1 : upd H47 a1 (.tup [.str "mesh", .non]) a1 = some (.tup [.str "mesh", .non]) := upd_same
        generalize upd H47 a1 (.tup [.str "mesh", .non]) = aA at ea1 ha1 ⊢
        refine ⟨(by show 1 ≤ sizeLine; decide), fun a2 ma2 => ?_⟩
        have ea2 := same_new (o := .lst [.ref a1]) ma2
        have ha2 : upd aA a2 (.lst [.ref a1]) a2 = some (.lst [.ref a1]) := upd_same
        generalize upd aA a2 (.lst [.ref a1]) = aB at ea2 ha2 ⊢
        refine ⟨a2, 3, _, rfl, rfl, ha2, by decide, by decide, (by show 1 * 3 ≤ sizeLine; decide), fun a3 ma3 => ?_⟩
        rw [show (3 : Int).toNat = 3 from rfl, flat_rep]
        have ea3 := same_new (o := .lst (List.replicate 3 (V.ref a1))) ma3
        have ha3 : upd aB a3 (.lst (List.replicate 3 (V.ref a1))) a3 = some (.lst [V.ref a1, V.ref a1, V.ref a1]) := upd_same
        generalize upd aB a3 (.lst (List.replicate 3 (V.ref a1))) = aC at ea3 ha3 ⊢
        have ta := (ea2.trans ea3) _ _ ha1
        have e3a := (ea1.trans ea2).trans ea3
        have dt : Dp K aC (.ref a1) dMN := .tup (SqT.of ta) (.cons (.str _) (.cons .non .nil))
        refine ne_same (d := .list [dMN, dMN, dMN]) (.lst (SqL.of (e3a _ _ hD47)) (DpAll.ex e3a _ _ dall)) (.lst (SqL.of ha3) (.cons dt (.cons dt (.cons dt .nil)))) mn_sh ⟨_, rfl, iteF ?_⟩
        exact ⟨_, _, _, _, _, _, _, _, _, _, _, _, _, _, _, rfl, eH.trans (e044.trans (k1.trans (k2.trans (e47.trans e3a))))⟩
    rintro σ H1 ⟨v1, v2, v3, v4, v5, v6, v7, v8, v9, v10, v11, v12, v13, v14, v15, rfl, eH⟩
    -- far
    refine ⟨_, rfl, by decide, by decide, fun D nD => ?_⟩
    refine lc_range (lo := 0) (n := (61 : Int).toNat) (fun j H' => Same H1 H' ∧ ∃ vs : List V, H' D = some (.lst vs) ∧ vs.length = j ∧ ∀ (k : Nat) (v : V), vs[k]? = some v → IsTD p.C t.CT D v (farT k) H') ⟨same_new nD, [], upd_same, rfl, fun k v h => by simp at h⟩ ?_ ?_
    · rintro j H' hj ⟨e, vs, hv, hlen, hR⟩
      have hj : j < 61 := hj
      have e0 : (0 : Int) + (j : Nat) = (j : Int) := Int.zero_add _
      rw [e0]
      refine ⟨rfl, ?_⟩
      unfold tYes
      dsimp only
      rw [if_pos rfl]
      have cm := wide_mul (a := 4) (b := 6) (i := 9) (j := (j : Int)) (by decide) (by omega) (by decide) (by decide) (by decide)
      refine ⟨_, rfl, _, _, rfl, rfl, cm, (by show 2 ≤ sizeLine; decide), fun t1 n1 => ?_⟩
      have k1 := same_new (o := .tup [.int (9 * (j : Int)), .int 0]) n1
      have h1 : upd H' t1 (.tup [.int (9 * (j : Int)), .int 0]) t1 = some (.tup [.int (9 * (j : Int)), .int 0]) := upd_same
      generalize upd H' t1 (.tup [.int (9 * (j : Int)), .int 0]) = HA at k1 h1 ⊢
      refine ⟨_, rfl, _, _, rfl, rfl, cm, _, _, rfl, rfl, (by show 2 ≤ sizeLine; decide), fun t2 n2 => ?_⟩
      have k2 := same_new (o := .tup [.int (9 * (j : Int) + 1), .int 0]) n2
      have h2 : upd HA t2 (.tup [.int (9 * (j : Int) + 1), .int 0]) t2 = some (.tup [.int (9 * (j : Int) + 1), .int 0]) := upd_same
      generalize upd HA t2 (.tup [.int (9 * (j : Int) + 1), .int 0]) = HB at k2 h2 ⊢
      refine ⟨_, rfl, _, _, rfl, rfl, cm, (by show 2 ≤ sizeLine; decide), fun t3 n3 => ?_⟩
      have k3 := same_new (o := .tup [.int (9 * (j : Int)), .int 1]) n3
      have h3 : upd HB t3 (.tup [.int (9 * (j : Int)), .int 1]) t3 = some (.tup [.int (9 * (j : Int)), .int 1]) := upd_same
      generalize upd HB t3 (.tup [.int (9 * (j : Int)), .int 1]) = HC at k3 h3 ⊢
      have k123 := (k1.trans k2).trans k3
      refine fun tx dx nx nd ne => ?_
      have g1 : Same HC (upd (upd HC dx (.own tx)) tx (.ins t.CT dx [])) := (same_new nd).trans (same_new (by rw [upd_ne ne.symm]; exact nx))
      have s10 := far_sm hj
      have ps := far_pos j
      refine ⟨10, tx, dx, .ref t1, .ref t2, .ref t3, (farT j).1, (farT j).2.1, (farT j).2.2, rfl, upd_same, ⟨t1, rfl, .inr (g1 _ _ ((k2.trans k3) _ _ h1))⟩, ⟨t2, rfl, .inr (g1 _ _ (k3 _ _ h2))⟩, ⟨t3, rfl, .inr (g1 _ _ h3)⟩, by decide, s10.1, s10.2.1, s10.2.2, by omega, fun l' w1 w2 w3 H2 bt hx' hl' ht' => ⟨rfl, ?_⟩⟩
      have eb : onB (farT j).1 (farT j).2.1 (farT j).2.2 = (farT j).2.1 := by unfold onB; rw [if_pos ps]
      have ec : onC (farT j).1 (farT j).2.1 (farT j).2.2 = (farT j).2.2 := by unfold onC; rw [if_pos ps]
      rw [eb, ec] at ht'
      have e2 := k123.trans (But.same nx g1 bt)
      have hv2 := e2 _ _ hv
      have nl : l' ≠ D := fun z => by
        rw [z, hv2] at hl'
        injection hl' with hl'
        injection hl' with hl'
        subst hl'
        exact tri_pt ((hR 0 w1 rfl).ex e2) ht'.1
      have hNew : IsTD p.C t.CT D (.ref tx) (farT j) H2 := ⟨tx, dx, l', w1, w2, w3, rfl, hx', hl', nl, ht'⟩
      refine ⟨vs, hv2, Nat.lt_of_le_of_lt (by omega : vs.length ≤ 100) (by decide), But.upd.same nD (e.trans e2), vs ++ [.ref tx], upd_same, by rw [List.length_append, hlen]; rfl, fun k v hk => ?_⟩
      rcases get_snoc hk with hk | ⟨rfl, rfl⟩
      · exact ((hR k v hk).ex e2).but hv2 But.upd
      · rw [hlen]
        exact hNew.but hv2 But.upd
    rintro H2 ⟨e2, us, hD, hlen2, hR⟩
    have hlen3 : us.length = 61 := hlen2
    have hE : EachT p.C t.CT H2 us (fars 61) := ⟨by rw [fars_len]; exact hlen3, fun i v hv => ⟨farT i, fars_at (by have := (List.getElem?_eq_some_iff.mp hv).1; omega), (hR i v hv).t⟩⟩
    dsimp only [gName]
    refine ⟨_, rfl, _, rfl, .inr ⟨CI, _, _, .long hD (by omega), .mesh _ trivial, fun t3 H3 e3 hd3 => ?_⟩⟩
    refine ⟨(by show 2 ≤ sizeLine; decide), fun t4 n4 => ?_⟩
    have k4 := same_new (o := .tup [.str "mesh", .non]) n4
    refine eq_same (d := dMN) (Dp.ex k4 _ _ hd3) (.tup (SqT.of upd_same) (.cons (.str _) (.cons .non .nil))) dmn_sh ⟨true, rfl, iteT ?_⟩
    have e4 := e3.trans k4
    generalize upd H3 t4 (.tup [.str "mesh", .non]) = H4 at e4 ⊢
    refine ⟨_, rfl, _, rfl, D, us, rfl, SqL.of (e4 _ _ hD), fun s1 m1 => ?_⟩
    rw [show (60 : Int) = ((60 : Nat) : Int) from rfl, cut_first (by omega)]
    have k5 := same_new (o := .lst (us.take 60)) m1
    have hs1 : upd H4 s1 (.lst (us.take 60)) s1 = some (.lst (us.take 60)) := upd_same
    generalize upd H4 s1 (.lst (us.take 60)) = H5 at k5 hs1 ⊢
    have hE5 : EachT p.C t.CT H5 (us.take 60) (fars 60) := by
      rw [← fars_cut]
      exact ((hE.ex e4).ex k5).cut 60
    refine ⟨_, rfl, .inl ⟨10, s1, _, fars 60, rfl, hs1, hE5, by rw [fars_len]; decide, by decide, fars_sm (by decide), far_none 60, fun t6 H6 e6 hd6 => ?_⟩⟩
    have hd6' : Dp K H6 (.ref t6) (.tuple [.str "made", .int 60]) := by
      rw [fars_len] at hd6
      exact hd6
    refine ⟨(by show 2 ≤ sizeLine; decide), fun t7 n7 => ?_⟩
    have k7 := same_new (o := .tup [.str "made", .int 60]) n7
    refine eq_same (Dp.ex k7 _ _ hd6') (.tup (SqT.of upd_same) (.cons (.str _) (.cons (.int _) .nil))) (sh2 strMade rfl rfl) ⟨true, rfl, iteT ?_⟩
    generalize upd H6 t7 (.tup [.str "made", .int 60]) = H7
    refine ⟨(by show 0 ≤ sizeLine; decide), fun l8 n8 x dx nx nd ne => ?_⟩
    have g1 : Same (upd H7 l8 (.lst [])) (upd (upd (upd H7 l8 (.lst [])) dx (.own x)) x (.ins M.CM dx [])) := (same_new nd).trans (same_new (by rw [upd_ne ne.symm]; exact nx))
    refine ⟨10, x, dx, l8, [], [], rfl, upd_same, g1 _ _ upd_same, ⟨rfl, fun i v h => by simp at h⟩, by decide, by decide, (fun t h => nomatch h), rfl, fun l' H' bt nl hx hl' => ⟨rfl, ?_⟩⟩
    refine ⟨x, dx, _, rfl, hx, .ref x, [], rfl, ⟨x, dx, l', [], rfl, hx, hl', rfl, fun i v h => by simp at h⟩, 0, rfl, by decide, rfl, ?_⟩
    exact kk _
end
end Fo
set_option Elab.async false
set_option linter.all false
set_option maxRecDepth 100000
set_option maxHeartbeats 0
namespace Fo
open PySem L2
theorem all_mk {l : PySem.W.OpenLaw} {w : World} {K : PySem.W.Frag} {h : Heap} {mg : Str → Option Value} {fa C fW fI fP fA fO CT fS fTI fCo fEd pAr fAr fEq fAd CM fCu fAp fMI fMT fIx fML fMG fMW fMQ fTQ CF CEm gEm NEm cdaEm ccEm CEo gEo NEo cdaEo ccEo CEn gEn NEn cdaEn ccEn fHd fD fPr fLs fWy fCp fSpl fLm fLd fLpt fLer fLas fLpu fLrd fLdu fLpd fLmv fLfr fZ : Addr} (X : K.In h) (G : h.Ns mainGlobals mg) (hfa : mg "law" = some (.ref fa))
    {rspAr : List Value}
    {tMO : Tok}
    {nmEm qnEm quEm msEm fiEm : Str} {bsEm bmEm subEm : List Value} {snEm : List Str} {abEm : Bool} {colEm : Option Bool} {ddEm odgEm angEm cddEm cldEm : Option Addr} {e0Em e1Em e2Em e3Em e5Em : Option Value} {ocgEm kVgEm dcgEm pmgEm ctgEm cclEm clEm : Value} {slgEm ccsEm cslEm : Array (Option Value)} {vsEm : Array Value} {p1Em p2Em r1Em r2Em r3Em r4Em r5Em r6Em q1Em q2Em q3Em q4Em : Pos} {jEm : Nat} {tfEm : Tok}
    {nmEo qnEo quEo msEo fiEo : Str} {bsEo bmEo subEo : List Value} {snEo : List Str} {abEo : Bool} {colEo : Option Bool} {ddEo odgEo angEo cddEo cldEo : Option Addr} {e0Eo e1Eo e2Eo e3Eo e5Eo : Option Value} {ocgEo kVgEo dcgEo pmgEo ctgEo cclEo clEo : Value} {slgEo ccsEo cslEo : Array (Option Value)} {vsEo : Array Value} {p1Eo p2Eo p3Eo q5Eo q6Eo q7Eo q8Eo r1Eo r2Eo r3Eo r4Eo r5Eo r6Eo q1Eo q2Eo q3Eo q4Eo : Pos} {jEo : Nat} {tfEo : Tok}
    {nmEn qnEn quEn msEn fiEn : Str} {bsEn bmEn subEn : List Value} {snEn : List Str} {abEn : Bool} {colEn : Option Bool} {ddEn odgEn angEn cddEn cldEn : Option Addr} {e0En e1En e2En e3En e5En : Option Value} {ocgEn kVgEn dcgEn pmgEn ctgEn cclEn clEn : Value} {slgEn ccsEn cslEn : Array (Option Value)} {vsEn : Array Value} {p1En p2En r1En r2En r3En r4En r5En r6En q1En q2En q3En q4En : Pos} {jEn : Nat} {tfEn : Tok}
    {odW anW odI anI odP anP odA anA odO anO odS anS odTI anTI odCo anCo odEd anEd odAr anAr odEq anEq odAd anAd odCu anCu odAp anAp odMI anMI odMT anMT odIx anIx odML anML odMG anMG odMW anMW odMQ anMQ odTQ anTQ odHd anHd odD anD odPr anPr odLs anLs odWy anWy odCp anCp odSpl anSpl odLm anLm odLd anLd odLpt anLpt odLer anLer odLas anLas odLpu anLpu odLrd anLrd odLdu anLdu odLpd anLpd odLmv anLmv odLfr anLfr odZ anZ : Option Addr} {slW slI slP slA slO slS slTI slCo slEd slAr slEq slAd slCu slAp slMI slMT slIx slML slMG slMW slMQ slTQ slHd slD slPr slLs slWy slCp slSpl slLm slLd slLpt slLer slLas slLpu slLrd slLdu slLpd slLmv slLfr slZ : Array (Option Value)} {ocW kVW dcW pmW cdW ctW ocI kVI dcI pmI cdI ctI ocP kVP dcP pmP cdP ctP ocA kVA dcA pmA cdA ctA ocO kVO dcO pmO cdO ctO ocS kVS dcS pmS cdS ctS ocTI kVTI dcTI pmTI cdTI ctTI ocCo kVCo dcCo pmCo cdCo ctCo ocEd kVEd dcEd pmEd cdEd ctEd ocAr kVAr dcAr pmAr cdAr ctAr ocEq kVEq dcEq pmEq cdEq ctEq ocAd kVAd dcAd pmAd cdAd ctAd ocCu kVCu dcCu pmCu cdCu ctCu ocAp kVAp dcAp pmAp cdAp ctAp ocMI kVMI dcMI pmMI cdMI ctMI ocMT kVMT dcMT pmMT cdMT ctMT ocIx kVIx dcIx pmIx cdIx ctIx ocML kVML dcML pmML cdML ctML ocMG kVMG dcMG pmMG cdMG ctMG ocMW kVMW dcMW pmMW cdMW ctMW ocMQ kVMQ dcMQ pmMQ cdMQ ctMQ ocTQ kVTQ dcTQ pmTQ cdTQ ctTQ ocHd kVHd dcHd pmHd cdHd ctHd ocD kVD dcD pmD cdD ctD ocPr kVPr dcPr pmPr cdPr ctPr ocLs kVLs dcLs pmLs cdLs ctLs ocWy kVWy dcWy pmWy cdWy ctWy ocCp kVCp dcCp pmCp cdCp ctCp ocSpl kVSpl dcSpl pmSpl cdSpl ctSpl ocLm kVLm dcLm pmLm cdLm ctLm ocLd kVLd dcLd pmLd cdLd ctLd ocLpt kVLpt dcLpt pmLpt cdLpt ctLpt ocLer kVLer dcLer pmLer cdLer ctLer ocLas kVLas dcLas pmLas cdLas ctLas ocLpu kVLpu dcLpu pmLpu cdLpu ctLpu ocLrd kVLrd dcLrd pmLrd cdLrd ctLrd ocLdu kVLdu dcLdu pmLdu cdLdu ctLdu ocLpd kVLpd dcLpd pmLpd cdLpd ctLpd ocLmv kVLmv dcLmv pmLmv cdLmv ctLmv ocLfr kVLfr dcLfr pmLfr cdLfr ctLfr ocZ kVZ dcZ pmZ cdZ ctZ : Value}
    (aC : PySem.W.nsIn K mainGlobals "Point" = some (some (.ref C)))
    (pgC : PySem.W.plainGet K C Str.empty = true)
    (hdC : PySem.W.hasDictIn K C = true)
    (poC : PySem.W.plainOver K C = true)
    (saC : PySem.W.findIn K (.ref C) "__setattr__" = some (some (.builtin "object.__setattr__")))
    (mkC : PySem.W.makesIn K C = true)
    (kcC : PySem.W.keepIn K (.ref C) = true)
    (haC : PySem.W.findIn K (.ref C) "__class__" = some (some (.builtin "object.__class__")))
    (hmC : PySem.W.mroIn K C (.type "object") = some true)
    (kkC : PySem.W.kitOne K (.ref C) (.ref C) = some true)
    (sfC : PySem.W.selfFirst K C = true)
    (no_C_x : PySem.W.findIn K (.ref C) "x" = some none)
    (no_C_y : PySem.W.findIn K (.ref C) "y" = some none)
    (hn : PySem.W.specialIn K (.builtin "object.__class__") "__get__" = some (some (.builtin "getset_descriptor.__get__")))
    (htk : PySem.W.takesIn K (.builtin "object.__class__") = some true)
    (kTC : PySem.W.kitOne K (.type "tuple") (.ref C) = some false)
    (aW : PySem.W.nsIn K mainGlobals "is_whole" = some (some (.ref fW)))
    (lW : K.lookup fW = some ⟨ocW, odW, .func (PySem.W.fnOf "is_whole" "is_whole" (defArgs sWhole) (defBody sWhole) (defScope sWhole) .none kVW dcW pmW anW cdW ctW), slW⟩)
    (cW : PySem.W.codeIn K cdW "is_whole" = true)
    (kW : PySem.W.keepIn K (.ref fW) = true)
    (aI : PySem.W.findIn K (.ref C) "__init__" = some (some (.ref fI)))
    (iI : PySem.W.isFn K (.ref fI) = true)
    (lI : K.lookup fI = some ⟨ocI, odI, .func (PySem.W.fnOf "__init__" "Point.__init__" (defArgs sInit) (defBody sInit) (defScope sInit) .none kVI dcI pmI anI cdI ctI), slI⟩)
    (cI : PySem.W.codeIn K cdI "Point.__init__" = true)
    (kI : PySem.W.keepIn K (.ref fI) = true)
    (aP : PySem.W.nsIn K mainGlobals "is_point" = some (some (.ref fP)))
    (lP : K.lookup fP = some ⟨ocP, odP, .func (PySem.W.fnOf "is_point" "is_point" (defArgs sIsPoint) (defBody sIsPoint) (defScope sIsPoint) .none kVP dcP pmP anP cdP ctP), slP⟩)
    (cP : PySem.W.codeIn K cdP "is_point" = true)
    (kP : PySem.W.keepIn K (.ref fP) = true)
    (aA : PySem.W.nsIn K mainGlobals "as_point" = some (some (.ref fA)))
    (lA : K.lookup fA = some ⟨ocA, odA, .func (PySem.W.fnOf "as_point" "as_point" (defArgs sAsPoint) (defBody sAsPoint) (defScope sAsPoint) .none kVA dcA pmA anA cdA ctA), slA⟩)
    (cA : PySem.W.codeIn K cdA "as_point" = true)
    (kA : PySem.W.keepIn K (.ref fA) = true)
    (aO : PySem.W.nsIn K mainGlobals "operand" = some (some (.ref fO)))
    (lO : K.lookup fO = some ⟨ocO, odO, .func (PySem.W.fnOf "operand" "operand" (defArgs sOperand) (defBody sOperand) (defScope sOperand) .none kVO dcO pmO anO cdO ctO), slO⟩)
    (cO : PySem.W.codeIn K cdO "operand" = true)
    (kO : PySem.W.keepIn K (.ref fO) = true)
    (z_isinstance : PySem.W.nsIn K mainGlobals "isinstance" = some none)
    (z_len : PySem.W.nsIn K mainGlobals "len" = some none)
    (z_int : PySem.W.nsIn K mainGlobals "int" = some none)
    (z_bool : PySem.W.nsIn K mainGlobals "bool" = some none)
    (z_tuple : PySem.W.nsIn K mainGlobals "tuple" = some none)
    (aCT : PySem.W.nsIn K mainGlobals "Triangle" = some (some (.ref CT)))
    (pgCT : PySem.W.plainGet K CT Str.empty = true)
    (hdCT : PySem.W.hasDictIn K CT = true)
    (poCT : PySem.W.plainOver K CT = true)
    (saCT : PySem.W.findIn K (.ref CT) "__setattr__" = some (some (.builtin "object.__setattr__")))
    (mkCT : PySem.W.makesIn K CT = true)
    (kcCT : PySem.W.keepIn K (.ref CT) = true)
    (haCT : PySem.W.findIn K (.ref CT) "__class__" = some (some (.builtin "object.__class__")))
    (hmCT : PySem.W.mroIn K CT (.type "object") = some true)
    (kkCT : PySem.W.kitOne K (.ref CT) (.ref CT) = some true)
    (sfCT : PySem.W.selfFirst K CT = true)
    (no_CT_tips : PySem.W.findIn K (.ref CT) "tips" = some none)
    (kLT : PySem.W.kitOne K (.type "list") (.ref CT) = some false)
    (aS : PySem.W.nsIn K mainGlobals "side" = some (some (.ref fS)))
    (lS : K.lookup fS = some ⟨ocS, odS, .func (PySem.W.fnOf "side" "side" (defArgs sSide) (defBody sSide) (defScope sSide) .none kVS dcS pmS anS cdS ctS), slS⟩)
    (cS : PySem.W.codeIn K cdS "side" = true)
    (kS : PySem.W.keepIn K (.ref fS) = true)
    (aTI : PySem.W.findIn K (.ref CT) "__init__" = some (some (.ref fTI)))
    (iTI : PySem.W.isFn K (.ref fTI) = true)
    (lTI : K.lookup fTI = some ⟨ocTI, odTI, .func (PySem.W.fnOf "__init__" "Triangle.__init__" (defArgs sTInit) (defBody sTInit) (defScope sTInit) .none kVTI dcTI pmTI anTI cdTI ctTI), slTI⟩)
    (cTI : PySem.W.codeIn K cdTI "Triangle.__init__" = true)
    (kTI : PySem.W.keepIn K (.ref fTI) = true)
    (aCo : PySem.W.findIn K (.ref CT) "corners" = some (some (.ref fCo)))
    (iCo : PySem.W.isFn K (.ref fCo) = true)
    (lCo : K.lookup fCo = some ⟨ocCo, odCo, .func (PySem.W.fnOf "corners" "Triangle.corners" (defArgs sCorners) (defBody sCorners) (defScope sCorners) .none kVCo dcCo pmCo anCo cdCo ctCo), slCo⟩)
    (cCo : PySem.W.codeIn K cdCo "Triangle.corners" = true)
    (kCo : PySem.W.keepIn K (.ref fCo) = true)
    (aEd : PySem.W.findIn K (.ref CT) "edges" = some (some (.ref fEd)))
    (iEd : PySem.W.isFn K (.ref fEd) = true)
    (lEd : K.lookup fEd = some ⟨ocEd, odEd, .func (PySem.W.fnOf "edges" "Triangle.edges" (defArgs sEdges) (defBody sEdges) (defScope sEdges) .none kVEd dcEd pmEd anEd cdEd ctEd), slEd⟩)
    (cEd : PySem.W.codeIn K cdEd "Triangle.edges" = true)
    (kEd : PySem.W.keepIn K (.ref fEd) = true)
    (apAr : PySem.W.findIn K (.ref CT) "area2" = some (some (.ref pAr)))
    (gpAr : PySem.W.specialIn K (.ref pAr) "__get__" = some (some (.builtin "property.__get__")))
    (tpAr : PySem.W.takesIn K (.ref pAr) = some true)
    (rpAr : PySem.W.recIn K pAr "property" = some (.ref fAr :: rspAr))
    (lAr : K.lookup fAr = some ⟨ocAr, odAr, .func (PySem.W.fnOf "area2" "Triangle.area2" (defArgs sArea) (defBody sArea) (defScope sArea) .none kVAr dcAr pmAr anAr cdAr ctAr), slAr⟩)
    (cAr : PySem.W.codeIn K cdAr "Triangle.area2" = true)
    (kAr : PySem.W.keepIn K (.ref fAr) = true)
    (aEq : PySem.W.findIn K (.ref C) "__eq__" = some (some (.ref fEq)))
    (iEq : PySem.W.isFn K (.ref fEq) = true)
    (lEq : K.lookup fEq = some ⟨ocEq, odEq, .func (PySem.W.fnOf "__eq__" "Point.__eq__" (defArgs sEq) (defBody sEq) (defScope sEq) .none kVEq dcEq pmEq anEq cdEq ctEq), slEq⟩)
    (cEq : PySem.W.codeIn K cdEq "Point.__eq__" = true)
    (kEq : PySem.W.keepIn K (.ref fEq) = true)
    (aAd : PySem.W.findIn K (.ref C) "__add__" = some (some (.ref fAd)))
    (iAd : PySem.W.isFn K (.ref fAd) = true)
    (lAd : K.lookup fAd = some ⟨ocAd, odAd, .func (PySem.W.fnOf "__add__" "Point.__add__" (defArgs sAdd) (defBody sAdd) (defScope sAdd) .none kVAd dcAd pmAd anAd cdAd ctAd), slAd⟩)
    (cAd : PySem.W.codeIn K cdAd "Point.__add__" = true)
    (kAd : PySem.W.keepIn K (.ref fAd) = true)
    (z_list : PySem.W.nsIn K mainGlobals "list" = some none)
    (z_all : PySem.W.nsIn K mainGlobals "all" = some none)
    (aCM : PySem.W.nsIn K mainGlobals "Mesh" = some (some (.ref CM)))
    (pgCM : PySem.W.plainGet K CM Str.empty = true)
    (hdCM : PySem.W.hasDictIn K CM = true)
    (poCM : PySem.W.plainOver K CM = true)
    (saCM : PySem.W.findIn K (.ref CM) "__setattr__" = some (some (.builtin "object.__setattr__")))
    (mkCM : PySem.W.makesIn K CM = true)
    (kcCM : PySem.W.keepIn K (.ref CM) = true)
    (haCM : PySem.W.findIn K (.ref CM) "__class__" = some (some (.builtin "object.__class__")))
    (hmCM : PySem.W.mroIn K CM (.type "object") = some true)
    (kkCM : PySem.W.kitOne K (.ref CM) (.ref CM) = some true)
    (sfCM : PySem.W.selfFirst K CM = true)
    (no_CM_pieces : PySem.W.findIn K (.ref CM) "pieces" = some none)
    (aMO : PySem.W.nsIn K mainGlobals "MOST_TRIANGLES" = some (some (.int 60 tMO)))
    (aCu : PySem.W.nsIn K mainGlobals "is_cut_off" = some (some (.ref fCu)))
    (lCu : K.lookup fCu = some ⟨ocCu, odCu, .func (PySem.W.fnOf "is_cut_off" "is_cut_off" (defArgs sCut) (defBody sCut) (defScope sCut) .none kVCu dcCu pmCu anCu cdCu ctCu), slCu⟩)
    (cCu : PySem.W.codeIn K cdCu "is_cut_off" = true)
    (kCu : PySem.W.keepIn K (.ref fCu) = true)
    (aAp : PySem.W.nsIn K mainGlobals "apart" = some (some (.ref fAp)))
    (lAp : K.lookup fAp = some ⟨ocAp, odAp, .func (PySem.W.fnOf "apart" "apart" (defArgs sApart) (defBody sApart) (defScope sApart) .none kVAp dcAp pmAp anAp cdAp ctAp), slAp⟩)
    (cAp : PySem.W.codeIn K cdAp "apart" = true)
    (kAp : PySem.W.keepIn K (.ref fAp) = true)
    (aMI : PySem.W.findIn K (.ref CM) "__init__" = some (some (.ref fMI)))
    (iMI : PySem.W.isFn K (.ref fMI) = true)
    (lMI : K.lookup fMI = some ⟨ocMI, odMI, .func (PySem.W.fnOf "__init__" "Mesh.__init__" (defArgs sMInit) (defBody sMInit) (defScope sMInit) .none kVMI dcMI pmMI anMI cdMI ctMI), slMI⟩)
    (cMI : PySem.W.codeIn K cdMI "Mesh.__init__" = true)
    (kMI : PySem.W.keepIn K (.ref fMI) = true)
    (aMT : PySem.W.findIn K (.ref CM) "triangles" = some (some (.ref fMT)))
    (iMT : PySem.W.isFn K (.ref fMT) = true)
    (lMT : K.lookup fMT = some ⟨ocMT, odMT, .func (PySem.W.fnOf "triangles" "Mesh.triangles" (defArgs sMTris) (defBody sMTris) (defScope sMTris) .none kVMT dcMT pmMT anMT cdMT ctMT), slMT⟩)
    (cMT : PySem.W.codeIn K cdMT "Mesh.triangles" = true)
    (kMT : PySem.W.keepIn K (.ref fMT) = true)
    (z_range : PySem.W.nsIn K mainGlobals "range" = some none)
    (z_any : PySem.W.nsIn K mainGlobals "any" = some none)
    (z_enumerate : PySem.W.nsIn K mainGlobals "enumerate" = some none)
    (fiMG : PySem.W.fnIn K fMG = true)
    (nsM : PySem.W.noSeq K CM = true)
    (neM : PySem.W.findIn K (.ref CM) "__ne__" = some (some (.builtin "object.__ne__")))
    (ntM : PySem.W.notFirst K CM (.type "tuple") = true)
    (nlM : PySem.W.notFirst K CM (.type "list") = true)
    (kLM : PySem.W.kitOne K (.type "list") (.ref CM) = some false)
    (kNT : PySem.W.kitOne K (.type "NoneType") (.ref CT) = some false)
    (neT : PySem.W.findIn K (.ref CT) "__ne__" = some (some (.builtin "object.__ne__")))
    (ntT : PySem.W.notFirst K CT (.type "tuple") = true)
    (aIx : PySem.W.nsIn K mainGlobals "is_index" = some (some (.ref fIx)))
    (lIx : K.lookup fIx = some ⟨ocIx, odIx, .func (PySem.W.fnOf "is_index" "is_index" (defArgs sIsIx) (defBody sIsIx) (defScope sIsIx) .none kVIx dcIx pmIx anIx cdIx ctIx), slIx⟩)
    (cIx : PySem.W.codeIn K cdIx "is_index" = true)
    (kIx : PySem.W.keepIn K (.ref fIx) = true)
    (aML : PySem.W.findIn K (.ref CM) "__len__" = some (some (.ref fML)))
    (iML : PySem.W.isFn K (.ref fML) = true)
    (lML : K.lookup fML = some ⟨ocML, odML, .func (PySem.W.fnOf "__len__" "Mesh.__len__" (defArgs sMLen) (defBody sMLen) (defScope sMLen) .none kVML dcML pmML anML cdML ctML), slML⟩)
    (cML : PySem.W.codeIn K cdML "Mesh.__len__" = true)
    (kML : PySem.W.keepIn K (.ref fML) = true)
    (aMG : PySem.W.findIn K (.ref CM) "__getitem__" = some (some (.ref fMG)))
    (iMG : PySem.W.isFn K (.ref fMG) = true)
    (lMG : K.lookup fMG = some ⟨ocMG, odMG, .func (PySem.W.fnOf "__getitem__" "Mesh.__getitem__" (defArgs sMGet) (defBody sMGet) (defScope sMGet) .none kVMG dcMG pmMG anMG cdMG ctMG), slMG⟩)
    (cMG : PySem.W.codeIn K cdMG "Mesh.__getitem__" = true)
    (kMG : PySem.W.keepIn K (.ref fMG) = true)
    (aMW : PySem.W.findIn K (.ref CM) "__setitem__" = some (some (.ref fMW)))
    (iMW : PySem.W.isFn K (.ref fMW) = true)
    (lMW : K.lookup fMW = some ⟨ocMW, odMW, .func (PySem.W.fnOf "__setitem__" "Mesh.__setitem__" (defArgs sMSet) (defBody sMSet) (defScope sMSet) .none kVMW dcMW pmMW anMW cdMW ctMW), slMW⟩)
    (cMW : PySem.W.codeIn K cdMW "Mesh.__setitem__" = true)
    (kMW : PySem.W.keepIn K (.ref fMW) = true)
    (aMQ : PySem.W.findIn K (.ref CM) "__eq__" = some (some (.ref fMQ)))
    (iMQ : PySem.W.isFn K (.ref fMQ) = true)
    (lMQ : K.lookup fMQ = some ⟨ocMQ, odMQ, .func (PySem.W.fnOf "__eq__" "Mesh.__eq__" (defArgs sMEq) (defBody sMEq) (defScope sMEq) .none kVMQ dcMQ pmMQ anMQ cdMQ ctMQ), slMQ⟩)
    (cMQ : PySem.W.codeIn K cdMQ "Mesh.__eq__" = true)
    (kMQ : PySem.W.keepIn K (.ref fMQ) = true)
    (aTQ : PySem.W.findIn K (.ref CT) "__eq__" = some (some (.ref fTQ)))
    (iTQ : PySem.W.isFn K (.ref fTQ) = true)
    (lTQ : K.lookup fTQ = some ⟨ocTQ, odTQ, .func (PySem.W.fnOf "__eq__" "Triangle.__eq__" (defArgs sTEq) (defBody sTEq) (defScope sTEq) .none kVTQ dcTQ pmTQ anTQ cdTQ ctTQ), slTQ⟩)
    (cTQ : PySem.W.codeIn K cdTQ "Triangle.__eq__" = true)
    (kTQ : PySem.W.keepIn K (.ref fTQ) = true)
    (aCF : PySem.W.nsIn K mainGlobals "FillError" = some (some (.ref CF)))
    (tpI : PySem.W.nsIn K cStatics "thirdparty.any" = some none)
    (tsI : (l.prog.main.scope.names.lookup ("super" : Str)).isSome = false)
    (aCEm : PySem.W.nsIn K mainGlobals "InvalidMesh" = some (some (.ref CEm)))
    (lCEm : K.lookup CEm = some (PySem.excClassObj nmEm qnEm CEm NEm bsEm bmEm true snEm subEm abEm colEm ddEm e0Em e1Em e2Em e3Em e5Em "ValueError.__new__"))
    (rvEm : PySem.HandSPX.refsVE bmEm = true)
    (saEm : PySem.W.findIn K (.ref CEm) "__setattr__" = some (some (.builtin "object.__setattr__")))
    (gaEm : PySem.W.findIn K (.ref CEm) "__getattribute__" = some (some (.builtin "BaseException.__getattribute__")))
    (ggEm : PySem.W.findIn K (.ref CEm) "__getattr__" = some none)
    (noEm : PySem.W.findIn K (.ref CEm) (Str.ofString "number") = some none)
    (inEm : PySem.W.findIn K (.ref CEm) "__init__" = some (some (.ref gEm)))
    (tyEm : PySem.W.typeIn K (.ref gEm) = some (.type "function"))
    (kpEm : PySem.W.keepIn K (.ref CEm) = true)
    (exEm : PySem.W.subIn K (.ref CEm) (.type "BaseException") = some true)
    (tcEm : PySem.W.typeIn K (.ref CEm) = some (.type "type"))
    (hdEm : PySem.W.hasDictIn K CEm = true)
    (suEm : PySem.W.ks_superIn K CEm CEm "__init__" = some (some (.builtin "ValueError.__init__")))
    (veEm : PySem.W.subIn K (.ref CEm) (.type "ValueError") = some true)
    (mrEm : PySem.W.mroIn K CEm (.ref CEm) = some true)
    (lgEm : K.lookup gEm = some ⟨ocgEm, odgEm, .func (PySem.W.ksFn "__init__" quEm (FoX_number.xA p1Em p2Em) (FoX_number.xB msEm r1Em r2Em r3Em r4Em r5Em r6Em q1Em q2Em q3Em q4Em jEm) FoX_number.xS .none kVgEm dcgEm pmgEm angEm (.ref cdaEm) ctgEm ccEm), slgEm⟩)
    (cgEm : PySem.W.codeIn K (.ref cdaEm) quEm = true)
    (lcEm : K.lookup cdaEm = some ⟨cclEm, cddEm, .fields vsEm, ccsEm⟩)
    (vfEm : vsEm[2]? = some (.str fiEm tfEm))
    (flEm : ((l.prog.main.file : Str) == fiEm) = true)
    (lnEm : (r3Em.endLine == r5Em.line) = true)
    (leEm : K.lookup ccEm = some ⟨clEm, cldEm, .cell (some (.ref CEm)), cslEm⟩)
    (caEm : PySem.W.findIn K (.ref CEm) "__class__" = some (some (.builtin "object.__class__")))
    (moEm : PySem.W.mroIn K CEm (.type "object") = some true)
    (emEm : PySem.W.exmOne K (.ref CEm) (.ref CF) = some true)
    (ksEm : PySem.W.kitOne K (.ref CEm) (.ref CEm) = some true)
    (z_super : PySem.W.nsIn K mainGlobals "super" = some none)
    (aCEo : PySem.W.nsIn K mainGlobals "Overlap" = some (some (.ref CEo)))
    (lCEo : K.lookup CEo = some (PySem.excClassObj nmEo qnEo CEo NEo bsEo bmEo true snEo subEo abEo colEo ddEo e0Eo e1Eo e2Eo e3Eo e5Eo "ValueError.__new__"))
    (rvEo : PySem.HandSPX.refsVE bmEo = true)
    (saEo : PySem.W.findIn K (.ref CEo) "__setattr__" = some (some (.builtin "object.__setattr__")))
    (gaEo : PySem.W.findIn K (.ref CEo) "__getattribute__" = some (some (.builtin "BaseException.__getattribute__")))
    (ggEo : PySem.W.findIn K (.ref CEo) "__getattr__" = some none)
    (noPEo : PySem.W.findIn K (.ref CEo) (Str.ofString "number") = some none)
    (noEo : PySem.W.findIn K (.ref CEo) (Str.ofString "other") = some none)
    (inEo : PySem.W.findIn K (.ref CEo) "__init__" = some (some (.ref gEo)))
    (tyEo : PySem.W.typeIn K (.ref gEo) = some (.type "function"))
    (kpEo : PySem.W.keepIn K (.ref CEo) = true)
    (exEo : PySem.W.subIn K (.ref CEo) (.type "BaseException") = some true)
    (tcEo : PySem.W.typeIn K (.ref CEo) = some (.type "type"))
    (hdEo : PySem.W.hasDictIn K CEo = true)
    (suEo : PySem.W.ks_superIn K CEo CEo "__init__" = some (some (.builtin "ValueError.__init__")))
    (veEo : PySem.W.subIn K (.ref CEo) (.type "ValueError") = some true)
    (mrEo : PySem.W.mroIn K CEo (.ref CEo) = some true)
    (lgEo : K.lookup gEo = some ⟨ocgEo, odgEo, .func (PySem.W.ksFn "__init__" quEo (FoX_ov.xA p1Eo p2Eo p3Eo) (FoX_ov.xB msEo r1Eo r2Eo r3Eo r4Eo r5Eo r6Eo q1Eo q2Eo q3Eo q4Eo q5Eo q6Eo q7Eo q8Eo jEo) FoX_ov.xS .none kVgEo dcgEo pmgEo angEo (.ref cdaEo) ctgEo ccEo), slgEo⟩)
    (cgEo : PySem.W.codeIn K (.ref cdaEo) quEo = true)
    (lcEo : K.lookup cdaEo = some ⟨cclEo, cddEo, .fields vsEo, ccsEo⟩)
    (vfEo : vsEo[2]? = some (.str fiEo tfEo))
    (flEo : ((l.prog.main.file : Str) == fiEo) = true)
    (lnEo : (r3Eo.endLine == r5Eo.line) = true)
    (leEo : K.lookup ccEo = some ⟨clEo, cldEo, .cell (some (.ref CEo)), cslEo⟩)
    (caEo : PySem.W.findIn K (.ref CEo) "__class__" = some (some (.builtin "object.__class__")))
    (moEo : PySem.W.mroIn K CEo (.type "object") = some true)
    (emEo : PySem.W.exmOne K (.ref CEo) (.ref CF) = some true)
    (ksEo : PySem.W.kitOne K (.ref CEo) (.ref CEo) = some true)
    (aCEn : PySem.W.nsIn K mainGlobals "InvalidNumber" = some (some (.ref CEn)))
    (lCEn : K.lookup CEn = some (PySem.excClassObj nmEn qnEn CEn NEn bsEn bmEn true snEn subEn abEn colEn ddEn e0En e1En e2En e3En e5En "ValueError.__new__"))
    (rvEn : PySem.HandSPX.refsVE bmEn = true)
    (saEn : PySem.W.findIn K (.ref CEn) "__setattr__" = some (some (.builtin "object.__setattr__")))
    (gaEn : PySem.W.findIn K (.ref CEn) "__getattribute__" = some (some (.builtin "BaseException.__getattribute__")))
    (ggEn : PySem.W.findIn K (.ref CEn) "__getattr__" = some none)
    (noEn : PySem.W.findIn K (.ref CEn) (Str.ofString "number") = some none)
    (inEn : PySem.W.findIn K (.ref CEn) "__init__" = some (some (.ref gEn)))
    (tyEn : PySem.W.typeIn K (.ref gEn) = some (.type "function"))
    (kpEn : PySem.W.keepIn K (.ref CEn) = true)
    (exEn : PySem.W.subIn K (.ref CEn) (.type "BaseException") = some true)
    (tcEn : PySem.W.typeIn K (.ref CEn) = some (.type "type"))
    (hdEn : PySem.W.hasDictIn K CEn = true)
    (suEn : PySem.W.ks_superIn K CEn CEn "__init__" = some (some (.builtin "ValueError.__init__")))
    (veEn : PySem.W.subIn K (.ref CEn) (.type "ValueError") = some true)
    (mrEn : PySem.W.mroIn K CEn (.ref CEn) = some true)
    (lgEn : K.lookup gEn = some ⟨ocgEn, odgEn, .func (PySem.W.ksFn "__init__" quEn (FoX_number.xA p1En p2En) (FoX_number.xB msEn r1En r2En r3En r4En r5En r6En q1En q2En q3En q4En jEn) FoX_number.xS .none kVgEn dcgEn pmgEn angEn (.ref cdaEn) ctgEn ccEn), slgEn⟩)
    (cgEn : PySem.W.codeIn K (.ref cdaEn) quEn = true)
    (lcEn : K.lookup cdaEn = some ⟨cclEn, cddEn, .fields vsEn, ccsEn⟩)
    (vfEn : vsEn[2]? = some (.str fiEn tfEn))
    (flEn : ((l.prog.main.file : Str) == fiEn) = true)
    (lnEn : (r3En.endLine == r5En.line) = true)
    (leEn : K.lookup ccEn = some ⟨clEn, cldEn, .cell (some (.ref CEn)), cslEn⟩)
    (caEn : PySem.W.findIn K (.ref CEn) "__class__" = some (some (.builtin "object.__class__")))
    (moEn : PySem.W.mroIn K CEn (.type "object") = some true)
    (emEn : PySem.W.exmOne K (.ref CEn) (.ref CF) = some true)
    (ksEn : PySem.W.kitOne K (.ref CEn) (.ref CEn) = some true)
    (kkEmEo : PySem.W.kitOne K (.ref CEm) (.ref CEo) = some false)
    (kkEnEo : PySem.W.kitOne K (.ref CEn) (.ref CEo) = some false)
    (kkEnEm : PySem.W.kitOne K (.ref CEn) (.ref CEm) = some false)
    (z_repr : PySem.W.nsIn K mainGlobals "repr" = some none)
    (z_max : PySem.W.nsIn K mainGlobals "max" = some none)
    (z_min : PySem.W.nsIn K mainGlobals "min" = some none)
    (aHd : PySem.W.nsIn K mainGlobals "_law_hand" = some (some (.ref fHd)))
    (lHd : K.lookup fHd = some ⟨ocHd, odHd, .func (PySem.W.fnOf "_law_hand" "_law_hand" (defArgs sHand) (defBody sHand) (defScope sHand) .none kVHd dcHd pmHd anHd cdHd ctHd), slHd⟩)
    (cHd : PySem.W.codeIn K cdHd "_law_hand" = true)
    (kHd : PySem.W.keepIn K (.ref fHd) = true)
    (aD : PySem.W.nsIn K mainGlobals "_law_draw" = some (some (.ref fD)))
    (lD : K.lookup fD = some ⟨ocD, odD, .func (PySem.W.fnOf "_law_draw" "_law_draw" (defArgs sDraw) (defBody sDraw) (defScope sDraw) .none kVD dcD pmD anD cdD ctD), slD⟩)
    (cD : PySem.W.codeIn K cdD "_law_draw" = true)
    (kD : PySem.W.keepIn K (.ref fD) = true)
    (aPr : PySem.W.nsIn K mainGlobals "_law_pair" = some (some (.ref fPr)))
    (lPr : K.lookup fPr = some ⟨ocPr, odPr, .func (PySem.W.fnOf "_law_pair" "_law_pair" (defArgs sPair) (defBody sPair) (defScope sPair) .none kVPr dcPr pmPr anPr cdPr ctPr), slPr⟩)
    (cPr : PySem.W.codeIn K cdPr "_law_pair" = true)
    (kPr : PySem.W.keepIn K (.ref fPr) = true)
    (aLs : PySem.W.nsIn K mainGlobals "_law_side" = some (some (.ref fLs)))
    (lLs : K.lookup fLs = some ⟨ocLs, odLs, .func (PySem.W.fnOf "_law_side" "_law_side" (defArgs sLSide) (defBody sLSide) (defScope sLSide) .none kVLs dcLs pmLs anLs cdLs ctLs), slLs⟩)
    (cLs : PySem.W.codeIn K cdLs "_law_side" = true)
    (kLs : PySem.W.keepIn K (.ref fLs) = true)
    (aWy : PySem.W.nsIn K mainGlobals "_law_ways" = some (some (.ref fWy)))
    (lWy : K.lookup fWy = some ⟨ocWy, odWy, .func (PySem.W.fnOf "_law_ways" "_law_ways" (defArgs sWays) (defBody sWays) (defScope sWays) .none kVWy dcWy pmWy anWy cdWy ctWy), slWy⟩)
    (cWy : PySem.W.codeIn K cdWy "_law_ways" = true)
    (kWy : PySem.W.keepIn K (.ref fWy) = true)
    (aCp : PySem.W.nsIn K mainGlobals "_law_corner_points" = some (some (.ref fCp)))
    (lCp : K.lookup fCp = some ⟨ocCp, odCp, .func (PySem.W.fnOf "_law_corner_points" "_law_corner_points" (defArgs sCP) (defBody sCP) (defScope sCP) .none kVCp dcCp pmCp anCp cdCp ctCp), slCp⟩)
    (cCp : PySem.W.codeIn K cdCp "_law_corner_points" = true)
    (kCp : PySem.W.keepIn K (.ref fCp) = true)
    (aSpl : PySem.W.nsIn K mainGlobals "_law_split" = some (some (.ref fSpl)))
    (lSpl : K.lookup fSpl = some ⟨ocSpl, odSpl, .func (PySem.W.fnOf "_law_split" "_law_split" (defArgs sSplit) (defBody sSplit) (defScope sSplit) .none kVSpl dcSpl pmSpl anSpl cdSpl ctSpl), slSpl⟩)
    (cSpl : PySem.W.codeIn K cdSpl "_law_split" = true)
    (kSpl : PySem.W.keepIn K (.ref fSpl) = true)
    (aLm : PySem.W.nsIn K mainGlobals "_law_mesh" = some (some (.ref fLm)))
    (lLm : K.lookup fLm = some ⟨ocLm, odLm, .func (PySem.W.fnOf "_law_mesh" "_law_mesh" (defArgs sLMesh) (defBody sLMesh) (defScope sLMesh) .none kVLm dcLm pmLm anLm cdLm ctLm), slLm⟩)
    (cLm : PySem.W.codeIn K cdLm "_law_mesh" = true)
    (kLm : PySem.W.keepIn K (.ref fLm) = true)
    (aLd : PySem.W.nsIn K mainGlobals "_law_laid" = some (some (.ref fLd)))
    (lLd : K.lookup fLd = some ⟨ocLd, odLd, .func (PySem.W.fnOf "_law_laid" "_law_laid" (defArgs sLaid) (defBody sLaid) (defScope sLaid) .none kVLd dcLd pmLd anLd cdLd ctLd), slLd⟩)
    (cLd : PySem.W.codeIn K cdLd "_law_laid" = true)
    (kLd : PySem.W.keepIn K (.ref fLd) = true)
    (aLpt : PySem.W.nsIn K mainGlobals "_law_parted" = some (some (.ref fLpt)))
    (lLpt : K.lookup fLpt = some ⟨ocLpt, odLpt, .func (PySem.W.fnOf "_law_parted" "_law_parted" (defArgs sLPt) (defBody sLPt) (defScope sLPt) .none kVLpt dcLpt pmLpt anLpt cdLpt ctLpt), slLpt⟩)
    (cLpt : PySem.W.codeIn K cdLpt "_law_parted" = true)
    (kLpt : PySem.W.keepIn K (.ref fLpt) = true)
    (aLer : PySem.W.nsIn K mainGlobals "_law_error" = some (some (.ref fLer)))
    (lLer : K.lookup fLer = some ⟨ocLer, odLer, .func (PySem.W.fnOf "_law_error" "_law_error" (defArgs sLEr) (defBody sLEr) (defScope sLEr) .none kVLer dcLer pmLer anLer cdLer ctLer), slLer⟩)
    (cLer : PySem.W.codeIn K cdLer "_law_error" = true)
    (kLer : PySem.W.keepIn K (.ref fLer) = true)
    (aLas : PySem.W.nsIn K mainGlobals "_law_asked" = some (some (.ref fLas)))
    (lLas : K.lookup fLas = some ⟨ocLas, odLas, .func (PySem.W.fnOf "_law_asked" "_law_asked" (defArgs sLAs) (defBody sLAs) (defScope sLAs) .none kVLas dcLas pmLas anLas cdLas ctLas), slLas⟩)
    (cLas : PySem.W.codeIn K cdLas "_law_asked" = true)
    (kLas : PySem.W.keepIn K (.ref fLas) = true)
    (aLpu : PySem.W.nsIn K mainGlobals "_law_put" = some (some (.ref fLpu)))
    (lLpu : K.lookup fLpu = some ⟨ocLpu, odLpu, .func (PySem.W.fnOf "_law_put" "_law_put" (defArgs sLPu) (defBody sLPu) (defScope sLPu) .none kVLpu dcLpu pmLpu anLpu cdLpu ctLpu), slLpu⟩)
    (cLpu : PySem.W.codeIn K cdLpu "_law_put" = true)
    (kLpu : PySem.W.keepIn K (.ref fLpu) = true)
    (aLrd : PySem.W.nsIn K mainGlobals "_law_read" = some (some (.ref fLrd)))
    (lLrd : K.lookup fLrd = some ⟨ocLrd, odLrd, .func (PySem.W.fnOf "_law_read" "_law_read" (defArgs sLRd) (defBody sLRd) (defScope sLRd) .none kVLrd dcLrd pmLrd anLrd cdLrd ctLrd), slLrd⟩)
    (cLrd : PySem.W.codeIn K cdLrd "_law_read" = true)
    (kLrd : PySem.W.keepIn K (.ref fLrd) = true)
    (aLdu : PySem.W.nsIn K mainGlobals "_law_due" = some (some (.ref fLdu)))
    (lLdu : K.lookup fLdu = some ⟨ocLdu, odLdu, .func (PySem.W.fnOf "_law_due" "_law_due" (defArgs sLDu) (defBody sLDu) (defScope sLDu) .none kVLdu dcLdu pmLdu anLdu cdLdu ctLdu), slLdu⟩)
    (cLdu : PySem.W.codeIn K cdLdu "_law_due" = true)
    (kLdu : PySem.W.keepIn K (.ref fLdu) = true)
    (aLpd : PySem.W.nsIn K mainGlobals "_law_put_due" = some (some (.ref fLpd)))
    (lLpd : K.lookup fLpd = some ⟨ocLpd, odLpd, .func (PySem.W.fnOf "_law_put_due" "_law_put_due" (defArgs sLPd) (defBody sLPd) (defScope sLPd) .none kVLpd dcLpd pmLpd anLpd cdLpd ctLpd), slLpd⟩)
    (cLpd : PySem.W.codeIn K cdLpd "_law_put_due" = true)
    (kLpd : PySem.W.keepIn K (.ref fLpd) = true)
    (aLmv : PySem.W.nsIn K mainGlobals "_law_moved" = some (some (.ref fLmv)))
    (lLmv : K.lookup fLmv = some ⟨ocLmv, odLmv, .func (PySem.W.fnOf "_law_moved" "_law_moved" (defArgs sLMv) (defBody sLMv) (defScope sLMv) .none kVLmv dcLmv pmLmv anLmv cdLmv ctLmv), slLmv⟩)
    (cLmv : PySem.W.codeIn K cdLmv "_law_moved" = true)
    (kLmv : PySem.W.keepIn K (.ref fLmv) = true)
    (aLfr : PySem.W.nsIn K mainGlobals "_law_from" = some (some (.ref fLfr)))
    (lLfr : K.lookup fLfr = some ⟨ocLfr, odLfr, .func (PySem.W.fnOf "_law_from" "_law_from" (defArgs sLFr) (defBody sLFr) (defScope sLFr) .none kVLfr dcLfr pmLfr anLfr cdLfr ctLfr), slLfr⟩)
    (cLfr : PySem.W.codeIn K cdLfr "_law_from" = true)
    (kLfr : PySem.W.keepIn K (.ref fLfr) = true)
    (aZ : PySem.W.nsIn K mainGlobals "law" = some (some (.ref fZ)))
    (lZ : K.lookup fZ = some ⟨ocZ, odZ, .func (PySem.W.fnOf "law" "law" (defArgs sLaw) (defBody sLaw) (defScope sLaw) .none kVZ dcZ pmZ anZ cdZ ctZ), slZ⟩)
    (cZ : PySem.W.codeIn K cdZ "law" = true)
    (kZ : PySem.W.keepIn K (.ref fZ) = true) :
    ∃ fd : FuncData, (∀ (s : Shared) (v : Value), BindsTo s fd ⟨[v], []⟩ [("script", v)]) ∧ ∀ base : Heap, K.In base → base.Ns mainGlobals mg → FnG l.prog w K mg base CX0 14 fa fd ["script"] (spLaw K) := by
  have e := hfa.symm.trans (PySem.W.mg_of X G aZ)
  cases e
  have FW := fun_mk (st := sWhole) lW cW kW
  have bW := FW.binds (ps := ["value"]) fun _ _ _ _ _ _ us hl => match us, hl with | [_], _ => rfl
  have FI := fun_mk (st := sInit) lI cI kI
  have bI := FI.binds (ps := ["self", "x", "y"]) fun _ _ _ _ _ _ us hl => match us, hl with | [_, _, _], _ => rfl
  have FP := fun_mk (st := sIsPoint) lP cP kP
  have bP := FP.binds (ps := ["thing"]) fun _ _ _ _ _ _ us hl => match us, hl with | [_], _ => rfl
  have FA := fun_mk (st := sAsPoint) lA cA kA
  have bA := FA.binds (ps := ["thing"]) fun _ _ _ _ _ _ us hl => match us, hl with | [_], _ => rfl
  have FO := fun_mk (st := sOperand) lO cO kO
  have bO := FO.binds (ps := ["thing"]) fun _ _ _ _ _ _ us hl => match us, hl with | [_], _ => rfl
  have T : Txt K mg C := ⟨⟨pgC, hdC, poC, saC⟩, no_C_x, no_C_y, (PySem.W.mg_of X G aC), (PySem.W.mg_none_of X G z_isinstance), (PySem.W.mg_none_of X G z_len), (PySem.W.mg_none_of X G z_int), (PySem.W.mg_none_of X G z_bool), (PySem.W.mg_none_of X G z_tuple), haC, hn, htk, hmC, kTC, kkC⟩
  have Df : Defs K mg C fW fI fP fA fO _ _ _ _ _ := ⟨T, FW, bW, (PySem.W.mg_of X G aW), ⟨mkC, aI, iI, kcC⟩, FI, bI, FP, bP, (PySem.W.mg_of X G aP), FA, bA, (PySem.W.mg_of X G aA), FO, bO, (PySem.W.mg_of X G aO)⟩
  let pB : PtB K mg := ⟨C, fW, fI, fP, fA, fO, _, _, _, _, _, Df⟩
  have FS := fun_mk (st := sSide) lS cS kS
  have bS := FS.binds (ps := ["a", "b", "point"]) fun _ _ _ _ _ _ us hl => match us, hl with | [_, _, _], _ => rfl
  have FTI := fun_mk (st := sTInit) lTI cTI kTI
  have bTI := FTI.binds (ps := ["self", "a", "b", "c"]) fun _ _ _ _ _ _ us hl => match us, hl with | [_, _, _, _], _ => rfl
  have FCo := fun_mk (st := sCorners) lCo cCo kCo
  have bCo := FCo.binds (ps := ["self"]) fun _ _ _ _ _ _ us hl => match us, hl with | [_], _ => rfl
  have FEd := fun_mk (st := sEdges) lEd cEd kEd
  have bEd := FEd.binds (ps := ["self"]) fun _ _ _ _ _ _ us hl => match us, hl with | [_], _ => rfl
  have FAr := fun_mk (st := sArea) lAr cAr kAr
  have bAr := FAr.binds (ps := ["self"]) fun _ _ _ _ _ _ us hl => match us, hl with | [_], _ => rfl
  have FEq := fun_mk (st := sEq) lEq cEq kEq
  have bEq := FEq.binds (ps := ["self", "other"]) fun _ _ _ _ _ _ us hl => match us, hl with | [_, _], _ => rfl
  have FAd := fun_mk (st := sAdd) lAd cAd kAd
  have bAd := FAd.binds (ps := ["self", "other"]) fun _ _ _ _ _ _ us hl => match us, hl with | [_, _], _ => rfl
  have TT : TxtT K mg CT := ⟨⟨pgCT, hdCT, poCT, saCT⟩, no_CT_tips, (PySem.W.mg_of X G aCT), (PySem.W.mg_none_of X G z_list), (PySem.W.mg_none_of X G z_all), haCT, hmCT, kLT, kkCT⟩
  have Td : TDefs K mg C CT fS fTI fCo fEd fAr fEq fAd pAr _ _ _ _ _ _ _ := ⟨TT, FS, bS, (PySem.W.mg_of X G aS), ⟨mkCT, aTI, iTI, kcCT⟩, FTI, bTI, FCo, bCo, ⟨aCo, iCo, kCo⟩, FEd, bEd, ⟨aEd, iEd, kEd⟩, FAr, bAr, ⟨apAr, gpAr, tpAr, ⟨_, rpAr⟩⟩, FEq, bEq, aEq, iEq, FAd, bAd, ⟨sfC, aAd, iAd⟩⟩
  let tB : TrB K mg C := ⟨CT, fS, fTI, fCo, fEd, fAr, fEq, fAd, pAr, _, _, _, _, _, _, _, Td⟩
  have FCu := fun_mk (st := sCut) lCu cCu kCu
  have bCu := FCu.binds (ps := ["triangle", "other"]) fun _ _ _ _ _ _ us hl => match us, hl with | [_, _], _ => rfl
  have FAp := fun_mk (st := sApart) lAp cAp kAp
  have bAp := FAp.binds (ps := ["one", "other"]) fun _ _ _ _ _ _ us hl => match us, hl with | [_, _], _ => rfl
  have FMI := fun_mk (st := sMInit) lMI cMI kMI
  have bMI := FMI.binds (ps := ["self", "triangles"]) fun _ _ _ _ _ _ us hl => match us, hl with | [_, _], _ => rfl
  have FMT := fun_mk (st := sMTris) lMT cMT kMT
  have bMT := FMT.binds (ps := ["self"]) fun _ _ _ _ _ _ us hl => match us, hl with | [_], _ => rfl
  have Md : MDefs K mg CM fCu fAp fMI fMT _ _ _ _ := ⟨⟨pgCM, hdCM, poCM, saCM⟩, no_CM_pieces, (PySem.W.mg_of X G aCM), ⟨_, (PySem.W.mg_of X G aMO)⟩, (PySem.W.mg_none_of X G z_range), (PySem.W.mg_none_of X G z_any), (PySem.W.mg_none_of X G z_enumerate), (PySem.W.mg_none_of X G z_list), FCu, bCu, (PySem.W.mg_of X G aCu), FAp, bAp, (PySem.W.mg_of X G aAp), ⟨mkCM, aMI, iMI, kcCM⟩, FMI, bMI, FMT, bMT, ⟨aMT, iMT, kMT⟩⟩
  let mB : MsB K mg := ⟨CM, fCu, fAp, fMI, fMT, _, _, _, _, Md⟩
  have FIx := fun_mk (st := sIsIx) lIx cIx kIx
  have bIx := FIx.binds (ps := ["value", "many"]) fun _ _ _ _ _ _ us hl => match us, hl with | [_, _], _ => rfl
  have FML := fun_mk (st := sMLen) lML cML kML
  have bML := FML.binds (ps := ["self"]) fun _ _ _ _ _ _ us hl => match us, hl with | [_], _ => rfl
  have FMG := fun_mk (st := sMGet) lMG cMG kMG
  have bMG := FMG.binds (ps := ["self", "at"]) fun _ _ _ _ _ _ us hl => match us, hl with | [_, _], _ => rfl
  have FMW := fun_mk (st := sMSet) lMW cMW kMW
  have bMW := FMW.binds (ps := ["self", "at", "worth"]) fun _ _ _ _ _ _ us hl => match us, hl with | [_, _, _], _ => rfl
  have FMQ := fun_mk (st := sMEq) lMQ cMQ kMQ
  have bMQ := FMQ.binds (ps := ["self", "other"]) fun _ _ _ _ _ _ us hl => match us, hl with | [_, _], _ => rfl
  have FTQ := fun_mk (st := sTEq) lTQ cTQ kTQ
  have bTQ := FTQ.binds (ps := ["self", "other"]) fun _ _ _ _ _ _ us hl => match us, hl with | [_, _], _ => rfl
  let m9 : M9 K mg CT CM := ⟨⟨fIx, _, FIx, bIx, (PySem.W.mg_of X G aIx)⟩, ⟨fML, _, FML, bML, ⟨aML, iML, kML⟩⟩, ⟨fMG, _, FMG, bMG, ⟨aMG, iMG, kMG⟩⟩, ⟨aMG, fiMG, iMG⟩, ⟨fMW, _, FMW, bMW, ⟨aMW, iMW, kMW⟩⟩, ⟨nsM, aMW, iMW⟩, ⟨fMQ, _, FMQ, bMQ, ⟨aMQ, iMQ, kMQ⟩⟩, ⟨aMQ, iMQ, neM, hmCM, ntM⟩, nlM, kkCM, kLM, haCM, hmCM, ⟨fTQ, _, FTQ, bTQ, ⟨aTQ, iTQ, kTQ⟩⟩, ⟨aTQ, iTQ, neT, hmCT, ntT⟩, kNT⟩
  have xtEm : FoX_number.XTxt l.prog K mg CEm gEm := ⟨⟨_, _, _, _, _, _, _, _, _, _, _, _, _, _, _, lCEm, rvEm⟩, saEm, gaEm, ggEm, noEm, inEm, tyEm, kpEm, exEm, tcEm, hdEm, suEm, tpI, (PySem.W.mg_none_of X G z_super), veEm, mrEm, tsI, ⟨quEm, msEm, _, _, _, _, _, _, ccEm, cdaEm, _, _, p1Em, p2Em, r1Em, r2Em, r3Em, r4Em, r5Em, r6Em, q1Em, q2Em, q3Em, q4Em, jEm, _, _, _, _, vsEm, _, _, fiEm, tfEm, lgEm, cgEm, lcEm, vfEm, flEm, lnEm, leEm⟩⟩
  have xtEo : FoX_ov.XTxt l.prog K mg CEo gEo := ⟨⟨_, _, _, _, _, _, _, _, _, _, _, _, _, _, _, lCEo, rvEo⟩, saEo, gaEo, ggEo, noPEo, noEo, inEo, tyEo, kpEo, exEo, tcEo, hdEo, suEo, tpI, (PySem.W.mg_none_of X G z_super), veEo, mrEo, tsI, ⟨quEo, msEo, _, _, _, _, _, _, ccEo, cdaEo, _, _, p1Eo, p2Eo, p3Eo, r1Eo, r2Eo, r3Eo, r4Eo, r5Eo, r6Eo, q1Eo, q2Eo, q3Eo, q4Eo, q5Eo, q6Eo, q7Eo, q8Eo, jEo, _, _, _, _, vsEo, _, _, fiEo, tfEo, lgEo, cgEo, lcEo, vfEo, flEo, lnEo, leEo⟩⟩
  have xtEn : FoX_number.XTxt l.prog K mg CEn gEn := ⟨⟨_, _, _, _, _, _, _, _, _, _, _, _, _, _, _, lCEn, rvEn⟩, saEn, gaEn, ggEn, noEn, inEn, tyEn, kpEn, exEn, tcEn, hdEn, suEn, tpI, (PySem.W.mg_none_of X G z_super), veEn, mrEn, tsI, ⟨quEn, msEn, _, _, _, _, _, _, ccEn, cdaEn, _, _, p1En, p2En, r1En, r2En, r3En, r4En, r5En, r6En, q1En, q2En, q3En, q4En, jEn, _, _, _, _, vsEn, _, _, fiEn, tfEn, lgEn, cgEn, lcEn, vfEn, flEn, lnEn, leEn⟩⟩
  have R9x : R9 l.prog K mg CEm gEm CEo gEo CEn gEn CF := ⟨⟨xtEm, PySem.W.mg_of X G aCEm, xtEo, PySem.W.mg_of X G aCEo, xtEn, PySem.W.mg_of X G aCEn⟩, PySem.W.mg_of X G aCF, emEm, emEo, emEn, ⟨gaEm, ggEm, exEm, hdEm, caEm, hn, htk, moEm⟩, ⟨gaEo, ggEo, exEo, hdEo, caEo, hn, htk, moEo⟩, ⟨gaEn, ggEn, exEn, hdEn, caEn, hn, htk, moEn⟩, ksEo, kkEmEo, ksEm, kkEnEo, kkEnEm, ksEn, (PySem.W.mg_none_of X G z_repr)⟩
  have TLm : TxtL mg := ⟨(PySem.W.mg_none_of X G z_int), (PySem.W.mg_none_of X G z_range), (PySem.W.mg_none_of X G z_max), (PySem.W.mg_none_of X G z_min), (PySem.W.mg_none_of X G z_len)⟩
  have FHd := fun_mk (st := sHand) lHd cHd kHd
  have bHd := FHd.binds (ps := ["script", "k"]) fun _ _ _ _ _ _ us hl => match us, hl with | [_, _], _ => rfl
  have FD := fun_mk (st := sDraw) lD cD kD
  have bD := FD.binds (ps := ["pool", "many"]) fun _ _ _ _ _ _ us hl => match us, hl with | [_, _], _ => rfl
  have FPr := fun_mk (st := sPair) lPr cPr kPr
  have bPr := FPr.binds (ps := ["pool", "size_here"]) fun _ _ _ _ _ _ us hl => match us, hl with | [_, _], _ => rfl
  have FLs := fun_mk (st := sLSide) lLs cLs kLs
  have bLs := FLs.binds (ps := ["a", "b", "p"]) fun _ _ _ _ _ _ us hl => match us, hl with | [_, _, _], _ => rfl
  have FWy := fun_mk (st := sWays) lWy cWy kWy
  have bWy := FWy.binds (ps := ["corners_here"]) fun _ _ _ _ _ _ us hl => match us, hl with | [_], _ => rfl
  have FCp := fun_mk (st := sCP) lCp cCp kCp
  have bCp := FCp.binds (ps := ["pool", "wide", "high"]) fun _ _ _ _ _ _ us hl => match us, hl with | [_, _, _], _ => rfl
  have FSpl := fun_mk (st := sSplit) lSpl cSpl kSpl
  have bSpl := FSpl.binds (ps := ["pool", "three"]) fun _ _ _ _ _ _ us hl => match us, hl with | [_, _], _ => rfl
  have FLm := fun_mk (st := sLMesh) lLm cLm kLm
  have bLm := FLm.binds (ps := ["pool"]) fun _ _ _ _ _ _ us hl => match us, hl with | [_], _ => rfl
  have FLd := fun_mk (st := sLaid) lLd cLd kLd
  have bLd := FLd.binds (ps := ["threes"]) fun _ _ _ _ _ _ us hl => match us, hl with | [_], _ => rfl
  have FLpt := fun_mk (st := sLPt) lLpt cLpt kLpt
  have bLpt := FLpt.binds (ps := ["one", "other"]) fun _ _ _ _ _ _ us hl => match us, hl with | [_, _], _ => rfl
  have FLer := fun_mk (st := sLEr) lLer cLer kLer
  have bLer := FLer.binds (ps := ["e"]) fun _ _ _ _ _ _ us hl => match us, hl with | [_], _ => rfl
  have FLas := fun_mk (st := sLAs) lLas cLas kLas
  have bLas := FLas.binds (ps := ["thing"]) fun _ _ _ _ _ _ us hl => match us, hl with | [_], _ => rfl
  have FLpu := fun_mk (st := sLPu) lLpu cLpu kLpu
  have bLpu := FLpu.binds (ps := ["mesh", "number", "triangle"]) fun _ _ _ _ _ _ us hl => match us, hl with | [_, _, _], _ => rfl
  have FLrd := fun_mk (st := sLRd) lLrd cLrd kLrd
  have bLrd := FLrd.binds (ps := ["mesh", "number"]) fun _ _ _ _ _ _ us hl => match us, hl with | [_, _], _ => rfl
  have FLdu := fun_mk (st := sLDu) lLdu cLdu kLdu
  have bLdu := FLdu.binds (ps := ["threes"]) fun _ _ _ _ _ _ us hl => match us, hl with | [_], _ => rfl
  have FLpd := fun_mk (st := sLPd) lLpd cLpd kLpd
  have bLpd := FLpd.binds (ps := ["threes", "number", "three"]) fun _ _ _ _ _ _ us hl => match us, hl with | [_, _, _], _ => rfl
  have FLmv := fun_mk (st := sLMv) lLmv cLmv kLmv
  have bLmv := FLmv.binds (ps := ["pool", "three"]) fun _ _ _ _ _ _ us hl => match us, hl with | [_, _], _ => rfl
  have FLfr := fun_mk (st := sLFr) lLfr cLfr kLfr
  have bLfr := FLfr.binds (ps := ["triangles"]) fun _ _ _ _ _ _ us hl => match us, hl with | [_], _ => rfl
  have FZ := fun_mk (st := sLaw) lZ cZ kZ
  exact ⟨PySem.W.fnOf "law" "law" (defArgs sLaw) (defBody sLaw) (defScope sLaw) .none kVZ dcZ pmZ anZ cdZ ctZ, fun s v => .of_eq rfl, fun base _ _ => ok_law FZ pB tB mB m9 ⟨TLm, ⟨fHd, _, FHd, bHd, (PySem.W.mg_of X G aHd)⟩, ⟨fD, _, FD, bD, (PySem.W.mg_of X G aD)⟩, ⟨fPr, _, FPr, bPr, (PySem.W.mg_of X G aPr)⟩, ⟨fLs, _, FLs, bLs, (PySem.W.mg_of X G aLs)⟩, ⟨fWy, _, FWy, bWy, (PySem.W.mg_of X G aWy)⟩, ⟨fCp, _, FCp, bCp, (PySem.W.mg_of X G aCp)⟩, ⟨fSpl, _, FSpl, bSpl, (PySem.W.mg_of X G aSpl)⟩, ⟨fLm, _, FLm, bLm, (PySem.W.mg_of X G aLm)⟩, ⟨fLd, _, FLd, bLd, (PySem.W.mg_of X G aLd)⟩, ⟨fLpt, _, FLpt, bLpt, (PySem.W.mg_of X G aLpt)⟩, ⟨fLer, _, FLer, bLer, (PySem.W.mg_of X G aLer)⟩, ⟨fLas, _, FLas, bLas, (PySem.W.mg_of X G aLas)⟩, ⟨fLpu, _, FLpu, bLpu, (PySem.W.mg_of X G aLpu)⟩, ⟨fLrd, _, FLrd, bLrd, (PySem.W.mg_of X G aLrd)⟩, ⟨fLdu, _, FLdu, bLdu, (PySem.W.mg_of X G aLdu)⟩, ⟨fLpd, _, FLpd, bLpd, (PySem.W.mg_of X G aLpd)⟩, ⟨fLmv, _, FLmv, bLmv, (PySem.W.mg_of X G aLmv)⟩, ⟨fLfr, _, FLfr, bLfr, (PySem.W.mg_of X G aLfr)⟩⟩ R9x⟩
end Fo
set_option Elab.async false
set_option linter.all false
set_option maxRecDepth 100000
set_option maxHeartbeats 0
namespace Fo
open PySem L2
theorem x_tsI : (PySem.Challenge.pw_filledonce_k29_meshes_made.main.scope.names.lookup ("super" : Str)).isSome = false := by first | rfl | decide +kernel | kernel_rfl
theorem facts {w : World} {K : PySem.W.Frag} {h : Heap} {mg : Str → Option Value} {fa : Addr} (X : K.In h) (G : h.Ns mainGlobals mg) (hfa : mg "law" = some (.ref fa)) (c : FoHd.SaysF fs_ fn_ K) :
    ∃ fd : FuncData, (∀ (s : Shared) (v : Value), BindsTo s fd ⟨[v], []⟩ [("script", v)]) ∧ ∀ base : Heap, K.In base → base.Ns mainGlobals mg → FnG (PySem.Challenge.rw_filledonce_k29_meshes_made).prog w K mg base CX0 14 fa fd ["script"] (spLaw K) := by
  have aC : PySem.W.nsIn K mainGlobals "Point" = some (some (.ref 243)) := of_decide_eq_true (c.fact 0 (f := q_aC) rfl)
  have pgC : PySem.W.plainGet K 243 Str.empty = true := of_decide_eq_true (c.fact 1 (f := q_pgC) rfl)
  have hdC : PySem.W.hasDictIn K 243 = true := of_decide_eq_true (c.fact 2 (f := q_hdC) rfl)
  have poC : PySem.W.plainOver K 243 = true := of_decide_eq_true (c.fact 3 (f := q_poC) rfl)
  have saC : PySem.W.findIn K (.ref 243) "__setattr__" = some (some (.builtin "object.__setattr__")) := of_decide_eq_true (c.fact 4 (f := q_saC) rfl)
  have mkC : PySem.W.makesIn K 243 = true := of_decide_eq_true (c.fact 5 (f := q_mkC) rfl)
  have kcC : PySem.W.keepIn K (.ref 243) = true := of_decide_eq_true (c.fact 6 (f := q_kcC) rfl)
  have haC : PySem.W.findIn K (.ref 243) "__class__" = some (some (.builtin "object.__class__")) := of_decide_eq_true (c.fact 7 (f := q_haC) rfl)
  have hmC : PySem.W.mroIn K 243 (.type "object") = some true := of_decide_eq_true (c.fact 8 (f := q_hmC) rfl)
  have kkC : PySem.W.kitOne K (.ref 243) (.ref 243) = some true := of_decide_eq_true (c.fact 9 (f := q_kkC) rfl)
  have sfC : PySem.W.selfFirst K 243 = true := of_decide_eq_true (c.fact 10 (f := q_sfC) rfl)
  have no_C_x : PySem.W.findIn K (.ref 243) "x" = some none := of_decide_eq_true (c.fact 11 (f := q_no_C_x) rfl)
  have no_C_y : PySem.W.findIn K (.ref 243) "y" = some none := of_decide_eq_true (c.fact 12 (f := q_no_C_y) rfl)
  have hn : PySem.W.specialIn K (.builtin "object.__class__") "__get__" = some (some (.builtin "getset_descriptor.__get__")) := of_decide_eq_true (c.fact 13 (f := q_hn) rfl)
  have htk : PySem.W.takesIn K (.builtin "object.__class__") = some true := of_decide_eq_true (c.fact 14 (f := q_htk) rfl)
  have kTC : PySem.W.kitOne K (.type "tuple") (.ref 243) = some false := of_decide_eq_true (c.fact 15 (f := q_kTC) rfl)
  have aW : PySem.W.nsIn K mainGlobals "is_whole" = some (some (.ref 146)) := of_decide_eq_true (c.fact 16 (f := q_aW) rfl)
  obtain ⟨ocW, odW, slW, kVW, dcW, pmW, anW, cdW, ctW, lW, cW, kW⟩ := c.raw 0 (d := d_W) rfl
  have aI : PySem.W.findIn K (.ref 243) "__init__" = some (some (.ref 167)) := of_decide_eq_true (c.fact 17 (f := q_aI) rfl)
  have iI : PySem.W.isFn K (.ref 167) = true := of_decide_eq_true (c.fact 18 (f := q_iI) rfl)
  obtain ⟨ocI, odI, slI, kVI, dcI, pmI, anI, cdI, ctI, lI, cI, kI⟩ := c.raw 1 (d := d_I) rfl
  have aP : PySem.W.nsIn K mainGlobals "is_point" = some (some (.ref 254)) := of_decide_eq_true (c.fact 19 (f := q_aP) rfl)
  obtain ⟨ocP, odP, slP, kVP, dcP, pmP, anP, cdP, ctP, lP, cP, kP⟩ := c.raw 2 (d := d_P) rfl
  have aA : PySem.W.nsIn K mainGlobals "as_point" = some (some (.ref 261)) := of_decide_eq_true (c.fact 20 (f := q_aA) rfl)
  obtain ⟨ocA, odA, slA, kVA, dcA, pmA, anA, cdA, ctA, lA, cA, kA⟩ := c.raw 3 (d := d_A) rfl
  have aO : PySem.W.nsIn K mainGlobals "operand" = some (some (.ref 268)) := of_decide_eq_true (c.fact 21 (f := q_aO) rfl)
  obtain ⟨ocO, odO, slO, kVO, dcO, pmO, anO, cdO, ctO, lO, cO, kO⟩ := c.raw 4 (d := d_O) rfl
  have z_isinstance : PySem.W.nsIn K mainGlobals "isinstance" = some none := of_decide_eq_true (c.fact 22 (f := q_z_isinstance) rfl)
  have z_len : PySem.W.nsIn K mainGlobals "len" = some none := of_decide_eq_true (c.fact 23 (f := q_z_len) rfl)
  have z_int : PySem.W.nsIn K mainGlobals "int" = some none := of_decide_eq_true (c.fact 24 (f := q_z_int) rfl)
  have z_bool : PySem.W.nsIn K mainGlobals "bool" = some none := of_decide_eq_true (c.fact 25 (f := q_z_bool) rfl)
  have z_tuple : PySem.W.nsIn K mainGlobals "tuple" = some none := of_decide_eq_true (c.fact 26 (f := q_z_tuple) rfl)
  have aCT : PySem.W.nsIn K mainGlobals "Triangle" = some (some (.ref 333)) := of_decide_eq_true (c.fact 27 (f := q_aCT) rfl)
  have pgCT : PySem.W.plainGet K 333 Str.empty = true := of_decide_eq_true (c.fact 28 (f := q_pgCT) rfl)
  have hdCT : PySem.W.hasDictIn K 333 = true := of_decide_eq_true (c.fact 29 (f := q_hdCT) rfl)
  have poCT : PySem.W.plainOver K 333 = true := of_decide_eq_true (c.fact 30 (f := q_poCT) rfl)
  have saCT : PySem.W.findIn K (.ref 333) "__setattr__" = some (some (.builtin "object.__setattr__")) := of_decide_eq_true (c.fact 31 (f := q_saCT) rfl)
  have mkCT : PySem.W.makesIn K 333 = true := of_decide_eq_true (c.fact 32 (f := q_mkCT) rfl)
  have kcCT : PySem.W.keepIn K (.ref 333) = true := of_decide_eq_true (c.fact 33 (f := q_kcCT) rfl)
  have haCT : PySem.W.findIn K (.ref 333) "__class__" = some (some (.builtin "object.__class__")) := of_decide_eq_true (c.fact 34 (f := q_haCT) rfl)
  have hmCT : PySem.W.mroIn K 333 (.type "object") = some true := of_decide_eq_true (c.fact 35 (f := q_hmCT) rfl)
  have kkCT : PySem.W.kitOne K (.ref 333) (.ref 333) = some true := of_decide_eq_true (c.fact 36 (f := q_kkCT) rfl)
  have sfCT : PySem.W.selfFirst K 333 = true := of_decide_eq_true (c.fact 37 (f := q_sfCT) rfl)
  have no_CT_tips : PySem.W.findIn K (.ref 333) "tips" = some none := of_decide_eq_true (c.fact 38 (f := q_no_CT_tips) rfl)
  have kLT : PySem.W.kitOne K (.type "list") (.ref 333) = some false := of_decide_eq_true (c.fact 39 (f := q_kLT) rfl)
  have aS : PySem.W.nsIn K mainGlobals "side" = some (some (.ref 275)) := of_decide_eq_true (c.fact 40 (f := q_aS) rfl)
  obtain ⟨ocS, odS, slS, kVS, dcS, pmS, anS, cdS, ctS, lS, cS, kS⟩ := c.raw 5 (d := d_S) rfl
  have aTI : PySem.W.findIn K (.ref 333) "__init__" = some (some (.ref 289)) := of_decide_eq_true (c.fact 41 (f := q_aTI) rfl)
  have iTI : PySem.W.isFn K (.ref 289) = true := of_decide_eq_true (c.fact 42 (f := q_iTI) rfl)
  obtain ⟨ocTI, odTI, slTI, kVTI, dcTI, pmTI, anTI, cdTI, ctTI, lTI, cTI, kTI⟩ := c.raw 6 (d := d_TI) rfl
  have aCo : PySem.W.findIn K (.ref 333) "corners" = some (some (.ref 296)) := of_decide_eq_true (c.fact 43 (f := q_aCo) rfl)
  have iCo : PySem.W.isFn K (.ref 296) = true := of_decide_eq_true (c.fact 44 (f := q_iCo) rfl)
  obtain ⟨ocCo, odCo, slCo, kVCo, dcCo, pmCo, anCo, cdCo, ctCo, lCo, cCo, kCo⟩ := c.raw 7 (d := d_Co) rfl
  have aEd : PySem.W.findIn K (.ref 333) "edges" = some (some (.ref 303)) := of_decide_eq_true (c.fact 45 (f := q_aEd) rfl)
  have iEd : PySem.W.isFn K (.ref 303) = true := of_decide_eq_true (c.fact 46 (f := q_iEd) rfl)
  obtain ⟨ocEd, odEd, slEd, kVEd, dcEd, pmEd, anEd, cdEd, ctEd, lEd, cEd, kEd⟩ := c.raw 8 (d := d_Ed) rfl
  have apAr : PySem.W.findIn K (.ref 333) "area2" = some (some (.ref 311)) := of_decide_eq_true (c.fact 47 (f := q_apAr) rfl)
  have gpAr : PySem.W.specialIn K (.ref 311) "__get__" = some (some (.builtin "property.__get__")) := of_decide_eq_true (c.fact 48 (f := q_gpAr) rfl)
  have tpAr : PySem.W.takesIn K (.ref 311) = some true := of_decide_eq_true (c.fact 49 (f := q_tpAr) rfl)
  obtain ⟨rspAr, rpAr⟩ := FoHd.recB_ok (c.fact 50 (f := q_rpAr) rfl)
  obtain ⟨ocAr, odAr, slAr, kVAr, dcAr, pmAr, anAr, cdAr, ctAr, lAr, cAr, kAr⟩ := c.raw 9 (d := d_Ar) rfl
  have aEq : PySem.W.findIn K (.ref 243) "__eq__" = some (some (.ref 184)) := of_decide_eq_true (c.fact 51 (f := q_aEq) rfl)
  have iEq : PySem.W.isFn K (.ref 184) = true := of_decide_eq_true (c.fact 52 (f := q_iEq) rfl)
  obtain ⟨ocEq, odEq, slEq, kVEq, dcEq, pmEq, anEq, cdEq, ctEq, lEq, cEq, kEq⟩ := c.raw 10 (d := d_Eq) rfl
  have aAd : PySem.W.findIn K (.ref 243) "__add__" = some (some (.ref 191)) := of_decide_eq_true (c.fact 53 (f := q_aAd) rfl)
  have iAd : PySem.W.isFn K (.ref 191) = true := of_decide_eq_true (c.fact 54 (f := q_iAd) rfl)
  obtain ⟨ocAd, odAd, slAd, kVAd, dcAd, pmAd, anAd, cdAd, ctAd, lAd, cAd, kAd⟩ := c.raw 11 (d := d_Ad) rfl
  have z_list : PySem.W.nsIn K mainGlobals "list" = some none := of_decide_eq_true (c.fact 55 (f := q_z_list) rfl)
  have z_all : PySem.W.nsIn K mainGlobals "all" = some none := of_decide_eq_true (c.fact 56 (f := q_z_all) rfl)
  have aCM : PySem.W.nsIn K mainGlobals "Mesh" = some (some (.ref 408)) := of_decide_eq_true (c.fact 57 (f := q_aCM) rfl)
  have pgCM : PySem.W.plainGet K 408 Str.empty = true := of_decide_eq_true (c.fact 58 (f := q_pgCM) rfl)
  have hdCM : PySem.W.hasDictIn K 408 = true := of_decide_eq_true (c.fact 59 (f := q_hdCM) rfl)
  have poCM : PySem.W.plainOver K 408 = true := of_decide_eq_true (c.fact 60 (f := q_poCM) rfl)
  have saCM : PySem.W.findIn K (.ref 408) "__setattr__" = some (some (.builtin "object.__setattr__")) := of_decide_eq_true (c.fact 61 (f := q_saCM) rfl)
  have mkCM : PySem.W.makesIn K 408 = true := of_decide_eq_true (c.fact 62 (f := q_mkCM) rfl)
  have kcCM : PySem.W.keepIn K (.ref 408) = true := of_decide_eq_true (c.fact 63 (f := q_kcCM) rfl)
  have haCM : PySem.W.findIn K (.ref 408) "__class__" = some (some (.builtin "object.__class__")) := of_decide_eq_true (c.fact 64 (f := q_haCM) rfl)
  have hmCM : PySem.W.mroIn K 408 (.type "object") = some true := of_decide_eq_true (c.fact 65 (f := q_hmCM) rfl)
  have kkCM : PySem.W.kitOne K (.ref 408) (.ref 408) = some true := of_decide_eq_true (c.fact 66 (f := q_kkCM) rfl)
  have sfCM : PySem.W.selfFirst K 408 = true := of_decide_eq_true (c.fact 67 (f := q_sfCM) rfl)
  have no_CM_pieces : PySem.W.findIn K (.ref 408) "pieces" = some none := of_decide_eq_true (c.fact 68 (f := q_no_CM_pieces) rfl)
  obtain ⟨tMO, aMO⟩ := FoHd.intB_ok (c.fact 69 (f := q_aMO) rfl)
  have aCu : PySem.W.nsIn K mainGlobals "is_cut_off" = some (some (.ref 349)) := of_decide_eq_true (c.fact 70 (f := q_aCu) rfl)
  obtain ⟨ocCu, odCu, slCu, kVCu, dcCu, pmCu, anCu, cdCu, ctCu, lCu, cCu, kCu⟩ := c.raw 12 (d := d_Cu) rfl
  have aAp : PySem.W.nsIn K mainGlobals "apart" = some (some (.ref 344)) := of_decide_eq_true (c.fact 71 (f := q_aAp) rfl)
  obtain ⟨ocAp, odAp, slAp, kVAp, dcAp, pmAp, anAp, cdAp, ctAp, lAp, cAp, kAp⟩ := c.raw 13 (d := d_Ap) rfl
  have aMI : PySem.W.findIn K (.ref 408) "__init__" = some (some (.ref 363)) := of_decide_eq_true (c.fact 72 (f := q_aMI) rfl)
  have iMI : PySem.W.isFn K (.ref 363) = true := of_decide_eq_true (c.fact 73 (f := q_iMI) rfl)
  obtain ⟨ocMI, odMI, slMI, kVMI, dcMI, pmMI, anMI, cdMI, ctMI, lMI, cMI, kMI⟩ := c.raw 14 (d := d_MI) rfl
  have aMT : PySem.W.findIn K (.ref 408) "triangles" = some (some (.ref 370)) := of_decide_eq_true (c.fact 74 (f := q_aMT) rfl)
  have iMT : PySem.W.isFn K (.ref 370) = true := of_decide_eq_true (c.fact 75 (f := q_iMT) rfl)
  obtain ⟨ocMT, odMT, slMT, kVMT, dcMT, pmMT, anMT, cdMT, ctMT, lMT, cMT, kMT⟩ := c.raw 15 (d := d_MT) rfl
  have z_range : PySem.W.nsIn K mainGlobals "range" = some none := of_decide_eq_true (c.fact 76 (f := q_z_range) rfl)
  have z_any : PySem.W.nsIn K mainGlobals "any" = some none := of_decide_eq_true (c.fact 77 (f := q_z_any) rfl)
  have z_enumerate : PySem.W.nsIn K mainGlobals "enumerate" = some none := of_decide_eq_true (c.fact 78 (f := q_z_enumerate) rfl)
  have fiMG : PySem.W.fnIn K 384 = true := of_decide_eq_true (c.fact 79 (f := q_fiMG) rfl)
  have nsM : PySem.W.noSeq K 408 = true := of_decide_eq_true (c.fact 80 (f := q_nsM) rfl)
  have neM : PySem.W.findIn K (.ref 408) "__ne__" = some (some (.builtin "object.__ne__")) := of_decide_eq_true (c.fact 81 (f := q_neM) rfl)
  have ntM : PySem.W.notFirst K 408 (.type "tuple") = true := of_decide_eq_true (c.fact 82 (f := q_ntM) rfl)
  have nlM : PySem.W.notFirst K 408 (.type "list") = true := of_decide_eq_true (c.fact 83 (f := q_nlM) rfl)
  have kLM : PySem.W.kitOne K (.type "list") (.ref 408) = some false := of_decide_eq_true (c.fact 84 (f := q_kLM) rfl)
  have kNT : PySem.W.kitOne K (.type "NoneType") (.ref 333) = some false := of_decide_eq_true (c.fact 85 (f := q_kNT) rfl)
  have neT : PySem.W.findIn K (.ref 333) "__ne__" = some (some (.builtin "object.__ne__")) := of_decide_eq_true (c.fact 86 (f := q_neT) rfl)
  have ntT : PySem.W.notFirst K 333 (.type "tuple") = true := of_decide_eq_true (c.fact 87 (f := q_ntT) rfl)
  have aIx : PySem.W.nsIn K mainGlobals "is_index" = some (some (.ref 153)) := of_decide_eq_true (c.fact 88 (f := q_aIx) rfl)
  obtain ⟨ocIx, odIx, slIx, kVIx, dcIx, pmIx, anIx, cdIx, ctIx, lIx, cIx, kIx⟩ := c.raw 16 (d := d_Ix) rfl
  have aML : PySem.W.findIn K (.ref 408) "__len__" = some (some (.ref 377)) := of_decide_eq_true (c.fact 89 (f := q_aML) rfl)
  have iML : PySem.W.isFn K (.ref 377) = true := of_decide_eq_true (c.fact 90 (f := q_iML) rfl)
  obtain ⟨ocML, odML, slML, kVML, dcML, pmML, anML, cdML, ctML, lML, cML, kML⟩ := c.raw 17 (d := d_ML) rfl
  have aMG : PySem.W.findIn K (.ref 408) "__getitem__" = some (some (.ref 384)) := of_decide_eq_true (c.fact 91 (f := q_aMG) rfl)
  have iMG : PySem.W.isFn K (.ref 384) = true := of_decide_eq_true (c.fact 92 (f := q_iMG) rfl)
  obtain ⟨ocMG, odMG, slMG, kVMG, dcMG, pmMG, anMG, cdMG, ctMG, lMG, cMG, kMG⟩ := c.raw 18 (d := d_MG) rfl
  have aMW : PySem.W.findIn K (.ref 408) "__setitem__" = some (some (.ref 391)) := of_decide_eq_true (c.fact 93 (f := q_aMW) rfl)
  have iMW : PySem.W.isFn K (.ref 391) = true := of_decide_eq_true (c.fact 94 (f := q_iMW) rfl)
  obtain ⟨ocMW, odMW, slMW, kVMW, dcMW, pmMW, anMW, cdMW, ctMW, lMW, cMW, kMW⟩ := c.raw 19 (d := d_MW) rfl
  have aMQ : PySem.W.findIn K (.ref 408) "__eq__" = some (some (.ref 405)) := of_decide_eq_true (c.fact 95 (f := q_aMQ) rfl)
  have iMQ : PySem.W.isFn K (.ref 405) = true := of_decide_eq_true (c.fact 96 (f := q_iMQ) rfl)
  obtain ⟨ocMQ, odMQ, slMQ, kVMQ, dcMQ, pmMQ, anMQ, cdMQ, ctMQ, lMQ, cMQ, kMQ⟩ := c.raw 20 (d := d_MQ) rfl
  have aTQ : PySem.W.findIn K (.ref 333) "__eq__" = some (some (.ref 330)) := of_decide_eq_true (c.fact 97 (f := q_aTQ) rfl)
  have iTQ : PySem.W.isFn K (.ref 330) = true := of_decide_eq_true (c.fact 98 (f := q_iTQ) rfl)
  obtain ⟨ocTQ, odTQ, slTQ, kVTQ, dcTQ, pmTQ, anTQ, cdTQ, ctTQ, lTQ, cTQ, kTQ⟩ := c.raw 21 (d := d_TQ) rfl
  have aCF : PySem.W.nsIn K mainGlobals "FillError" = some (some (.ref 31)) := of_decide_eq_true (c.fact 99 (f := q_aCF) rfl)
  have tpI : PySem.W.nsIn K cStatics "thirdparty.any" = some none := of_decide_eq_true (c.fact 100 (f := q_tpI) rfl)
  have tsI := x_tsI
  have aCEm : PySem.W.nsIn K mainGlobals "InvalidMesh" = some (some (.ref 116)) := of_decide_eq_true (c.fact 101 (f := q_aCEm) rfl)
  obtain ⟨nmEm, qnEm, NEm, bsEm, bmEm, snEm, subEm, abEm, colEm, ddEm, e0Em, e1Em, e2Em, e3Em, e5Em, lCEm, rvEm⟩ := FoHd.excB_ok (c.fact 102 (f := q_excEm) rfl)
  have saEm : PySem.W.findIn K (.ref 116) "__setattr__" = some (some (.builtin "object.__setattr__")) := of_decide_eq_true (c.fact 103 (f := q_saEm) rfl)
  have gaEm : PySem.W.findIn K (.ref 116) "__getattribute__" = some (some (.builtin "BaseException.__getattribute__")) := of_decide_eq_true (c.fact 104 (f := q_gaEm) rfl)
  have ggEm : PySem.W.findIn K (.ref 116) "__getattr__" = some none := of_decide_eq_true (c.fact 105 (f := q_ggEm) rfl)
  have noEm : PySem.W.findIn K (.ref 116) (Str.ofString "number") = some none := of_decide_eq_true (c.fact 106 (f := q_noEm) rfl)
  have inEm : PySem.W.findIn K (.ref 116) "__init__" = some (some (.ref 113)) := of_decide_eq_true (c.fact 107 (f := q_inEm) rfl)
  have tyEm : PySem.W.typeIn K (.ref 113) = some (.type "function") := of_decide_eq_true (c.fact 108 (f := q_tyEm) rfl)
  have kpEm : PySem.W.keepIn K (.ref 116) = true := of_decide_eq_true (c.fact 109 (f := q_kpEm) rfl)
  have exEm : PySem.W.subIn K (.ref 116) (.type "BaseException") = some true := of_decide_eq_true (c.fact 110 (f := q_exEm) rfl)
  have tcEm : PySem.W.typeIn K (.ref 116) = some (.type "type") := of_decide_eq_true (c.fact 111 (f := q_tcEm) rfl)
  have hdEm : PySem.W.hasDictIn K 116 = true := of_decide_eq_true (c.fact 112 (f := q_hdEm) rfl)
  have suEm : PySem.W.ks_superIn K 116 116 "__init__" = some (some (.builtin "ValueError.__init__")) := of_decide_eq_true (c.fact 113 (f := q_suEm) rfl)
  have veEm : PySem.W.subIn K (.ref 116) (.type "ValueError") = some true := of_decide_eq_true (c.fact 114 (f := q_veEm) rfl)
  have mrEm : PySem.W.mroIn K 116 (.ref 116) = some true := of_decide_eq_true (c.fact 115 (f := q_mrEm) rfl)
  obtain ⟨ocgEm, odgEm, slgEm, kVgEm, dcgEm, pmgEm, angEm, cdgEm, ctgEm, lgEm, cgEm, _⟩ := c.raw 22 (d := d_gEm) rfl
  obtain ⟨cdaEm, cclEm, cddEm, vsEm, ccsEm, fiEm, tfEm, ecdEm, lcEm, vfEm, flEm⟩ := FoHd.fileB_ok lgEm (c.fact 116 (f := q_fileEm) rfl)
  cases ecdEm
  obtain ⟨clEm, cldEm, cslEm, leEm⟩ := FoHd.cellB_ok (c.fact 117 (f := q_cellEm) rfl)
  have caEm : PySem.W.findIn K (.ref 116) "__class__" = some (some (.builtin "object.__class__")) := of_decide_eq_true (c.fact 118 (f := q_caEm) rfl)
  have moEm : PySem.W.mroIn K 116 (.type "object") = some true := of_decide_eq_true (c.fact 119 (f := q_moEm) rfl)
  have emEm : PySem.W.exmOne K (.ref 116) (.ref 31) = some true := of_decide_eq_true (c.fact 120 (f := q_emEm) rfl)
  have ksEm : PySem.W.kitOne K (.ref 116) (.ref 116) = some true := of_decide_eq_true (c.fact 121 (f := q_ksEm) rfl)
  have z_super : PySem.W.nsIn K mainGlobals "super" = some none := of_decide_eq_true (c.fact 122 (f := q_z_super) rfl)
  have aCEo : PySem.W.nsIn K mainGlobals "Overlap" = some (some (.ref 137)) := of_decide_eq_true (c.fact 123 (f := q_aCEo) rfl)
  obtain ⟨nmEo, qnEo, NEo, bsEo, bmEo, snEo, subEo, abEo, colEo, ddEo, e0Eo, e1Eo, e2Eo, e3Eo, e5Eo, lCEo, rvEo⟩ := FoHd.excB_ok (c.fact 124 (f := q_excEo) rfl)
  have saEo : PySem.W.findIn K (.ref 137) "__setattr__" = some (some (.builtin "object.__setattr__")) := of_decide_eq_true (c.fact 125 (f := q_saEo) rfl)
  have gaEo : PySem.W.findIn K (.ref 137) "__getattribute__" = some (some (.builtin "BaseException.__getattribute__")) := of_decide_eq_true (c.fact 126 (f := q_gaEo) rfl)
  have ggEo : PySem.W.findIn K (.ref 137) "__getattr__" = some none := of_decide_eq_true (c.fact 127 (f := q_ggEo) rfl)
  have noPEo : PySem.W.findIn K (.ref 137) (Str.ofString "number") = some none := of_decide_eq_true (c.fact 128 (f := q_noPEo) rfl)
  have noEo : PySem.W.findIn K (.ref 137) (Str.ofString "other") = some none := of_decide_eq_true (c.fact 129 (f := q_noEo) rfl)
  have inEo : PySem.W.findIn K (.ref 137) "__init__" = some (some (.ref 134)) := of_decide_eq_true (c.fact 130 (f := q_inEo) rfl)
  have tyEo : PySem.W.typeIn K (.ref 134) = some (.type "function") := of_decide_eq_true (c.fact 131 (f := q_tyEo) rfl)
  have kpEo : PySem.W.keepIn K (.ref 137) = true := of_decide_eq_true (c.fact 132 (f := q_kpEo) rfl)
  have exEo : PySem.W.subIn K (.ref 137) (.type "BaseException") = some true := of_decide_eq_true (c.fact 133 (f := q_exEo) rfl)
  have tcEo : PySem.W.typeIn K (.ref 137) = some (.type "type") := of_decide_eq_true (c.fact 134 (f := q_tcEo) rfl)
  have hdEo : PySem.W.hasDictIn K 137 = true := of_decide_eq_true (c.fact 135 (f := q_hdEo) rfl)
  have suEo : PySem.W.ks_superIn K 137 137 "__init__" = some (some (.builtin "ValueError.__init__")) := of_decide_eq_true (c.fact 136 (f := q_suEo) rfl)
  have veEo : PySem.W.subIn K (.ref 137) (.type "ValueError") = some true := of_decide_eq_true (c.fact 137 (f := q_veEo) rfl)
  have mrEo : PySem.W.mroIn K 137 (.ref 137) = some true := of_decide_eq_true (c.fact 138 (f := q_mrEo) rfl)
  obtain ⟨ocgEo, odgEo, slgEo, kVgEo, dcgEo, pmgEo, angEo, cdgEo, ctgEo, lgEo, cgEo, _⟩ := c.raw 23 (d := d_gEo) rfl
  obtain ⟨cdaEo, cclEo, cddEo, vsEo, ccsEo, fiEo, tfEo, ecdEo, lcEo, vfEo, flEo⟩ := FoHd.fileB_ok lgEo (c.fact 139 (f := q_fileEo) rfl)
  cases ecdEo
  obtain ⟨clEo, cldEo, cslEo, leEo⟩ := FoHd.cellB_ok (c.fact 140 (f := q_cellEo) rfl)
  have caEo : PySem.W.findIn K (.ref 137) "__class__" = some (some (.builtin "object.__class__")) := of_decide_eq_true (c.fact 141 (f := q_caEo) rfl)
  have moEo : PySem.W.mroIn K 137 (.type "object") = some true := of_decide_eq_true (c.fact 142 (f := q_moEo) rfl)
  have emEo : PySem.W.exmOne K (.ref 137) (.ref 31) = some true := of_decide_eq_true (c.fact 143 (f := q_emEo) rfl)
  have ksEo : PySem.W.kitOne K (.ref 137) (.ref 137) = some true := of_decide_eq_true (c.fact 144 (f := q_ksEo) rfl)
  have aCEn : PySem.W.nsIn K mainGlobals "InvalidNumber" = some (some (.ref 74)) := of_decide_eq_true (c.fact 145 (f := q_aCEn) rfl)
  obtain ⟨nmEn, qnEn, NEn, bsEn, bmEn, snEn, subEn, abEn, colEn, ddEn, e0En, e1En, e2En, e3En, e5En, lCEn, rvEn⟩ := FoHd.excB_ok (c.fact 146 (f := q_excEn) rfl)
  have saEn : PySem.W.findIn K (.ref 74) "__setattr__" = some (some (.builtin "object.__setattr__")) := of_decide_eq_true (c.fact 147 (f := q_saEn) rfl)
  have gaEn : PySem.W.findIn K (.ref 74) "__getattribute__" = some (some (.builtin "BaseException.__getattribute__")) := of_decide_eq_true (c.fact 148 (f := q_gaEn) rfl)
  have ggEn : PySem.W.findIn K (.ref 74) "__getattr__" = some none := of_decide_eq_true (c.fact 149 (f := q_ggEn) rfl)
  have noEn : PySem.W.findIn K (.ref 74) (Str.ofString "number") = some none := of_decide_eq_true (c.fact 150 (f := q_noEn) rfl)
  have inEn : PySem.W.findIn K (.ref 74) "__init__" = some (some (.ref 71)) := of_decide_eq_true (c.fact 151 (f := q_inEn) rfl)
  have tyEn : PySem.W.typeIn K (.ref 71) = some (.type "function") := of_decide_eq_true (c.fact 152 (f := q_tyEn) rfl)
  have kpEn : PySem.W.keepIn K (.ref 74) = true := of_decide_eq_true (c.fact 153 (f := q_kpEn) rfl)
  have exEn : PySem.W.subIn K (.ref 74) (.type "BaseException") = some true := of_decide_eq_true (c.fact 154 (f := q_exEn) rfl)
  have tcEn : PySem.W.typeIn K (.ref 74) = some (.type "type") := of_decide_eq_true (c.fact 155 (f := q_tcEn) rfl)
  have hdEn : PySem.W.hasDictIn K 74 = true := of_decide_eq_true (c.fact 156 (f := q_hdEn) rfl)
  have suEn : PySem.W.ks_superIn K 74 74 "__init__" = some (some (.builtin "ValueError.__init__")) := of_decide_eq_true (c.fact 157 (f := q_suEn) rfl)
  have veEn : PySem.W.subIn K (.ref 74) (.type "ValueError") = some true := of_decide_eq_true (c.fact 158 (f := q_veEn) rfl)
  have mrEn : PySem.W.mroIn K 74 (.ref 74) = some true := of_decide_eq_true (c.fact 159 (f := q_mrEn) rfl)
  obtain ⟨ocgEn, odgEn, slgEn, kVgEn, dcgEn, pmgEn, angEn, cdgEn, ctgEn, lgEn, cgEn, _⟩ := c.raw 24 (d := d_gEn) rfl
  obtain ⟨cdaEn, cclEn, cddEn, vsEn, ccsEn, fiEn, tfEn, ecdEn, lcEn, vfEn, flEn⟩ := FoHd.fileB_ok lgEn (c.fact 160 (f := q_fileEn) rfl)
  cases ecdEn
  obtain ⟨clEn, cldEn, cslEn, leEn⟩ := FoHd.cellB_ok (c.fact 161 (f := q_cellEn) rfl)
  have caEn : PySem.W.findIn K (.ref 74) "__class__" = some (some (.builtin "object.__class__")) := of_decide_eq_true (c.fact 162 (f := q_caEn) rfl)
  have moEn : PySem.W.mroIn K 74 (.type "object") = some true := of_decide_eq_true (c.fact 163 (f := q_moEn) rfl)
  have emEn : PySem.W.exmOne K (.ref 74) (.ref 31) = some true := of_decide_eq_true (c.fact 164 (f := q_emEn) rfl)
  have ksEn : PySem.W.kitOne K (.ref 74) (.ref 74) = some true := of_decide_eq_true (c.fact 165 (f := q_ksEn) rfl)
  have kkEmEo : PySem.W.kitOne K (.ref 116) (.ref 137) = some false := of_decide_eq_true (c.fact 166 (f := q_kkEmEo) rfl)
  have kkEnEo : PySem.W.kitOne K (.ref 74) (.ref 137) = some false := of_decide_eq_true (c.fact 167 (f := q_kkEnEo) rfl)
  have kkEnEm : PySem.W.kitOne K (.ref 74) (.ref 116) = some false := of_decide_eq_true (c.fact 168 (f := q_kkEnEm) rfl)
  have z_repr : PySem.W.nsIn K mainGlobals "repr" = some none := of_decide_eq_true (c.fact 169 (f := q_z_repr) rfl)
  have z_max : PySem.W.nsIn K mainGlobals "max" = some none := of_decide_eq_true (c.fact 170 (f := q_z_max) rfl)
  have z_min : PySem.W.nsIn K mainGlobals "min" = some none := of_decide_eq_true (c.fact 171 (f := q_z_min) rfl)
  have aHd : PySem.W.nsIn K mainGlobals "_law_hand" = some (some (.ref 419)) := of_decide_eq_true (c.fact 172 (f := q_aHd) rfl)
  obtain ⟨ocHd, odHd, slHd, kVHd, dcHd, pmHd, anHd, cdHd, ctHd, lHd, cHd, kHd⟩ := c.raw 25 (d := d_Hd) rfl
  have aD : PySem.W.nsIn K mainGlobals "_law_draw" = some (some (.ref 426)) := of_decide_eq_true (c.fact 173 (f := q_aD) rfl)
  obtain ⟨ocD, odD, slD, kVD, dcD, pmD, anD, cdD, ctD, lD, cD, kD⟩ := c.raw 26 (d := d_D) rfl
  have aPr : PySem.W.nsIn K mainGlobals "_law_pair" = some (some (.ref 433)) := of_decide_eq_true (c.fact 174 (f := q_aPr) rfl)
  obtain ⟨ocPr, odPr, slPr, kVPr, dcPr, pmPr, anPr, cdPr, ctPr, lPr, cPr, kPr⟩ := c.raw 27 (d := d_Pr) rfl
  have aLs : PySem.W.nsIn K mainGlobals "_law_side" = some (some (.ref 440)) := of_decide_eq_true (c.fact 175 (f := q_aLs) rfl)
  obtain ⟨ocLs, odLs, slLs, kVLs, dcLs, pmLs, anLs, cdLs, ctLs, lLs, cLs, kLs⟩ := c.raw 28 (d := d_Ls) rfl
  have aWy : PySem.W.nsIn K mainGlobals "_law_ways" = some (some (.ref 452)) := of_decide_eq_true (c.fact 176 (f := q_aWy) rfl)
  obtain ⟨ocWy, odWy, slWy, kVWy, dcWy, pmWy, anWy, cdWy, ctWy, lWy, cWy, kWy⟩ := c.raw 29 (d := d_Wy) rfl
  have aCp : PySem.W.nsIn K mainGlobals "_law_corner_points" = some (some (.ref 457)) := of_decide_eq_true (c.fact 177 (f := q_aCp) rfl)
  obtain ⟨ocCp, odCp, slCp, kVCp, dcCp, pmCp, anCp, cdCp, ctCp, lCp, cCp, kCp⟩ := c.raw 30 (d := d_Cp) rfl
  have aSpl : PySem.W.nsIn K mainGlobals "_law_split" = some (some (.ref 464)) := of_decide_eq_true (c.fact 178 (f := q_aSpl) rfl)
  obtain ⟨ocSpl, odSpl, slSpl, kVSpl, dcSpl, pmSpl, anSpl, cdSpl, ctSpl, lSpl, cSpl, kSpl⟩ := c.raw 31 (d := d_Spl) rfl
  have aLm : PySem.W.nsIn K mainGlobals "_law_mesh" = some (some (.ref 469)) := of_decide_eq_true (c.fact 179 (f := q_aLm) rfl)
  obtain ⟨ocLm, odLm, slLm, kVLm, dcLm, pmLm, anLm, cdLm, ctLm, lLm, cLm, kLm⟩ := c.raw 32 (d := d_Lm) rfl
  have aLd : PySem.W.nsIn K mainGlobals "_law_laid" = some (some (.ref 474)) := of_decide_eq_true (c.fact 180 (f := q_aLd) rfl)
  obtain ⟨ocLd, odLd, slLd, kVLd, dcLd, pmLd, anLd, cdLd, ctLd, lLd, cLd, kLd⟩ := c.raw 33 (d := d_Ld) rfl
  have aLpt : PySem.W.nsIn K mainGlobals "_law_parted" = some (some (.ref 479)) := of_decide_eq_true (c.fact 181 (f := q_aLpt) rfl)
  obtain ⟨ocLpt, odLpt, slLpt, kVLpt, dcLpt, pmLpt, anLpt, cdLpt, ctLpt, lLpt, cLpt, kLpt⟩ := c.raw 34 (d := d_Lpt) rfl
  have aLer : PySem.W.nsIn K mainGlobals "_law_error" = some (some (.ref 486)) := of_decide_eq_true (c.fact 182 (f := q_aLer) rfl)
  obtain ⟨ocLer, odLer, slLer, kVLer, dcLer, pmLer, anLer, cdLer, ctLer, lLer, cLer, kLer⟩ := c.raw 35 (d := d_Ler) rfl
  have aLas : PySem.W.nsIn K mainGlobals "_law_asked" = some (some (.ref 493)) := of_decide_eq_true (c.fact 183 (f := q_aLas) rfl)
  obtain ⟨ocLas, odLas, slLas, kVLas, dcLas, pmLas, anLas, cdLas, ctLas, lLas, cLas, kLas⟩ := c.raw 36 (d := d_Las) rfl
  have aLpu : PySem.W.nsIn K mainGlobals "_law_put" = some (some (.ref 500)) := of_decide_eq_true (c.fact 184 (f := q_aLpu) rfl)
  obtain ⟨ocLpu, odLpu, slLpu, kVLpu, dcLpu, pmLpu, anLpu, cdLpu, ctLpu, lLpu, cLpu, kLpu⟩ := c.raw 37 (d := d_Lpu) rfl
  have aLrd : PySem.W.nsIn K mainGlobals "_law_read" = some (some (.ref 524)) := of_decide_eq_true (c.fact 185 (f := q_aLrd) rfl)
  obtain ⟨ocLrd, odLrd, slLrd, kVLrd, dcLrd, pmLrd, anLrd, cdLrd, ctLrd, lLrd, cLrd, kLrd⟩ := c.raw 38 (d := d_Lrd) rfl
  have aLdu : PySem.W.nsIn K mainGlobals "_law_due" = some (some (.ref 507)) := of_decide_eq_true (c.fact 186 (f := q_aLdu) rfl)
  obtain ⟨ocLdu, odLdu, slLdu, kVLdu, dcLdu, pmLdu, anLdu, cdLdu, ctLdu, lLdu, cLdu, kLdu⟩ := c.raw 39 (d := d_Ldu) rfl
  have aLpd : PySem.W.nsIn K mainGlobals "_law_put_due" = some (some (.ref 512)) := of_decide_eq_true (c.fact 187 (f := q_aLpd) rfl)
  obtain ⟨ocLpd, odLpd, slLpd, kVLpd, dcLpd, pmLpd, anLpd, cdLpd, ctLpd, lLpd, cLpd, kLpd⟩ := c.raw 40 (d := d_Lpd) rfl
  have aLmv : PySem.W.nsIn K mainGlobals "_law_moved" = some (some (.ref 517)) := of_decide_eq_true (c.fact 188 (f := q_aLmv) rfl)
  obtain ⟨ocLmv, odLmv, slLmv, kVLmv, dcLmv, pmLmv, anLmv, cdLmv, ctLmv, lLmv, cLmv, kLmv⟩ := c.raw 41 (d := d_Lmv) rfl
  have aLfr : PySem.W.nsIn K mainGlobals "_law_from" = some (some (.ref 531)) := of_decide_eq_true (c.fact 189 (f := q_aLfr) rfl)
  obtain ⟨ocLfr, odLfr, slLfr, kVLfr, dcLfr, pmLfr, anLfr, cdLfr, ctLfr, lLfr, cLfr, kLfr⟩ := c.raw 42 (d := d_Lfr) rfl
  have aZ : PySem.W.nsIn K mainGlobals "law" = some (some (.ref 536)) := of_decide_eq_true (c.fact 190 (f := q_aZ) rfl)
  obtain ⟨ocZ, odZ, slZ, kVZ, dcZ, pmZ, anZ, cdZ, ctZ, lZ, cZ, kZ⟩ := c.raw 43 (d := d_Z) rfl
  exact all_mk (l := PySem.Challenge.rw_filledonce_k29_meshes_made) X G hfa aC pgC hdC poC saC mkC kcC haC hmC kkC sfC no_C_x no_C_y hn htk kTC aW lW cW kW aI iI lI cI kI aP lP cP kP aA lA cA kA aO lO cO kO z_isinstance z_len z_int z_bool z_tuple aCT pgCT hdCT poCT saCT mkCT kcCT haCT hmCT kkCT sfCT no_CT_tips kLT aS lS cS kS aTI iTI lTI cTI kTI aCo iCo lCo cCo kCo aEd iEd lEd cEd kEd apAr gpAr tpAr rpAr lAr cAr kAr aEq iEq lEq cEq kEq aAd iAd lAd cAd kAd z_list z_all aCM pgCM hdCM poCM saCM mkCM kcCM haCM hmCM kkCM sfCM no_CM_pieces aMO aCu lCu cCu kCu aAp lAp cAp kAp aMI iMI lMI cMI kMI aMT iMT lMT cMT kMT z_range z_any z_enumerate fiMG nsM neM ntM nlM kLM kNT neT ntT aIx lIx cIx kIx aML iML lML cML kML aMG iMG lMG cMG kMG aMW iMW lMW cMW kMW aMQ iMQ lMQ cMQ kMQ aTQ iTQ lTQ cTQ kTQ aCF tpI tsI aCEm lCEm rvEm saEm gaEm ggEm noEm inEm tyEm kpEm exEm tcEm hdEm suEm veEm mrEm lgEm cgEm lcEm vfEm flEm (by rfl) leEm caEm moEm emEm ksEm z_super aCEo lCEo rvEo saEo gaEo ggEo noPEo noEo inEo tyEo kpEo exEo tcEo hdEo suEo veEo mrEo lgEo cgEo lcEo vfEo flEo (by rfl) leEo caEo moEo emEo ksEo aCEn lCEn rvEn saEn gaEn ggEn noEn inEn tyEn kpEn exEn tcEn hdEn suEn veEn mrEn lgEn cgEn lcEn vfEn flEn (by rfl) leEn caEn moEn emEn ksEn kkEmEo kkEnEo kkEnEm z_repr z_max z_min aHd lHd cHd kHd aD lD cD kD aPr lPr cPr kPr aLs lLs cLs kLs aWy lWy cWy kWy aCp lCp cCp kCp aSpl lSpl cSpl kSpl aLm lLm cLm kLm aLd lLd cLd kLd aLpt lLpt cLpt kLpt aLer lLer cLer kLer aLas lLas cLas kLas aLpu lLpu cLpu kLpu aLrd lLrd cLrd kLrd aLdu lLdu cLdu kLdu aLpd lLpd cLpd kLpd aLmv lLmv cLmv kLmv aLfr lLfr cLfr kLfr aZ lZ cZ kZ
end Fo
open PySem PySem.W PySem.Calls PyProof.Rows
theorem PySem.Challenge.cw_filledonce_k29_meshes_made_holds : PySem.Challenge.rw_filledonce_k29_meshes_made.Holds := by
  w_on; o_law
  refine HandSHeadRun.head_any (r := OpenLaw.row PySem.Challenge.rw_filledonce_k29_meshes_made) (q := view (OpenLaw.row PySem.Challenge.rw_filledonce_k29_meshes_made).prog [44]) (H := Fo.hk_) (ob := Fo.ob_) (M := 20000) (loose := Fo.names_) (d := HandSHeadRun.topDef (OpenLaw.row PySem.Challenge.rw_filledonce_k29_meshes_made).prog 44) (kwd := []) Fo.ob_eq
    (by kernel_rfl) (fun s => by kernel_rfl) Fo.run_ (by kernel_rfl) (by kernel_rfl) (by kernel_rfl) (by rfl) (by first | assumption | decide +kernel) (by decide +kernel) ⟨rfl, rfl, rfl, rfl, rfl, by decide +kernel⟩ ?hw ?hc
  case hw => w_witness2
  case hc =>
    refine FoHd.walk_ofGE (l := PySem.Challenge.rw_filledonce_k29_meshes_made) (n := 63) (k := 14) (x := "script") rfl (by decide) (by kernel_rfl) ⟨rfl, by decide, by decide⟩ ?F
    intro w mg fa h Y G hmg0
    obtain ⟨K, KX, c⟩ := Y
    have hmg : mg ("law" : PySem.Str) = some (.ref fa) := by
      have e : (HandSHeadRun.topDef (OpenLaw.row PySem.Challenge.rw_filledonce_k29_meshes_made).prog 44).name = ("law" : PySem.Str) := by kernel_rfl
      rw [← e]
      exact hmg0
    obtain ⟨fd, hb, hF⟩ := Fo.facts (w := w) KX G hmg c
    exact ⟨K, fd, Fo.spLaw K, KX, hb, fun H a ns hl hS => ⟨a, ns, rfl, hS, hl, fun _ => rfl⟩, hF⟩
#print axioms PySem.Challenge.cw_filledonce_k29_meshes_made_holds
