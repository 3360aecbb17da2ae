import PyProof.Rows.All
import Wide.All
import OpenK.AllK
import Wide.FinOn
import HandS.ForMost
import HandS.Wide
import HandS.IsInst
import HandS.ForExc
import PyProof.ReprRoads
import PyProof.CallFns
import KE.KExcIs
import HandS.Exc
import KE.KExcSuper
import HandS.ExcCtx
import HandS.NoneIn
import HandS.Evl
import HandS.More
import PySem.Challenge.RW_filledonce_k64_sums_of_floors
set_option Elab.async false
set_option linter.all false
set_option maxRecDepth 100000
set_option maxHeartbeats 2000000
/-! own binary operators over the hand layer -/
namespace FoOps
open PySem PySem.W PyProof.Rows
section
variable {prog : Program} {w : World} {A : Around} {E : Value → Shared → Prop} {s : Shared} {K : Frag} {x C L f : Addr} {h₀ : Heap} {m : Str → Option Value} {ox : Obj} {od : Option Obj}
theorem tup_add : fillsNumberSlot (.type "tuple") "add" = pure false := by
  unfold fillsNumberSlot
  simp only [typeLookup_type, builtinLookup_eq_fast]
  kernel_rfl
theorem tup_sub : fillsNumberSlot (.type "tuple") "sub" = pure false := by
  unfold fillsNumberSlot
  simp only [typeLookup_type, builtinLookup_eq_fast]
  kernel_rfl
theorem binop_KT {op : Operator} {b : Value} {T : String} {Q : Value → Shared → Prop} (X : K.In s.heap) (I : InstAt s.heap x ox C od) (hT : s.TypeIs b T)
    (hfl : fillsNumberSlot (.type T) op.info.2 = pure false) (hc : selfFirst K C = true)
    (hs : findIn K (.ref C) (PySem.dunder op.info.2) = some (some (.ref f))) (hf : isFn K (.ref f) = true)
    (h : wpAny (model prog w) A (call (.ref f) [.ref x, b]) (PySem.W.CmpBack Q) E s) : wpAny (model prog w) A (binaryOp op (.ref x) b) Q E s := by
  obtain ⟨cd, hcd, hm⟩ := any_some hc
  obtain ⟨rest, hm⟩ : ∃ rest, cd.mro = .ref C :: rest := by
    cases q : cd.mro with
    | nil => rw [q] at hm; cases hm
    | cons a r => rw [q] at hm; exact ⟨r, by rw [List.head?_cons] at hm; cases (beq_iff_eq.mp hm); rfl⟩
  unfold binaryOp
  refine wpAny_holding (wpAny_bind ?_)
  unfold binaryOp1
  refine wpAny_bind (I.type.here (wpAny_bind (wpAny_typeOf hT (wpAny_bind ((fills_K X hcd hm hs).here ?_)))))
  have e : (Value.ref C == Value.type T) = false := by simp
  simp only [e, Bool.false_eq_true, if_false]
  refine wpAny_bind (wpAny_of_eq hfl ?_)
  simp only [Bool.and_false, Bool.false_eq_true, if_false, Bool.false_and, if_true]
  refine wpAny_bind (wpAny_pure ?_)
  simp only [Bool.false_eq_true, if_false]
  refine wpAny_bind (m := tryMethod (.ref x) _ b) ?_
  unfold tryMethod
  refine wpAny_bind (special_fn X I hs (beq_iff_eq.mp hf) (wpAny_mono h (fun v s' hv => ?_) fun _ _ e => e))
  cases v <;> first | exact hv.elim | exact wpAny_pure (wpAny_pure (wpAny_pure hv))
end
end FoOps

namespace L2
open PySem PySem.Spec PyProof.Rows
/-- an own class whose operator nm is the def at f -/
structure OwnOp (K : PySem.W.Frag) (C : Addr) (op : Operator) (f : Addr) : Prop where
  sf : PySem.W.selfFirst K C = true
  at_ : PySem.W.findIn K (.ref C) (PySem.dunder op.info.2) = some (some (.ref f))
  fn : PySem.W.isFn K (.ref f) = true
/-- a op b, a an instance of the class at C, b one too or a tracked tuple -/
def rOwnOp (C : Addr) (sp : Sp) (E : XK) : R2 := fun x y H Q => ∃ a dx fs, x = .ref a ∧ H a = some (.ins C dx fs) ∧
  ((∃ b dy gs, y = .ref b ∧ H b = some (.ins C dy gs)) ∨ ∃ b xs, y = .ref b ∧ H b = some (.tup xs)) ∧ sp [x, y] H Q E
section
variable {X : Cx} {CX : CXT} {k : Nat} {f C : Addr} {fd : FuncData} {ps : List Str} {sp : Sp} {E : XK}
theorem not_ni {z : V} {v : Value} (r : RelV z v) : v ≠ .notImplemented := by
  intro e
  subst e
  cases z <;> first | (cases r; done) | (obtain ⟨_, r⟩ := r; cases r)
theorem cmpBack_of {Q : Value → Shared → Prop} {v : Value} {s : Shared} (hn : v ≠ .notImplemented) (h : Q v s) : PySem.W.CmpBack Q v s := by
  cases v <;> first | exact h | exact absurd rfl hn
theorem op_own {op : Operator} (O : OwnOp X.K C op f) (hfl : fillsNumberSlot (.type "tuple") op.info.2 = pure false) (F : FnOk X.prog X.w X.K X.mg X.base CX k f fd ps sp) (hr : Room k X.A) (hb : Binds X.K fd ps []) (hx : Passes CX X E) :
    OpR X (binaryOp op) (rOwnOp C sp E) := by
  intro pins s σ H x y v u Q I rx ry h
  obtain ⟨a, dx, fs, rfl, ha, hy, q⟩ := h
  obtain rfl : v = Value.ref a := rx
  obtain ⟨mA, J, _⟩ := ins_get I.hok ha
  obtain ⟨od, J, _⟩ := J.look
  obtain ⟨m, hF⟩ := I.fr
  have run : wpAny (model X.prog X.w) X.A (call (.ref f) [.ref a, u]) (PySem.W.CmpBack (EP X pins σ Q)) X.xe s := by
    refine wpAny_mono (run_fn (us := [.ref a, u]) (vs := [.ref a, y]) F hr hb .nil hx I (.cons rfl (.cons ry .nil)) q) (fun r s' z => ?_) fun _ _ z => z
    obtain ⟨z1, H1, I1, rz, qz⟩ := z
    exact cmpBack_of (not_ni rz) ⟨z1, H1, I1, rz, qz⟩
  rcases hy with ⟨b, dy, gs, rfl, hb'⟩ | ⟨b, xs, rfl, hb'⟩
  · obtain rfl : u = Value.ref b := ry
    obtain ⟨mB, J', _⟩ := ins_get I.hok hb'
    obtain ⟨od', J', _⟩ := J'.look
    exact PySem.W.binop_K hF I.ok.mod.kin J J'.type O.sf O.at_ O.fn run
  · obtain rfl : u = Value.ref b := ry
    obtain ⟨_, _, _, o, h1, h2, _⟩ := (show ObjOk X.prog X.w H s.heap b (.tup xs) from I.hok b _ hb')
    exact FoOps.binop_KT I.kIn J ⟨o, h1, h2⟩ hfl O.sf O.at_ O.fn run
end
end L2
set_option Elab.async false
set_option linter.all false
set_option maxRecDepth 100000
set_option maxHeartbeats 2000000
/-! defs that are called where no guard stands (so that repr of lists and tuples can be told) -/
namespace L2
open PySem PySem.Spec PyProof.Rows
/-- the promise of a def, where nothing is being shown around it -/
structure FnG (P : Program) (w : World) (K : PySem.W.Frag) (mg : Str → Option Value) (base : Heap) (CX : CXT) (k : Nat) (f : Addr) (fd : FuncData) (ps : List Str) (sp : Sp) : Prop where
  len : ∀ vs H Q E, sp vs H Q E → vs.length = ps.length
  run : ∀ (A : Around), A.guards = some [] → ∀ (outer : List Env) (s : Shared) (H : Hp) (args : Args) (us : List Value) (vs : List V) (Q : VK) (E : XK), Room k A → Env0 P w K mg base A outer s H → BindsTo s fd args (ps.zip us) → Vals vs us → sp vs H Q E →
    codeAny (model P w) A (.call (.ref f) args) (CR CX outer P w H s Q E) s
section
variable {P : Program} {w : World} {K : PySem.W.Frag} {mg : Str → Option Value} {base : Heap}
/-- by its body -/
theorem Fun.okG {x qual : Str} {st : Stmt} {f : Addr} {fd : FuncData} {N ps : List Str} {k : Nat} {sp : Sp} (F : Fun K x qual st f fd) (S : FnScope N ps (defScope st)) (len : ∀ vs H Q E, sp vs H Q E → vs.length = ps.length)
    (walk : ∀ (cdv : Value) (A : Around) (outer : List Env) (s : Shared) (H : Hp) (vs : List V) (Q : VK) (E : XK), A.guards = some [] → Room k (A.deeper (envOfC qual (defScope st) s.heap.objs.size f cdv)) → sp vs H Q E →
      ∃ t, PSs (cxOf CX0 P w K mg base N qual (defScope st) f cdv A outer s H E).nox (defBody st) t ∧ t { nx := fun _ H' => Q .non H', rt := Q } (start N vs) H) : FnG P w K mg base CX0 (k + 1) f fd ps sp := by
  obtain ⟨oc, od, kV, doc, pm, an, cdv, ct, osl, rfl, lk, hcd⟩ := F.ex
  constructor
  · exact len
  intro A hgd outer s H args us vs Q E room env bind rel want
  have inB : ∀ b o, base.get? b = some o → s.heap.get? b = some o := fun b o z => (env.bs b o z).1
  have inK := env.mod.kin.keeps inB
  have kinds : ∀ y ∈ ps.zip us, (defScope st).names.lookup y.1 = some .local ∨ ((defScope st).names.lookup y.1 = some .cell ∧ ((cellsFrom (s.heap.objs.size + 1) (defScope st).names []).lookup y.1).isSome = true) := by
    rintro ⟨n, v⟩ hy
    exact (S.par n (List.of_mem_zip hy).1).imp id fun q => ⟨q, PySem.W.cellsFrom_some _ _ _ (.inl q)⟩
  refine codeAny_call_function room.depth (inK _ _ lk) rfl S.co S.gen rfl (PySem.W.codeRec_of inK hcd) (bind _ _ _ _ (wpAny_newFunctionEnv_cells S.kind kinds ?_))
  rintro _ rfl s1 entry
  refine ⟨(env.mod.nolimit.keeps inB).keeps entry.toInCall.keep, codeAny_func ?_⟩
  obtain ⟨t, body, told⟩ := walk cdv A outer s H vs Q E hgd (room.deeper _) want
  have start0 := inv_start (CX := CX0) (E := E) S room.hd env (len _ _ _ _ want) rel entry
  refine wpAny_mono (body.nox.run [] s1 (start N vs) H _ start0 told) ?_ fun _ _ z => z
  intro fl s' z
  cases fl with
  | ret u =>
    obtain ⟨v, σ', H', J, rv, q⟩ := z
    exact ⟨v, H', J.os, J.bare, J.base, J.hok, rv, q⟩
  | next =>
    obtain ⟨σ', H', J, q⟩ := z
    exact ⟨.non, H', J.os, J.bare, J.base, J.hok, rfl, q⟩
  | brk => exact z.elim fun _ z => z.elim fun _ z => z.2.elim
  | cont => exact z.elim fun _ z => z.elim fun _ z => z.2.elim
end
section
variable {X : Cx} {CX : CXT} {k : Nat} {f : Addr} {fd : FuncData} {ps : List Str} {sp : Sp} {E : XK} {x : Str} {p pos : Pos} {e : Expr} {es : List Expr} {t : TA}
/-- f(e, ..) of such a def -/
theorem pe_callG (F : FnG X.prog X.w X.K X.mg X.base CX k f fd ps sp) (hgd : X.A.guards = some []) (hr : Room k X.A) (hg : Gl X x) (hm : X.mg x = some (.ref f)) (hk : PySem.W.keepIn X.K (.ref f) = true) (hb : Binds X.K fd ps []) (hx : Passes CX X E)
    (ha : PA X (e :: es) t) (hdb : (x == ("__debug__" : Str)) = false := by decide) (he : starEach (e :: es) X.env = (false, eval e X.env) :: starEach es X.env := by rfl) (hpl : (backTo pos (starEach es X.env)).any (·.1) = false := by rfl) :
    PE X (.Call (.Name x p) (e :: es) [] pos) (tCall sp [] E t) := by
  constructor
  intro pins s σ H Q I h
  refine wpAny_Call_Name_kw (ld_glob I hg hm (PySem.W.callWith_K (h₀ := X.base) I.ok.mod.kin hk (thn (ha.run pos pins s σ H _ I h) ?_) he hpl) hdb)
  rintro us s1 ⟨vs, H1, I1, rel, want⟩
  refine ⟨I1.kIn, ?_⟩
  rw [List.append_nil] at want
  have ln : us.length = ps.length := rel.length.symm.trans (F.len _ _ _ _ want)
  have bnd := hb s1 us I1.kIn (by rw [List.append_nil]; exact ln)
  rw [List.append_nil] at bnd
  refine wpAny_call (codeAny_mono (F.run X.A hgd X.stack s1 H1 ⟨us, []⟩ us vs Q E hr I1.env0 bnd rel want) ?_)
  intro r s' z
  rcases r with e | (u | _ | _ | _)
  · exact hx pins σ H1 s1 e s' I1 z
  all_goals first | exact I1.after z | exact False.elim z
end
end L2
namespace L2
open PySem PySem.Spec PyProof.Rows
/-- the end of a law whose def is such a one -/
theorem walk_ofG {l : PySem.W.OpenLaw} {n k : Nat} {q : Program} {loose : List Str} {XP : (Str → Option Value) → Heap → Prop} {YP : World → Heap → Prop} {d : DefRec} {K : Params → PySem.W.Frag} {sp : World → Sp} {x : Str}
    (hn : l.most = some n) (hn2 : n ≤ sizeLine) (hdf : d.params.defaults = []) (hr : Room k callerA) (hY : ∀ (w : World) (h : Heap), YP w h → (K w.params).In h)
    (F : ∀ (w : World) (mg : Str → Option Value) (fa : Addr) (h : Heap), (K w.params).In h → h.Ns mainGlobals mg → mg d.name = some (.ref fa) →
      ∃ fd : FuncData, (∀ (s : Shared) (u : Value), BindsTo s fd ⟨[u], []⟩ [(x, u)]) ∧ ∀ base : Heap, (K w.params).In base → base.Ns mainGlobals mg → FnG l.prog w (K w.params) mg base CX0 k fa fd [x] (sp w))
    (hsp : ∀ (w : World) (H : Hp) (a : Addr) (ns : List Int), ns.length ≤ n → SqL (K w.params) H a (ns.map V.int) → sp w [.ref a] H (fun v _ => v = .bl true) E0) :
    PySem.W.WalkO q loose XP YP l.row.toRowW d [] (fun f vs => PySem.call f vs) := by
  refine Att.attach_call hn hdf fun w s₀ s₁ mg mb fa o pm cd doc a vs ns G Y _ _ _ hmg hobj hints hlen hg => ?_
  have inK := hY w _ Y
  obtain ⟨fd, bind, told⟩ := F w mg fa _ inK G.T.g hmg
  have rel := vals_ints hints
  have long : ns.length ≤ sizeLine := Nat.le_trans hlen hn2
  -- any abstract heap that knows at most the script, as it lies
  have key : ∀ H : Hp, (∀ b u, H b = some u → b = a ∧ (K w.params).lookup a = none ∧ u = .frz { cls := .type "list", data := .seq vs.toArray } (.lst (ns.map V.int))) → SqL (K w.params) H a (ns.map V.int) → HOk l.prog w H s₁.heap →
      codeAny (model l.prog w) callerA (.call (.ref fa) ⟨[.ref a], []⟩) (fun r s' => r = .ok (.ret (.bool true)) ∧ OldK s₁.heap s'.heap ∧ s'.os = s₁.os ∧ AllBare s'.gens) s₁ := by
    intro H only sq ok
    have keepN : ∀ {b : Addr} {m : Str → Option Value}, s₁.heap.Ns b m → (hidT s₁.heap H).Ns b m := by
      rintro b m ⟨ob, es, ep, h1, h2, r⟩
      refine ⟨ob, es, ep, hidT_get h1 ?_, h2, r⟩
      cases hH : H b with
      | none => rfl
      | some u =>
        obtain ⟨rfl, _, _⟩ := only b u hH
        rw [hobj] at h1
        cases h1
        cases h2
    have kIn' : (K w.params).In (hidT s₁.heap H) := fun b ob z => hidT_get (inK b ob z) (by
      cases hH : H b with
      | none => rfl
      | some u =>
        obtain ⟨rfl, hno, _⟩ := only b u hH
        rw [hno] at z
        cases z)
    obtain ⟨mc, c1, c2⟩ := G.T.nolimit
    have env : Env0 l.prog w (K w.params) mg (hidT s₁.heap H) callerA [] s₁ H := by
      refine ⟨rfl, ⟨kIn', keepN G.T.g, ⟨mb, keepN G.T.b, G.T.builtins⟩, ⟨mc, keepN c1, c2⟩⟩, fun b ob z => of_hidT z, Nat.le_of_eq (hidT_size _ _), trivial, fun b hb => ?_, ok, .of_eq hg⟩
      have hb' : b ∈ ([] : List Addr) := hb
      cases hb'
    refine codeAny_mono ((told _ kIn' (keepN G.T.g)).run callerA rfl [] s₁ H ⟨[.ref a], []⟩ [.ref a] [.ref a] _ _ hr env (bind s₁ (.ref a)) (.cons rfl .nil) (hsp w H a ns hlen sq)) ?_
    intro r s' z
    cases r with
    | error e => exact False.elim z
    | ok fl =>
      cases fl with
      | next => exact False.elim z
      | brk => exact False.elim z
      | cont => exact False.elim z
      | ret u =>
        obtain ⟨v, H', os, bare, un, ok', rv, ev⟩ := z
        have ev' : v = .bl true := ev
        subst ev'
        obtain rfl : u = Value.bool true := rv
        refine ⟨rfl, OldK.of_keep fun b ob hb => ?_, os, bare⟩
        cases hH : H b with
        | none =>
          refine un.keep b ob hb hH (fun hm => ?_) (by simp)
          have hm' : b ∈ ([] : List Addr) := hm
          cases hm'
        | some u =>
          obtain ⟨rfl, _, rfl⟩ := only b u hH
          obtain ⟨e1, _⟩ := ok b _ hH
          obtain ⟨e2, _⟩ := ok' b _ (un.frzs b _ _ hH)
          rw [hb] at e1
          cases e1
          exact e2
  by_cases hk : (K w.params).lookup a = none
  · refine key (fun b => if b = a then some (.frz { cls := .type "list", data := .seq vs.toArray } (.lst (ns.map V.int))) else none) (fun b u z => ?_) (.inl (.inr ⟨_, if_pos rfl⟩)) (fun b u z => ?_)
    · try dsimp only at z
      by_cases hb : b = a
      · rw [if_pos hb] at z
        exact ⟨hb, hk, (Option.some.inj z).symm⟩
      · rw [if_neg hb] at z
        cases z
    · try dsimp only at z
      by_cases hb : b = a
      · rw [if_pos hb] at z
        cases z
        subst hb
        exact ⟨hobj, by rw [List.length_map]; exact long, vs, _, rel, hobj⟩
      · rw [if_neg hb] at z
        cases z
  · obtain ⟨ob, hob⟩ := Option.ne_none_iff_exists'.mp hk
    have same := inK a ob hob
    rw [hobj] at same
    cases same
    refine key (fun _ => none) (fun b u z => by cases z) (.inr ⟨_, vs.toArray, _, hob, rfl, rfl, rfl, ?_, by simpa using rel⟩) (fun b u z => by cases z)
    rw [List.size_toArray, hints.length]
    exact long
end L2
set_option Elab.async false
set_option linter.all false
set_option maxRecDepth 100000
set_option maxHeartbeats 2000000
/-! repr of data, where no guard stands -/
namespace L2
open PySem PySem.Spec PyProof.Rows
def rReprD (K : PySem.W.Frag) : List V → Hp → VK → Prop := fun xs H Q => ∃ x d, xs = [x] ∧ Dp K H x d ∧ d.showable = true ∧ d.hasDict = false ∧ d.depth ≤ 60 ∧ d.shown.length ≤ sizeLine ∧ Q (.str d.shown) H
theorem call_reprD {X : Cx} (hgd : X.A.guards = some []) (hu : X.A.units + 64 < cLine) : CallR X (.builtin "repr") (rReprD X.K) := by
  intro pins s σ H xs us Q I r h
  obtain ⟨x, d, rfl, hd, hs, hnd, hdp, hz, q⟩ := h
  obtain ⟨u, rfl, rx⟩ := vals1 r
  obtain ⟨as, rd⟩ := Dp.reads I d x u hd rx
  cases hd with
  | non =>
    obtain rfl : u = Value.none := rx
    exact PySem.P.repr_of_none ⟨.str "None", H, I.tok _, ⟨_, rfl⟩, q⟩
  | bl b =>
    obtain rfl : u = Value.bool b := rx
    exact PySem.P.repr_of_bool ⟨.str _, H, I.tok _, ⟨_, rfl⟩, q⟩
  | int i =>
    obtain ⟨t, rfl⟩ := rx
    exact PySem.P.repr_of_int (by simpa [PyData.showable] using hs) ⟨.str (toString i), H, I.tok _, ⟨_, rfl⟩, q⟩
  | str y =>
    obtain ⟨t, rfl⟩ := rx
    exact PySem.P.repr_of_str ⟨.str (reprText y), H, I.tok _, ⟨_, rfl⟩, q⟩ hz
  | @lst a ys ds h1 h2 =>
    obtain rfl : u = Value.ref a := rx
    exact repr_of_reads' rd hs (fun z => by rw [hnd] at z; cases z) hgd (by omega) (fun _ _ z => z) (fun h' v tk k => ⟨.str _, H, I.kept k, ⟨_, rfl⟩, q⟩) hz
  | @tup a ys ds h1 h2 =>
    obtain rfl : u = Value.ref a := rx
    exact repr_of_reads' rd hs (fun z => by rw [hnd] at z; cases z) hgd (by omega) (fun _ _ z => z) (fun h' v tk k => ⟨.str _, H, I.kept k, ⟨_, rfl⟩, q⟩) hz
end L2
namespace L2
open PySem PySem.Spec PyProof.Rows
/-- what an own error class says, so that isinstance asks its instances rightly -/
structure XIsC (K : PySem.W.Frag) (D : Addr) : Prop where
  hg : PySem.W.findIn K (.ref D) "__getattribute__" = some (some (.builtin "BaseException.__getattribute__"))
  hk : PySem.W.findIn K (.ref D) "__getattr__" = some none
  hs : PySem.W.subIn K (.ref D) (.type "BaseException") = some true
  hd : PySem.W.hasDictIn K D = true
  ha : PySem.W.findIn K (.ref D) "__class__" = some (some (.builtin "object.__class__"))
  hn : PySem.W.specialIn K (.builtin "object.__class__") "__get__" = some (some (.builtin "getset_descriptor.__get__"))
  ht : PySem.W.takesIn K (.builtin "object.__class__") = some true
  hm : PySem.W.mroIn K D (.type "object") = some true
end L2
namespace L2
open PySem PySem.Spec PyProof.Rows
/-- isinstance(e, c), e the error that the suite holds (at a; its class cls, its dict d) -/
def rIsX (K : PySem.W.Frag) (a : Addr) (cls : Value) (d : Option Addr) : List V → Hp → VK → Prop := fun xs H Q => ∃ (D dd : Addr) (fs : List (Str × V)) (c : V) (cv : Value) (b : Bool), xs = [.ref a, c] ∧ cls = .ref D ∧ d = some dd ∧ H dd = some (.xd fs) ∧ ClsV c cv ∧ XIsC K D ∧
  PySem.W.kitOne K (.ref D) cv = some b ∧ Q (.bl b) H
theorem call_isX {X : Cx} {a : Addr} {oe : Obj} {cls : Value} {d : Option Addr} {pn : List (Addr × Obj)} (hz : Zc cls d oe) (hf : ∃ vs, oe.data = .fields vs) : CallR (X.suite a ((a, oe) :: pn)) (.builtin "isinstance") (rIsX X.K a cls d) := by
  intro pins s σ H xs us Q I r h
  obtain ⟨D, dd, fs, c, cv, b, rfl, rfl, rfl, hdd, hcv, T, e, q⟩ := h
  obtain ⟨u1, u2, rfl, r1, r2⟩ := vals2 r
  obtain rfl : u1 = Value.ref a := r1
  obtain rfl := hcv.eq r2
  obtain ⟨ha, _⟩ := I.pin (a, oe) (List.mem_append_left _ List.mem_cons_self)
  obtain ⟨vs, hd⟩ := hf
  obtain ⟨mA, hns, _⟩ := (show ObjOk X.prog X.w H s.heap dd (.xd fs) from I.hok dd _ hdd)
  obtain ⟨od, ho, _⟩ := lookIn_ns hns
  have J : PySem.W.InstAt s.heap a oe D (some od) := ⟨ha, hz.1, by unfold PySem.W.notCls; rw [hd] <;> rfl, by rw [hz.2]; exact ho⟩
  have hcl : (PySem.W.clsIn X.K D).isSome = true := by
    obtain ⟨cd, hc, _⟩ := PySem.W.any_some T.hd
    rw [hc]
    rfl
  exact PySem.W.kia_one (PySem.W.kitx_exc hcl T.hg T.hk T.hs T.ha T.hn T.ht T.hm) I.kIn J e (fun z => nomatch z) fun tk => ⟨.bl b, H, I.kept (t' := tk) fun _ _ z => z, rfl, q⟩
end L2
set_option Elab.async false
set_option linter.all false
set_option maxRecDepth 100000
set_option maxHeartbeats 2000000
/-! an own error over ValueError (perhaps over others between), whose __init__ says super().__init__(text) and keeps one field -/
namespace FoX
open PySem PySem.W PySem.Calls PyProof.Rows PySem.HandSPX
theorem one_sz (v : Value) : [v].length ≤ sizeLine := by
  rw [sizeLine_eq]
  exact (by decide : 1 ≤ 16777216)
section
variable {prog : Program} {w : World} {A : Around} {E : Value → Shared → Prop} {h : Heap} {g : Array GenState} {d : Drawn} {t : Nat} {os : OsState}
/-- the bound built-in __init__ called -/
theorem mw_call {nm q : Str} {C N u e t0 : Addr} {bs bm : List Value} {hdct : Bool} {sn : List Str} {sub : List Value} {ab : Bool} {col : Option Bool} {dd : Option Addr} {k0 k1 k2 k3 k5 : Option Value} {rest : List Value} {Q : Value → Shared → Prop}
    (hC : h.get? C = some (excClassObj nm q C N bs bm hdct sn sub ab col dd k0 k1 k2 k3 k5 "ValueError.__new__")) (he : h.get? e = some (HandSPX.excO C t0)) (hu : h.get? u = some (kxs_mw "ValueError.__init__" e)) (hz : rest.length ≤ sizeLine)
    (hq : ∀ h' t1, (∀ b o, b ≠ e → h.get? b = some o → h'.get? b = some o) → h'.get? e = some (HandSPX.excO C t1) → Q .none ⟨h', g, d, t, os⟩) :
    wpAny (model prog w) A (call (.ref u) rest) Q E ⟨h, g, d, t, os⟩ := by
  refine wpAny_call (codeAny_of_tree ?_)
  show wpAny (model prog w) A.in1 (callAny (.ref u) ⟨rest, []⟩) _ _ _
  simp only [callAny]
  refine wpAny_bind (wpAny_load hu ?_)
  have tb : (Value.type "method-wrapper" == Value.type "method" || Value.type "method-wrapper" == Value.type "builtin_function_or_method" || Value.type "method-wrapper" == Value.type "method-wrapper") = true := by decide
  simp only [kxs_mw, tb, if_true]
  refine KFB.if_so (by decide) (wpAny_bind (check_bound_init F.excBase_ValueError.toExcCallFacts hC he rfl ?_))
  refine wpAny_bind (wpAny_pure (wpAny_pure ⟨plainId_quiet F.excBase_ValueError.init.plain _, codeAny_builtin F.excBase_ValueError.initEntry ?_⟩))
  exact exc_init_tree (cls := .ref C) (t0 := t0) (dv := none) (c2 := .none) (c3 := .none) (b4 := .bool false) he hz fun h' k e' _ => hq h' _ k e'
end
end FoX
set_option Elab.async false
set_option linter.all false
set_option maxRecDepth 100000
set_option maxHeartbeats 2000000
namespace FoX_number
open PySem PySem.W PySem.Calls PyProof.Rows PySem.HandSPX FoX
/-- the text of such an __init__ -/
def xB (msg : Str) (a1 a2 a3 a4 a5 a6 q1 q2 q3 q4 : Pos) (j : Nat) : List Stmt :=
  [.Expr (.Call (.Attribute (.Call (.Name "super" a1) [] [] a2) "__init__" a3) [.Constant (.str msg) j a4] [] a5) a6, .Assign [.Attribute (.Name "self" q1) (Str.ofString "number") q2] (.Name (Str.ofString "number") q3) q4]
def xS : Scope := { kind := .function, names := [(Str.ofString "self", .local), ((Str.ofString "number"), .local), (Str.ofString "__class__", .free), (Str.ofString "super", .globalImplicit)], isGenerator := false, isCoroutine := false, more := [] }
def xA (p1 p2 : Pos) : Arguments := { posonlyargs := [], args := [{ arg := "self", annotation := none, pos := p1 }, { arg := (Str.ofString "number"), annotation := none, pos := p2 }], vararg := none, kwonlyargs := [], kw_defaults := [], kwarg := none, defaults := [] }
/-- what the written part says of the class at C and its __init__ at fI -/
structure XTxt (P : Program) (K : Frag) (mg : Str → Option Value) (C fI : Addr) : Prop where
  cls : ∃ nm q N bs bm sn sub ab col dd k0 k1 k2 k3 k5, K.lookup C = some (excClassObj nm q C N bs bm true sn sub ab col dd k0 k1 k2 k3 k5 "ValueError.__new__") ∧ refsVE bm = true
  sa : findIn K (.ref C) "__setattr__" = some (some (.builtin "object.__setattr__"))
  ga : findIn K (.ref C) "__getattribute__" = some (some (.builtin "BaseException.__getattribute__"))
  gg : findIn K (.ref C) "__getattr__" = some none
  noN : findIn K (.ref C) (Str.ofString "number") = some none
  iC : findIn K (.ref C) "__init__" = some (some (.ref fI))
  tC : typeIn K (.ref fI) = some (.type "function")
  kC : keepIn K (.ref C) = true
  exC : subIn K (.ref C) (.type "BaseException") = some true
  tyC : typeIn K (.ref C) = some (.type "type")
  hdC : hasDictIn K C = true
  sup : ks_superIn K C C "__init__" = some (some (.builtin "ValueError.__init__"))
  tp : nsIn K cStatics "thirdparty.any" = some none
  zs : mg "super" = none
  ve : subIn K (.ref C) (.type "ValueError") = some true
  mr : mroIn K C (.ref C) = some true
  top : (P.main.scope.names.lookup ("super" : Str)).isSome = false
  fn : ∃ (qual msg : Str) (oc : Value) (od : Option Addr) (doc pm kV : Value) (an : Option Addr) (cc cda : Addr) (ct : Value) (osl : Array (Option Value)) (p1 p2 a1 a2 a3 a4 a5 a6 q1 q2 q3 q4 : Pos) (j : Nat) (ccl cl : Value) (cdd cld : Option Addr) (vs : Array Value) (ccs csl : Array (Option Value)) (file : Str) (tf : Tok),
    K.lookup fI = some ⟨oc, od, .func (ksFn "__init__" qual (xA p1 p2) (xB msg a1 a2 a3 a4 a5 a6 q1 q2 q3 q4 j) xS .none kV doc pm an (.ref cda) ct cc), osl⟩ ∧ codeIn K (.ref cda) qual = true ∧
    K.lookup cda = some ⟨ccl, cdd, .fields vs, ccs⟩ ∧ vs[2]? = some (.str file tf) ∧ ((P.main.file : Str) == file) = true ∧ (a3.endLine == a5.line) = true ∧ K.lookup cc = some ⟨cl, cld, .cell (some (.ref C)), csl⟩
theorem xcel : ∀ y ∈ xS.names, y.2 ≠ .cell := by decide
/-- the call of super's method, its tree -/
theorem x_tree (msg : Str) (a1 a2 a3 a4 a5 : Pos) (j : Nat) (env : Env) (hl : (a3.endLine == a5.line) = true) : eval (.Call (.Attribute (.Call (.Name "super" a1) [] [] a2) "__init__" a3) [.Constant (.str msg) j a4] [] a5) env = (do
      let ov ← attributeBase (.Call (.Name "super" a1) [] [] a2) "__init__" env (eval (.Call (.Name "super" a1) [] [] a2) env)
      standAt a3.atName
      let (f, first) ← holding [ov] (getMethod ov "__init__" (do return (← importBound (.Call (.Name "super" a1) [] [] a2) env).getD true))
      callWith a5 f first (backTo a5 (starEach [.Constant (.str msg) j a4] env)) []) := by
  rw [arm_eval_Call]
  unfold methodCall methodCallPos
  simp only [hl, Bool.or_true, if_true]
  rfl
/-- what __init__ leaves of a fresh error at x -/
structure XEnd (h h' : Heap) (x C dx : Addr) (v : Value) : Prop where
  keep : ∀ b o, b ≠ x → h.get? b = some o → h'.get? b = some o
  obj : ∃ t1 : Addr, h'.get? x = some { cls := .ref C, dict := some dx, data := .fields #[.ref t1, .none, .none, .none, .bool false, .none] }
  dbig : h.objs.size ≤ dx
  dne : dx ≠ x
  ns : h'.Ns1 dx (fun y => if y = (Str.ofString "number") then some v else none)
section
variable {prog : Program} {w : World} {A : Around} {E : Value → Shared → Prop} {R : Result → Shared → Prop} {s : Shared} {K : Frag} {mg : Str → Option Value} {C fI : Addr}
theorem x_init (T : XTxt prog K mg C fI) {x t0 : Addr} {v : Value} (X : K.In s.heap) (hg : s.heap.Ns mainGlobals mg) (hbl : ∃ mb, s.heap.Ns builtinsNs mb ∧ ∀ y : Str, y ≠ "__name__" → mb y = bootBuiltins y) (hlim : s.heap.NoLimit)
    (hx : s.heap.get? x = some (HandSPX.excO C t0)) (hnx : K.lookup x = none) (hroom : A.depth < recursionLimit) (hq : ∀ h' tk dx, XEnd s.heap h' x C dx v → R (.ok (.ret .none)) { s with heap := h', toks := tk }) :
    codeAny (model prog w) A (.call (.ref fI) ⟨[.ref x, v], []⟩) R s := by
  obtain ⟨qual, msg, oc, od, doc, pm, kV, an, cc, cda, ct, osl, p1, p2, a1, a2, a3, a4, a5, a6, q1, q2, q3, q4, j, ccl, cl, cdd, cld, vs, ccs, csl, file, tf, ho, hcd, hcode, hvs, hfile, hline, hcell⟩ := T.fn
  obtain ⟨nm, q, N, bs, bm, sn, sub, ab, col, dd, k0, k1, k2, k3, k5, hC, hbm⟩ := T.cls
  have hcl : clsIn K C = some { name := nm, bases := bs, mro := .ref C :: bm, ns := N, qualname := q, hasDict := true, slotNames := sn, subclasses := sub, abstract := ab, collection := col, hasDel := false } := by unfold clsIn; rw [hC] <;> rfl
  obtain ⟨hp, g, d, tk, os⟩ := s
  refine ks_codeAny_call_defAt (fd := ksFn "__init__" qual (xA p1 p2) (xB msg a1 a2 a3 a4 a5 a6 q1 q2 q3 q4 j) xS .none kV doc pm an (.ref cda) ct cc) (body := xB msg a1 a2 a3 a4 a5 a6 q1 q2 q3 q4 j) (binds := [(Str.ofString "self", .ref x), ((Str.ofString "number"), v)]) hroom (X _ _ ho) rfl hlim (codeRec_of X hcd) rfl (BindsTo.of_eq rfl) xcel ?_ (fun h₁ hns k => ?_) rfl rfl rfl
  · intro y hy
    rcases List.mem_cons.mp hy with rfl | hy
    · exact rfl
    · rcases List.mem_cons.mp hy with rfl | hy
      · exact rfl
      · cases hy
  have X₁ : K.In h₁ := X.keeps k
  have hx₁ : h₁.get? x = some (HandSPX.excO C t0) := k _ _ hx
  have I₁ : InstAt h₁ x (HandSPX.excO C t0) C none := ⟨hx₁, rfl, rfl, trivial⟩
  have vself : (fun y : Str => List.lookup y (List.reverse [((Str.ofString "self"), Value.ref x), ((Str.ofString "number"), v)])) (Str.ofString "self") = some (.ref x) := by
    have e : ((Str.ofString "self") == (Str.ofString "number")) = false := by decide +kernel
    simp [List.lookup, e]
  have vfld : (fun y : Str => List.lookup y (List.reverse [((Str.ofString "self"), Value.ref x), ((Str.ofString "number"), v)])) (Str.ofString "number") = some v := by
    simp [List.lookup]
  obtain ⟨mb, hb1, hb2⟩ := hbl
  -- super().__init__(text)
  refine ks_wpAt_execs_cons (ks_wpAt_Expr_any (ks_wpAt_MethodCall ?_ (x_tree msg a1 a2 a3 a4 a5 j _ hline)) rfl rfl)
  refine ks_wpAt_super_base (f := fI) (fd := ksFn "__init__" qual (xA p1 p2) (xB msg a1 a2 a3 a4 a5 a6 q1 q2 q3 q4 j) xS .none kV doc pm an (.ref cda) ct cc) (ar := { arg := "self", annotation := none, pos := p1 }) rfl rfl rfl rfl (X₁ _ _ ho) rfl rfl rfl (X₁ _ _ hcode) rfl hvs hfile T.top ?_
  refine ks_loadName_global rfl rfl (loadGlobal_builtin (hg.keeps k) T.zs (hb1.keeps k) ((hb2 _ (by decide +kernel)).trans (by decide +kernel)) ⟨rfl, ?_⟩)
  refine wpAny_loadName_free rfl rfl rfl ⟨_, X₁ _ _ hcell, rfl⟩ ?_
  refine wpAny_loadName_local rfl rfl hns vself ?_
  obtain ⟨oD, hD1, hD2⟩ : ∃ oD, h₁.get? C = some oD ∧ oD.data = .cls { name := nm, bases := bs, mro := .ref C :: bm, ns := N, qualname := q, hasDict := true, slotNames := sn, subclasses := sub, abstract := ab, collection := col, hasDel := false } := ⟨_, X₁ _ _ hC, rfl⟩
  refine ks_wpAny_isType_cls hD1 hD2 ⟨rfl, ?_⟩
  refine ks_wpAny_call_super hD1 hD2 hx₁ rfl (fun c e => by cases e) (looks_mroIn X₁ T.mr) (fun h₂ e₂ k₂ => ?_)
  have X₂ : K.In h₂ := X₁.keeps k₂
  have hx₂ : h₂.get? x = some (HandSPX.excO C t0) := k₂ _ _ hx₁
  have I₂ : InstAt h₂ x (HandSPX.excO C t0) C none := ⟨hx₂, rfl, rfl, trivial⟩
  have hsup := T.sup
  unfold ks_superIn at hsup
  rw [hcl] at hsup
  have hmro : Looks (model prog w) h₂ (mroOf (.ref C)) (.ref C :: bm) := (looks_clsIn X₂ hcl).andThen .now
  refine kxs_getMethod kxs_ValueError e₂ (looks_opaque X₂ T.tp) hmro rfl X₂ hsup (I₂.type.andThen (looks_subIn X₂ T.ve)) (ks_ne X₂ I₂ hcl) rfl ?_
  -- the wrapper called
  have hk₃ : ∀ b o, h₂.get? b = some o → (h₂.push (kxs_mw "ValueError.__init__" x)).get? b = some o := fun b o e => Heap.get?_push_of_some _ e
  have hu₃ : (h₂.push (kxs_mw "ValueError.__init__" x)).get? h₂.objs.size = some (kxs_mw "ValueError.__init__" x) := Heap.get?_push_at rfl rfl
  refine kxs_callWith (i := "ValueError.__init__") (x := x) rfl (evalArgs_plain (Calls.spliced_cons (Calls.Constant_str (pos := a4) (k := j) (Calls.spliced_nil ⟨hu₃, ?_⟩))))
  refine mw_call (X₂.keeps hk₃ _ _ hC) (hk₃ _ _ hx₂) hu₃ (one_sz _) (fun h₄ t1 k₄ hx₄ => ?_)
  have kall : ∀ b o, b ≠ x → hp.get? b = some o → h₄.get? b = some o := fun b o hb e => k₄ b o hb (hk₃ b o (k₂ b o (k b o e)))
  have xC : x ≠ C := ks_ne X₂ I₂ hcl
  have X₄ : K.In h₄ := fun b o e => kall b o (fun z => by rw [z, hnx] at e; cases e) (X b o e)
  have hL : hp.objs.size ≠ x := Nat.ne_of_gt (Heap.lt_size hx)
  have hns₄ : h₄.Ns hp.objs.size (fun y => List.lookup y (List.reverse [((Str.ofString "self"), Value.ref x), ((Str.ofString "number"), v)])) := by
    obtain ⟨oL, es, ep, hoL, r⟩ := hns
    exact ⟨oL, es, ep, k₄ _ _ hL (hk₃ _ _ (k₂ _ _ hoL)), r⟩
  -- self.field = field
  refine wpAt_of_wpAny ?_
  refine wpAny_execs_cons (plainObj_wpAny_Assign_Attribute ?_)
  refine wpAny_Name (wpAny_loadName_local rfl rfl hns₄ vfld (wpAny_Name (wpAny_loadName_local rfl rfl hns₄ vself ?_) (by decide))) (by decide)
  refine set_plain X₄ (ox := HandSPX.excO C t1) (od := none) ⟨hx₄, rfl, rfl, trivial⟩ T.sa ?_
  refine exc_osa X₄ hx₄ hcl (show refsVE (.ref C :: bm) = true from hbm) rfl T.noN (fun h₅ tk₅ dx k₅ dn dne hx₅ hn₅ => ?_)
  refine wpAny_execs_nil (hq h₅ tk₅ dx ⟨fun b o hb e => k₅ b o hb (kall b o hb e), ⟨t1, hx₅⟩, ?_, dne, hn₅⟩)
  have z1 : hp.objs.size < h₄.objs.size := hns₄.lt
  exact Nat.le_of_lt (Nat.lt_of_lt_of_le z1 dn)
/-- a made error -/
structure XMade (h h' : Heap) (e C d : Addr) (v : Value) : Prop where
  keep : ∀ b o, h.get? b = some o → h'.get? b = some o
  new : h.objs.size ≤ e
  obj : ∃ oe vs, h'.get? e = some oe ∧ oe.cls = .ref C ∧ oe.dict = some d ∧ oe.data = .fields vs ∧ vs[1]? = some .none ∧ vs[2]? = some .none
  dbig : h.objs.size ≤ d
  dne : d ≠ e
  ns : h'.Ns1 d (fun y => if y = (Str.ofString "number") then some v else none)
theorem x_made (T : XTxt prog K mg C fI) {v : Value} (X : K.In s.heap) (hg : s.heap.Ns mainGlobals mg) (hbl : ∃ mb, s.heap.Ns builtinsNs mb ∧ ∀ y : Str, y ≠ "__name__" → mb y = bootBuiltins y) (hlim : s.heap.NoLimit) (hroom : A.depth + 1 < recursionLimit)
    (hq : ∀ h' tk e d, XMade s.heap h' e C d v → R (.ok (.ret (.ref e))) { s with heap := h', toks := tk }) : codeAny (model prog w) A (.call (.ref C) ⟨[v], []⟩) R s := by
  obtain ⟨nm, q, N, bs, bm, sn, sub, ab, col, dd, k0, k1, k2, k3, k5, hC, hbm⟩ := T.cls
  obtain ⟨hp, g, dr, tk, os⟩ := s
  have k : ∀ b o, hp.get? b = some o → ((hp.push (kdv_tup [v])).push (HandSPX.excO C hp.objs.size)).get? b = some o := fun b o e => Heap.get?_push_of_some _ (Heap.get?_push_of_some _ e)
  have hget : ((hp.push (kdv_tup [v])).push (HandSPX.excO C hp.objs.size)).get? (hp.objs.size + 1) = some (HandSPX.excO C hp.objs.size) := by heap_get
  have hnx : K.lookup (hp.objs.size + 1) = none := by
    cases e : K.lookup (hp.objs.size + 1) with
    | none => rfl
    | some o => exact absurd (Nat.lt_of_succ_lt (Heap.lt_size (X _ _ e))) (Nat.lt_irrefl _)
  refine call_own F.excBase_ValueError (fun Y => refsVE_contains Y bm hbm) (X _ _ hC) (looks_findIn X T.iC) (fun self => bind_fn X self T.tC) (one_sz v) ?_
  obtain ⟨mb, hb1, hb2⟩ := hbl
  refine x_init (s := ⟨(hp.push (kdv_tup [v])).push (HandSPX.excO C hp.objs.size), g, dr, tk, os⟩) T (X.keeps k) (hg.keeps k) ⟨mb, hb1.keeps k, hb2⟩ (hlim.keeps k) hget hnx ?_ fun h' tk' dx ⟨k', ⟨t1, hx⟩, dn, dne, hns⟩ => ?_
  · show A.depth + 1 < recursionLimit
    exact hroom
  · have old : ∀ b o, hp.get? b = some o → h'.get? b = some o := fun b o e => k' b o (Nat.ne_of_lt (Nat.lt_succ_of_lt (Heap.lt_size e))) (k b o e)
    have z : hp.objs.size + 1 + 1 ≤ dx := by
      first
        | (simpa only [Heap.size_push] using dn)
        | exact dn
        | (have q := dn; rw [Heap.size_push, Heap.size_push] at q; exact q)
    exact ⟨rfl, hq h' tk' (hp.objs.size + 1) dx ⟨old, Nat.le_succ _, ⟨_, _, hx, rfl, rfl, rfl, rfl, rfl⟩, Nat.le_trans (Nat.le_trans (Nat.le_succ _) (Nat.le_succ _)) z, dne, hns⟩⟩
end
end FoX_number
namespace L2
open PySem PySem.Spec PyProof.Rows
theorem relO_number {v : V} {v' : Value} (r : RelV v v') (f : Str) : RelO (List.lookup f [((Str.ofString "number"), v)]) (if f = (Str.ofString "number") then some v' else none) := by
  by_cases hw : f = (Str.ofString "number")
  · subst hw
    rw [if_pos rfl]
    have q : List.lookup (Str.ofString "number") [((Str.ofString "number"), v)] = some v := by simp [List.lookup]
    rw [q]
    exact r
  · rw [if_neg hw]
    have qw : (f == (Str.ofString "number")) = false := by simpa using hw
    have q2 : List.lookup f [((Str.ofString "number"), v)] = none := by simp [List.lookup, qw]
    rw [q2]
    trivial
section
variable {X : Cx} {C fI : Addr} {nm : Str}
/-- Name(e) -/
def tMkX_number (C : Addr) (ta : TA) : St → Hp → XK → Prop := fun σ H Q => ta σ H fun vs H1 => ∃ v, vs = [v] ∧ ∀ d, H1 d = none → Q (.ref C) (some d) (upd H1 d (.xd [((Str.ofString "number"), v)]))
theorem pmkN_number {a : Expr} {ta : TA} {p pos : Pos} {k : Nat} (T : FoX_number.XTxt X.prog X.K X.mg C fI) (gC : X.mg nm = some (.ref C)) (hr : Room k X.A) (ha : PA X [a] ta) (hg : Gl X nm) (hdb : (nm == ("__debug__" : Str)) = false)
    (he : starEach (a :: []) X.env = (false, eval a X.env) :: starEach [] X.env := by rfl) (hpl : (backTo pos (starEach [] X.env)).any (·.1) = false := by rfl) :
    L2N.PMk X (.Call (.Name nm p) [a] [] pos) (tMkX_number C ta) := by
  intro pins s σ H Q I h
  refine wpAny_Call_Name_kw (ld_glob I hg gC ?_ hdb)
  refine PySem.W.callWith_K (h₀ := X.base) I.ok.mod.kin T.kC (thn (ha.run pos pins s σ H _ I h) fun us s1 hh => ?_) he hpl
  obtain ⟨vs, H1, I1, r1, v, ev, q1⟩ := hh
  subst ev
  refine ⟨I1.kIn, ?_⟩
  cases r1 with
  | cons rv rn =>
    rename_i v' us'
    cases rn
    show wpAny _ _ (call (.ref C) [v']) _ _ _
    have hlim := I1.nolimit
    have hgl : s1.heap.Ns mainGlobals X.mg := I1.mod.glob.keeps I1.bk
    obtain ⟨mb, hb1, hb2⟩ := I1.mod.blt
    have hbl : ∃ mb, s1.heap.Ns builtinsNs mb ∧ ∀ y : Str, y ≠ "__name__" → mb y = bootBuiltins y := ⟨mb, hb1.keeps I1.bk, hb2⟩
    obtain ⟨hp, g, dr, tk, os⟩ := s1
    refine wpAny_call (FoX_number.x_made T I1.kIn hgl hbl hlim (by have := hr.dp; omega) fun h' tk' e d M => ?_)
    show L2N.MkP X pins σ Q (.ref e) ⟨h', g, dr, tk', os⟩
    obtain ⟨oe, fv, hoe, hc, hd, hdat, h1, h2⟩ := M.obj
    have hns := M.ns
    obtain ⟨G', g1, g2⟩ := restrict h' fun b => decide (b ≠ e)
    have gk : ∀ b, b ≠ e → G'.get? b = h'.get? b := fun b hb => g1 b (decide_eq_true hb)
    have ge : G'.get? e = none := g2 e (by simp)
    have old : ∀ b o, hp.get? b = some o → G'.get? b = some o := fun b o q => (gk b (Nat.ne_of_lt (Nat.lt_of_lt_of_le (Heap.lt_size q) M.new))).trans (M.keep b o q)
    have ob : ObjOk X.prog X.w (upd H1 d (.xd [((Str.ofString "number"), v)])) G' d (.xd [((Str.ofString "number"), v)]) :=
      ⟨_, hns.at (fun o q => (gk d M.dne).trans q), fun f => relO_number rv f⟩
    have J : Inv X pins σ (upd H1 d (.xd [((Str.ofString "number"), v)])) ⟨G', g, dr, tk', os⟩ := I1.laid (t' := tk') old M.dbig ob
    refine ⟨e, oe, fv, ⟨G', g, dr, tk', os⟩, _, .ref C, some d, rfl, J, fun b o q => ?_, ge, hoe, ⟨hc, hd, fun vs e => by rw [hdat] at e; cases e; exact h2⟩, hdat, h1, ?_, rfl, I1.bare, raises_own T.exC T.tyC, q1 d (I1.hok.fresh M.dbig)⟩
    · by_cases hb : b = e
      · have q' : G'.get? b = some o := q
        rw [hb, ge] at q'; cases q'
      · exact (gk b hb).symm.trans q
    · rw [upd_ne (Ne.symm M.dne)]
      exact I1.hok.fresh M.new
theorem pmk_number {a : Expr} {ta : TA} {p pos : Pos} {k : Nat} (T : FoX_number.XTxt X.prog X.K X.mg C fI) (gC : X.mg nm = some (.ref C)) (hr : Room k X.A) (ha : PA X [a] ta) (hg : Gl X nm) (hdb : (nm == ("__debug__" : Str)) = false)
    (he : starEach (a :: []) X.env = (false, eval a X.env) :: starEach [] X.env := by rfl) (hpl : (backTo pos (starEach [] X.env)).any (·.1) = false := by rfl) :
    PMk X (.Call (.Name nm p) [a] [] pos) (tMkX_number C ta) := by
  intro pins s σ H Q I h
  refine wpAny_mono (pmkN_number T gC hr ha hg hdb he hpl pins s σ H Q I h) (fun u s' z => ?_) fun _ _ x => x
  obtain ⟨e, oe, vs, sI, H', cls, d, r1, r2, r3, r4, r5, r6, r7⟩ := z
  exact ⟨e, oe, vs, sI, H', cls, d, r1, r2, r3, r4, r5, r6.zc, r7⟩
/-- raise Name(e) -/
def tRaiseX_number (C : Addr) (W : WX) (ta : TA) : TS := fun _ σ H => tMkX_number C ta σ H fun cls d H' => W cls d σ H'
theorem ps_raise_number {a : Expr} {ta : TA} {W : WX} {p pos pos2 : Pos} {k : Nat} (hc : X.calm = true) (T : FoX_number.XTxt X.prog X.K X.mg C fI) (gC : X.mg nm = some (.ref C)) (hr : Room k X.A) (tk : Takes X W) (ha : PA X [a] ta) (hg : Gl X nm := by rfl) (hdb : (nm == ("__debug__" : Str)) = false := by decide)
    (he : starEach (a :: []) X.env = (false, eval a X.env) :: starEach [] X.env := by rfl) (hpl : (backTo pos (starEach [] X.env)).any (·.1) = false := by rfl) :
    PS X (.Raise (some (.Call (.Name nm p) [a] [] pos)) none pos2) (tRaiseX_number C W ta) := ps_raise hc tk (pmk_number T gC hr ha hg hdb he hpl)
theorem ps_raiseN_number {a : Expr} {ta : TA} {W : WX} {p pos pos2 : Pos} {k : Nat} (hc : X.calm = true) (T : FoX_number.XTxt X.prog X.K X.mg C fI) (gC : X.mg nm = some (.ref C)) (hr : Room k X.A) (tk : L2N.Takes X W) (ha : PA X [a] ta) (hg : Gl X nm := by rfl) (hdb : (nm == ("__debug__" : Str)) = false := by decide)
    (he : starEach (a :: []) X.env = (false, eval a X.env) :: starEach [] X.env := by rfl) (hpl : (backTo pos (starEach [] X.env)).any (·.1) = false := by rfl) :
    PS X (.Raise (some (.Call (.Name nm p) [a] [] pos)) none pos2) (tRaiseX_number C W ta) := L2N.ps_raise hc tk (pmkN_number T gC hr ha hg hdb he hpl)
/-- e.field, e the error that the suite holds (at a; its class cls, its dict d) -/
def tByX_number (C : Addr) (a : Addr) (cls : Value) (d : Option Addr) (te : TE) : TE := fun σ H Q => te σ H fun x H1 => x = .ref a ∧ cls = .ref C ∧ ∃ (dd : Addr) (v : V), d = some dd ∧ H1 dd = some (.xd [((Str.ofString "number"), v)]) ∧ Q v H1
theorem pe_by_number {a : Addr} {oe : Obj} {cls : Value} {d : Option Addr} {pn : List (Addr × Obj)} {e : Expr} {te : TE} {pos : Pos} (T : FoX_number.XTxt X.prog X.K X.mg C fI) (hz : Zc cls d oe) (hf : ∃ vs, oe.data = .fields vs) (he : PE (X.suite a ((a, oe) :: pn)) e te)
    (hb : attributeBase e (Str.ofString "number") X.env (eval e X.env) = eval e X.env := by rfl) :
    PE (X.suite a ((a, oe) :: pn)) (.Attribute e (Str.ofString "number") pos) (tByX_number C a cls d te) := by
  refine ⟨fun pins s σ H Q I h => ?_⟩
  refine attr_of hb (thn (he.run pins s σ H _ I h) fun u s1 hh => ?_)
  obtain ⟨x, H1, I1, rx, ex, ec, dd, v, ed, ea, q⟩ := hh
  subst ex
  obtain rfl : u = Value.ref a := rx
  subst ec
  subst ed
  obtain ⟨ha, _⟩ := I1.pin (a, oe) (List.mem_append_left _ List.mem_cons_self)
  obtain ⟨vs, hd⟩ := hf
  have hx : ObjOk X.prog X.w H1 s1.heap dd (.xd [((Str.ofString "number"), v)]) := I1.hok dd _ ea
  obtain ⟨mA, hns, hr⟩ := hx
  obtain ⟨od, ho, hl⟩ := lookIn_ns hns
  have l : List.lookup (Str.ofString "number") [((Str.ofString "number"), v)] = some v := by simp [List.lookup]
  obtain ⟨u, hu, ru⟩ := RelO.some_of (v := v) (o := mA (Str.ofString "number")) (by rw [← l]; exact hr (Str.ofString "number"))
  have J : PySem.W.InstAt s1.heap a oe C (some od) := ⟨ha, hz.1, by unfold PySem.W.notCls; rw [hd] <;> rfl, by rw [hz.2]; exact ho⟩
  exact HandSPX.exc_get I1.kIn J T.ga T.gg T.exC (PySem.W.findObj_own T.hdC T.noN rfl (by rw [hl, hu])) (handed_of ru) ⟨v, H1, I1.tok _, ru, q⟩
end
end L2
set_option linter.all false
namespace Fo
/-- the sum of the first n floors -/
def fS (a b m : Int) : Nat → Int
  | 0 => 0
  | n + 1 => fS a b m n + (a * n + b) / m
theorem fS_succ (a b m : Int) (n : Nat) : fS a b m (n + 1) = fS a b m n + (a * n + b) / m := rfl
/-- the first numbers added up -/
def tri : Nat → Int
  | 0 => 0
  | n + 1 => tri n + n
theorem tri2 (n : Nat) : 2 * tri n = (n : Int) * ((n : Int) - 1) := by
  induction n with
  | zero => rfl
  | succ n ih =>
    show 2 * (tri n + (n : Int)) = _
    have : ((n + 1 : Nat) : Int) = (n : Int) + 1 := by omega
    rw [this]
    grind
theorem tri_eq (n : Nat) : (n : Int) * ((n : Int) - 1) / 2 = tri n := by
  rw [← tri2]
  omega
theorem fS_top (a b m t : Int) (hm : 0 < m) (n : Nat) : fS (a + m * t) b m n = fS a b m n + t * tri n := by
  induction n with
  | zero =>
    show (0 : Int) = 0 + t * 0
    omega
  | succ n ih =>
    rw [fS_succ, fS_succ, ih]
    have e : (a + m * t) * (n : Int) + b = (a * n + b) + (t * n) * m := by grind
    rw [e, Int.add_mul_ediv_right _ _ (by omega)]
    show _ = _ + t * (tri n + (n : Int))
    grind
theorem fS_add (a b m t : Int) (hm : 0 < m) (n : Nat) : fS a (b + m * t) m n = fS a b m n + t * n := by
  induction n with
  | zero =>
    show (0 : Int) = 0 + t * 0
    omega
  | succ n ih =>
    rw [fS_succ, fS_succ, ih]
    have e : a * (n : Int) + (b + m * t) = (a * n + b) + t * m := by grind
    rw [e, Int.add_mul_ediv_right _ _ (by omega)]
    have : ((n + 1 : Nat) : Int) = (n : Int) + 1 := by omega
    rw [this]
    grind
/-- the first one peeled off -/
theorem fS_peel (a b m : Int) (n : Nat) : fS a (b - a) m (n + 1) = (b - a) / m + fS a b m n := by
  induction n with
  | zero =>
    rw [fS_succ]
    show (0 : Int) + (a * ((0 : Nat) : Int) + (b - a)) / m = _ + 0
    have : a * ((0 : Nat) : Int) + (b - a) = b - a := by simp
    rw [this]
    omega
  | succ n ih =>
    rw [fS_succ, ih, fS_succ]
    have : a * ((n + 1 : Nat) : Int) + (b - a) = a * n + b := by
      have : ((n + 1 : Nat) : Int) = (n : Int) + 1 := by omega
      rw [this]
      grind
    rw [this]
    omega
/-- put together -/
theorem fS_cat (a b m : Int) (p q : Nat) : fS a b m (p + q) = fS a b m p + fS a (b + a * p) m q := by
  induction q with
  | zero =>
    show fS a b m p = _ + 0
    omega
  | succ q ih =>
    rw [Nat.add_succ, fS_succ, fS_succ, ih]
    have : a * ((p + q : Nat) : Int) + b = a * q + (b + a * p) := by
      have : ((p + q : Nat) : Int) = (p : Int) + q := by omega
      rw [this]
      grind
    rw [this]
    omega
/-- small ones are none -/
theorem fS_small (a b m : Int) (a0 : 0 ≤ a) (b0 : 0 ≤ b) (n : Nat) (h : a * n + b < m) : fS a b m n = 0 := by
  induction n with
  | zero => rfl
  | succ n ih =>
    have e : ((n + 1 : Nat) : Int) = (n : Int) + 1 := by omega
    rw [e, Int.mul_add] at h
    have h0 : 0 ≤ a * (n : Int) := Int.mul_nonneg a0 (by omega)
    rw [fS_succ, ih (by omega), Int.ediv_eq_zero_of_lt (by omega) (by omega)]
    rfl
/-- the turn: rows and columns -/
theorem fS_turn (a b m : Int) (a0 : 0 < a) (am : a < m) (b0 : 0 ≤ b) (bm : b < m) (n : Nat) : fS a b m n = fS m ((a * n + b) % m) a ((a * n + b) / m).toNat := by
  have m0 : 0 < m := by omega
  induction n with
  | zero =>
    have : (a * ((0 : Nat) : Int) + b) / m = 0 := by
      have : a * ((0 : Nat) : Int) + b = b := by simp
      rw [this, Int.ediv_eq_zero_of_lt b0 bm]
    rw [this]
    rfl
  | succ n ih =>
    rw [fS_succ, ih]
    have e : a * ((n + 1 : Nat) : Int) + b = (a * n + b) + a := by
      have : ((n + 1 : Nat) : Int) = (n : Int) + 1 := by omega
      rw [this]
      grind
    have hz : 0 ≤ a * (n : Int) := Int.mul_nonneg (by omega) (by omega)
    rw [e]
    clear e ih
    obtain ⟨z, ez⟩ : ∃ z, z = a * (n : Int) + b := ⟨_, rfl⟩
    rw [← ez]
    have z0 : 0 ≤ z := by omega
    have q0 : 0 ≤ z / m := Int.ediv_nonneg z0 (by omega)
    have r0 : 0 ≤ z % m := Int.emod_nonneg z (by omega)
    have r1 : z % m < m := Int.emod_lt_of_pos z m0
    have zz : m * (z / m) + z % m = z := Int.mul_ediv_add_emod z m
    generalize z / m = q at *
    generalize z % m = r at *
    by_cases h : r + a < m
    · have e1 : (z + a) / m = q := by
        rw [← zz, show m * q + r + a = (r + a) + m * q by omega, Int.add_mul_ediv_left _ _ (by omega), Int.ediv_eq_zero_of_lt (by omega) h]
        omega
      have e2 : (z + a) % m = r + a := by
        rw [← zz, show m * q + r + a = (r + a) + m * q by omega, Int.add_mul_emod_self_left, Int.emod_eq_of_lt (by omega) h]
      rw [e1, e2, show r + a = r + a * 1 by omega, fS_add _ _ _ _ a0]
      omega
    · have e1 : (z + a) / m = q + 1 := by
        rw [← zz, show m * q + r + a = (r + a - m) + m * (q + 1) by rw [Int.mul_add]; omega, Int.add_mul_ediv_left _ _ (by omega), Int.ediv_eq_zero_of_lt (by omega) (by omega)]
        omega
      have e2 : (z + a) % m = r + a - m := by
        rw [← zz, show m * q + r + a = (r + a - m) + m * (q + 1) by rw [Int.mul_add]; omega, Int.add_mul_emod_self_left, Int.emod_eq_of_lt (by omega) (by omega)]
      rw [e1, e2, show (q + 1).toNat = q.toNat + 1 by omega, fS_peel, show r + a = r + a * 1 by omega, fS_add _ _ _ _ a0, show r + a * 1 - m = (r + a - m) by omega]
      have e3 : (r + a - m) / a = 0 := Int.ediv_eq_zero_of_lt (by omega) (by omega)
      rw [e3]
      omega
/-- one round of the loop -/
theorem fS_round (a b m : Int) (m0 : 0 < m) (n : Nat) : fS a b m n = (tri n * (a / m) + n * (b / m)) + fS (a % m) (b % m) m n := by
  have h1 := fS_top (a % m) b m (a / m) m0 n
  have h2 := fS_add (a % m) (b % m) m (b / m) m0 n
  rw [show a % m + m * (a / m) = a from Int.emod_add_mul_ediv a m] at h1
  rw [show b % m + m * (b / m) = b from Int.emod_add_mul_ediv b m] at h2
  rw [h1, h2]
  grind
theorem fS_end (a b m : Int) (m0 : 0 < m) (n : Nat) (h : a % m * n + b % m < m) : fS a b m n = (n : Int) * ((n : Int) - 1) / 2 * (a / m) + n * (b / m) := by
  rw [fS_round a b m m0 n, fS_small _ _ _ (Int.emod_nonneg _ (by omega)) (Int.emod_nonneg _ (by omega)) n h, tri_eq]
  omega
theorem fS_next (a b m : Int) (m0 : 0 < m) (n : Nat) (h : ¬ a % m * n + b % m < m) : 0 < a % m ∧ fS a b m n = ((n : Int) * ((n : Int) - 1) / 2 * (a / m) + n * (b / m)) + fS m ((a % m * n + b % m) % m) (a % m) ((a % m * n + b % m) / m).toNat := by
  have b0 : 0 ≤ b % m := Int.emod_nonneg _ (by omega)
  have b1 : b % m < m := Int.emod_lt_of_pos _ m0
  have a1 : a % m < m := Int.emod_lt_of_pos _ m0
  have a0 : 0 < a % m := by
    have : 0 ≤ a % m := Int.emod_nonneg _ (by omega)
    rcases Int.lt_or_eq_of_le this with g | g
    · exact g
    · rw [← g, Int.zero_mul] at h
      omega
  exact ⟨a0, by rw [fS_round a b m m0 n, fS_turn _ _ _ a0 a1 b0 b1 n, tri_eq]⟩
/-- how many there are left -/
theorem fS_less (a b m : Int) (m0 : 0 < m) (n : Nat) : 0 ≤ (a % m * n + b % m) / m ∧ (a % m * n + b % m) / m ≤ n := by
  have b0 : 0 ≤ b % m := Int.emod_nonneg _ (by omega)
  have b1 : b % m < m := Int.emod_lt_of_pos _ m0
  have a0 : 0 ≤ a % m := Int.emod_nonneg _ (by omega)
  have a1 : a % m < m := Int.emod_lt_of_pos _ m0
  have h : 0 ≤ a % m * (n : Int) := Int.mul_nonneg a0 (by omega)
  refine ⟨Int.ediv_nonneg (by omega) (by omega), ?_⟩
  have h2 : a % m * (n : Int) ≤ m * n := Int.mul_le_mul_of_nonneg_right (by omega) (by omega)
  refine Int.le_of_lt_add_one (Int.ediv_lt_of_lt_mul m0 ?_)
  rw [Int.add_mul, Int.one_mul, Int.mul_comm (n : Int) m]
  omega
theorem fS_up (a b m : Int) (m0 : 0 < m) (n : Nat) : fS (a + m) b m n = fS a b m n + (n : Int) * ((n : Int) - 1) / 2 := by
  have := fS_top a b m 1 m0 n
  rw [Int.mul_one, Int.one_mul] at this
  rw [this, tri_eq]
theorem fS_down (a b m : Int) (m0 : 0 < m) (n : Nat) : fS a (b - m) m n = fS a b m n - n := by
  have := fS_add a (b - m) m 1 m0 n
  rw [show b - m + m * 1 = b by omega] at this
  omega
/-- the list of them -/
theorem fS_sum (a b m : Int) (ns : List Int) (h : ∀ (i : Nat) (x : Int), ns[i]? = some x → x = (a * i + b) / m) : ns.sum = fS a b m ns.length := by
  suffices ∀ n, n ≤ ns.length → (ns.take n).sum = fS a b m n by
    have := this ns.length (Nat.le_refl _)
    rwa [List.take_length] at this
  intro n
  induction n with
  | zero => intro _; rfl
  | succ n ih =>
    intro hn
    rw [List.take_succ_eq_append_getElem (by omega), List.sum_append, ih (by omega), h n _ (List.getElem?_eq_getElem (by omega))]
    rw [fS_succ]
    simp
end Fo

set_option Elab.async false
set_option linter.all false
set_option maxRecDepth 100000
set_option maxHeartbeats 2000000
namespace Fo
open PySem L2
/-! ### the text by places -/
def top (i : Nat) : Stmt := PySem.Challenge.pw_filledonce_k64_sums_of_floors.main.body.getD i (.Pass ⟨0, 0, 0, 0⟩)
abbrev sWhole : Stmt := top 5
abbrev sFloor : Stmt := top 7
abbrev sSumF : Stmt := top 8
theorem same_new {H : Hp} {p : Addr} {o : HO} (h : H p = none) : Same H (upd H p o) := fun a u e => by
  rw [upd_ne (ne_of_none e h)]
  exact e
def Sm (n : Nat) (x : Int) : Prop := x.natAbs < 2 ^ n
theorem Sm.up {n m : Nat} {x : Int} (hx : Sm n x) (h : n ≤ m) : Sm m x := Nat.lt_of_lt_of_le hx (Nat.pow_le_pow_right (by decide) h)
theorem Sm.lt {n : Nat} {x y : Int} (hy : Sm n y) (h0 : 0 ≤ x) (h1 : x ≤ y) : Sm n x := Nat.lt_of_le_of_lt (by omega) hy
theorem Sm.add {n : Nat} {x y : Int} (hx : Sm n x) (hy : Sm n y) : Sm (n + 1) (x + y) := by
  unfold Sm at *
  rw [Nat.pow_succ]
  omega
theorem Sm.sub {n : Nat} {x y : Int} (hx : Sm n x) (hy : Sm n y) : Sm (n + 1) (x - y) := by
  unfold Sm at *
  rw [Nat.pow_succ]
  omega
theorem Sm.mul {n m : Nat} {x y : Int} (hx : Sm n x) (hy : Sm m y) : Sm (n + m) (x * y) := wide_lt hx hy
theorem Sm.div {n : Nat} {x : Int} (y : Int) (hx : Sm n x) : Sm n (x / y) := Nat.lt_of_le_of_lt (Int.natAbs_ediv_le_natAbs x y) hx
theorem Sm.cm {n m : Nat} {x y : Int} (hx : Sm n x) (hy : Sm m y) (h0 : 0 < n) (h1 : 0 < m) (h : n + m ≤ 1000000) : CMulW x y := wide_mul hx hy h0 h1 h
theorem Sm.cd {n : Nat} {x y : Int} (hy : Sm n y) (h : 0 < y) (h0 : 0 < n) (h1 : n ≤ 9000) : CDivW x y := wide_div h hy h0 h1
theorem Sm.one {n : Nat} (h : 0 < n) : Sm n 1 := by
  unfold Sm
  have : 2 ^ 1 ≤ 2 ^ n := Nat.pow_le_pow_right (by decide) h
  show 1 < 2 ^ n
  omega
/-! ### is_whole -/
/-- what is asked: one of some kinds -/
inductive Any1 (H : Hp) : V → Prop
  | non : Any1 H .non
  | bl (b : Bool) : Any1 H (.bl b)
  | int (i : Int) : Any1 H (.int i)
  | str (z : Str) : Any1 H (.str z)
  | tup {a : Addr} {xs : List V} (h : H a = some (.tup xs)) : Any1 H (.ref a)
theorem Any1.ex {H H' : Hp} {v : V} (e : Same H H') (h : Any1 H v) : Any1 H' v := by
  cases h with
  | non => exact .non
  | bl b => exact .bl b
  | int i => exact .int i
  | str z => exact .str z
  | tup h => exact .tup (e _ _ h)
def isW : V → Bool
  | .int _ => true
  | _ => false
def spWhole : Sp := fun vs H Q _ => ∃ v : V, vs = [v] ∧ Any1 H v ∧ Q (.bl (isW v)) H
structure TxtW (mg : Str → Option Value) : Prop where
  isi : mg "isinstance" = none
  int : mg "int" = none
  bool : mg "bool" = none
section
variable {P : Program} {w : World} {K : PySem.W.Frag} {mg : Str → Option Value} {base : Heap}
theorem scWhole : FnScope ["value"] ["value"] (defScope sWhole) := ⟨rfl, rfl, rfl, by decide +kernel, rfl, by decide +kernel, by decide +kernel⟩
theorem ok_whole {f : Addr} {fd : FuncData} (F : Fun K "is_whole" "is_whole" sWhole f fd) (T : TxtW mg) : FnOk P w K mg base CX0 1 f fd ["value"] spWhole := by
  refine F.ok scWhole (fun vs H Q E h => ?_) (fun cdv A outer s H vs Q E hr h => ?_)
  · obtain ⟨v, rfl, _⟩ := h
    rfl
  · obtain ⟨v, rfl, hv, k⟩ := h
    refine ⟨_, pss_one (ps_ret (pe_and (pe_callB call_isi (by rfl) T.isi (by decide +kernel) (pa_cons (pv 0) (pa_cons (pe_bltn (v := .ty "int") (by rfl) T.int (by decide +kernel) rfl) pa_nil)))
      (pe_one (pe_not (pe_callB call_isi (by rfl) T.isi (by decide +kernel) (pa_cons (pv 0) (pa_cons (pe_bltn (v := .ty "bool") (by rfl) T.bool (by decide +kernel) rfl) pa_nil))))))), ?_⟩
    cases hv with
    | non =>
      refine ⟨_, rfl, _, _, _, _, false, rfl, .ty _, .base .non, kit_ty (by decide +kernel), false, rfl, ?_⟩
      exact iteF k
    | bl b =>
      refine ⟨_, rfl, _, _, _, _, true, rfl, .ty _, .base (.bl b), kit_ty (by decide +kernel), true, rfl, ?_⟩
      refine iteT ?_
      exact ⟨_, rfl, _, _, _, _, true, rfl, .ty _, .base (.bl b), kit_ty (by decide +kernel), true, rfl, k⟩
    | int i =>
      refine ⟨_, rfl, _, _, _, _, true, rfl, .ty _, .base (.int i), kit_ty (by decide +kernel), true, rfl, ?_⟩
      refine iteT ?_
      exact ⟨_, rfl, _, _, _, _, false, rfl, .ty _, .base (.int i), kit_ty (by decide +kernel), false, rfl, k⟩
    | str z =>
      refine ⟨_, rfl, _, _, _, _, false, rfl, .ty _, .base (.str z), kit_ty (by decide +kernel), false, rfl, ?_⟩
      exact iteF k
    | tup h =>
      refine ⟨_, rfl, _, _, _, _, false, rfl, .ty _, .base (.tup h), kit_ty (by decide +kernel), false, rfl, ?_⟩
      exact iteF k
/-! ### sum_of_floors -/
def spSumF : Sp := fun vs H Q _ => ∃ n a b m : Int, vs = [.int n, .int a, .int b, .int m] ∧ 0 ≤ n ∧ 0 < m ∧ Sm 200 n ∧ Sm 200 a ∧ Sm 200 b ∧ Sm 200 m ∧ ∀ H', Same H H' → Q (.int (fS a b m n.toNat)) H'
theorem scSumF : FnScope ["many", "top", "add", "bottom", "total", "rise", "start", "end"] ["many", "top", "add", "bottom"] (defScope sSumF) := ⟨rfl, rfl, rfl, by decide +kernel, rfl, by decide +kernel, by decide +kernel⟩
theorem ok_sumF {f : Addr} {fd : FuncData} (F : Fun K "sum_of_floors" "sum_of_floors" sSumF f fd) : FnOk P w K mg base CX0 1 f fd ["many", "top", "add", "bottom"] spSumF := by
  refine F.ok scSumF (fun vs H Q E h => ?_) (fun cdv A outer s H vs Q E hr h => ?_)
  · obtain ⟨n, a, b, m, rfl, _⟩ := h
    rfl
  · obtain ⟨n, a, b, m, rfl, n0, m0, sn, sa, sb, sm, k⟩ := h
    refine ⟨_, pss_cons (ps_set (i := 4) scSumF.nd rfl (Or.inl rfl) pe_int)
      (pss_one (ps_while PassesOwn.never (pt_val pe_bl)
        (pss_cons (ps_aug (i := 4) scSumF.nd rfl (.inl rfl) (pe_op op_add (pe_op op_mulW (pe_op op_fdiv (pe_op op_mulW (pv 0) (pe_op op_sub (pv 0) pe_int)) pe_int) (pe_op op_fdivW (pv 1) (pv 3))) (pe_op op_mulW (pv 0) (pe_op op_fdivW (pv 2) (pv 3)))) ip_add (.inl rfl))
        (pss_cons (ps_set (i := 5) scSumF.nd rfl (Or.inl rfl) (pe_op op_mod (pv 1) (pv 3)))
        (pss_cons (ps_set (i := 6) scSumF.nd rfl (Or.inl rfl) (pe_op op_mod (pv 2) (pv 3)))
        (pss_cons (ps_set (i := 7) scSumF.nd rfl (Or.inl rfl) (pe_op op_add (pe_op op_mulW (pv 5) (pv 0)) (pv 6)))
        (pss_cons (ps_if (pt_cmpR op_lt (pv 7) (pv 3) (nomark _)) (pss_one (ps_ret (pv 4))) pss_nil)
        (pss_one (ps_asg (pe_tup (pa_cons (pe_op op_fdivW (pv 7) (pv 3)) (pa_cons (pv 3) (pa_cons (pe_op op_mod (pv 7) (pv 3)) (pa_cons (pv 5) pa_nil)))))
          (pg_tup rfl (pgs_cons (pg_name (i := 0) scSumF.nd rfl (Or.inl rfl)) (pgs_cons (pg_name (i := 1) scSumF.nd rfl (Or.inl rfl)) (pgs_cons (pg_name (i := 2) scSumF.nd rfl (Or.inl rfl)) (pgs_cons (pg_name (i := 3) scSumF.nd rfl (Or.inl rfl)) pgs_nil)))))))))))))), ?_⟩
    refine ⟨fun q σ H' => ∃ (t n' a' b' m' : Int) (u5 u6 u7 : Option V), σ = [some (.int n'), some (.int a'), some (.int b'), some (.int m'), some (.int t), u5, u6, u7] ∧ Same H H' ∧ 0 ≤ n' ∧ 0 < m' ∧ Sm 200 n' ∧ Sm 200 a' ∧ Sm 200 b' ∧ Sm 200 m' ∧ fS a b m n.toNat = t + fS a' b' m' n'.toNat ∧ q = m'.toNat,
      ⟨m.toNat, 0, n, a, b, m, none, none, none, rfl, Same.refl _, n0, m0, sn, sa, sb, sm, by omega, rfl⟩, ?_⟩
    clear n0 m0 sn sa sb sm
    rintro q σ H1 ⟨t, n', a', b', m', u5, u6, u7, rfl, e1, n0, m0, sn, sa, sb, sm, hf, rfl⟩
    refine ⟨true, rfl, ?_⟩
    refine iteT ?_
    refine ⟨fun σ' H2 => ∃ (t2 n2 a2 b2 m2 : Int) (u5 u6 u7 : Option V), σ' = [some (.int n2), some (.int a2), some (.int b2), some (.int m2), some (.int t2), u5, u6, u7] ∧ Same H H2 ∧ 0 ≤ n2 ∧ 0 < m2 ∧ Sm 200 n2 ∧ Sm 200 a2 ∧ Sm 200 b2 ∧ Sm 200 m2 ∧ fS a b m n.toNat = t2 + fS a2 b2 m2 n2.toNat ∧ m2.toNat < m'.toNat, ?_, ?_⟩
    · rintro σ' H2 ⟨t2, n2, a2, b2, m2, u5, u6, u7, rfl, z1, z2, z3, z4, z5, z6, z7, z8, z9⟩
      exact ⟨_, z9, t2, n2, a2, b2, m2, u5, u6, u7, rfl, z1, z2, z3, z4, z5, z6, z7, z8, rfl⟩
    have hn : ((n'.toNat : Nat) : Int) = n' := Int.toNat_of_nonneg n0
    have r0 : 0 ≤ a' % m' := Int.emod_nonneg _ (by omega)
    have r1 : a' % m' < m' := Int.emod_lt_of_pos _ m0
    have sr : Sm 200 (a' % m') := sm.lt r0 (by omega)
    have s1 : Sm 201 (n' - 1) := sn.sub (Sm.one (by decide))
    have s2 : Sm 401 (n' * (n' - 1) / 2) := (sn.mul s1).div 2
    -- total
    refine ⟨_, rfl, _, rfl, _, rfl, _, _, rfl, rfl, _, _, rfl, rfl, sn.cm s1 (by decide) (by decide) (by decide), _, _, rfl, rfl, ⟨by decide, by decide⟩, ?_⟩
    refine ⟨_, rfl, _, rfl, _, _, rfl, rfl, sm.cd m0 (by decide) (by decide), _, _, rfl, rfl, s2.cm (sa.div m') (by decide) (by decide) (by decide), ?_⟩
    refine ⟨_, rfl, _, rfl, _, rfl, _, _, rfl, rfl, sm.cd m0 (by decide) (by decide), _, _, rfl, rfl, sn.cm (sb.div m') (by decide) (by decide) (by decide), _, _, rfl, rfl, ?_⟩
    refine ⟨_, _, rfl, rfl, ?_⟩
    -- rise, start, end
    refine ⟨_, rfl, _, rfl, _, _, rfl, rfl, m0, ?_⟩
    refine ⟨_, rfl, _, rfl, _, _, rfl, rfl, m0, ?_⟩
    refine ⟨_, rfl, _, rfl, _, _, rfl, rfl, sr.cm sn (by decide) (by decide) (by decide), _, rfl, _, _, rfl, rfl, ?_⟩
    refine ⟨_, rfl, _, rfl, _, _, rfl, rfl, _, rfl, ?_⟩
    refine ite2 (fun hi => ?_) (fun hi => ?_)
    · refine ⟨_, rfl, ?_⟩
      have hi' : a' % m' * n' + b' % m' < m' := by simpa using hi
      have := fS_end a' b' m' m0 n'.toNat (by rw [hn]; exact hi')
      rw [hn] at this
      rw [this] at hf
      have k1 := k H1 e1
      rw [hf] at k1
      exact k1
    · have hi' : ¬ a' % m' * n' + b' % m' < m' := by simpa using hi
      obtain ⟨g0, g1⟩ := fS_next a' b' m' m0 n'.toNat (by rw [hn]; exact hi')
      obtain ⟨l0, l1⟩ := fS_less a' b' m' m0 n'.toNat
      rw [hn] at g1 l0 l1
      refine ⟨_, rfl, _, rfl, _, _, rfl, rfl, sm.cd m0 (by decide) (by decide), _, rfl, _, rfl, _, rfl, _, _, rfl, rfl, m0, _, rfl, (by show 4 ≤ sizeLine; decide), fun tp ntp => ?_⟩
      refine ⟨tp, _, rfl, SqT.of upd_same, rfl, _, _, rfl, _, _, rfl, _, _, rfl, _, _, rfl, rfl, ?_⟩
      have q0 : 0 ≤ (a' % m' * n' + b' % m') % m' := Int.emod_nonneg _ (by omega)
      have q1 : (a' % m' * n' + b' % m') % m' < m' := Int.emod_lt_of_pos _ m0
      exact ⟨_, _, _, _, _, _, _, _, rfl, e1.trans (same_new ntp), l0, g0, sn.lt l0 l1, sm, sm.lt q0 (by omega), sr, by rw [hf, g1]; show _ = t + (n' * (n' - 1) / 2 * (a' / m') + n' * (b' / m')) + _; omega, by omega⟩
end
end Fo

set_option Elab.async false
set_option linter.all false
set_option maxRecDepth 100000
set_option maxHeartbeats 2000000
namespace Fo
open PySem L2
/-! ### the law's own helpers: the pool and its draws -/
abbrev sHand : Stmt := top 10
abbrev sDraw : Stmt := top 11
/-- what stands but at p stands -/
def But (p : Addr) (H H' : Hp) : Prop := ∀ b o, b ≠ p → H b = some o → H' b = some o
theorem But.refl (p : Addr) (H : Hp) : But p H H := fun _ _ _ h => h
theorem But.trans {p : Addr} {H H1 H2 : Hp} (a : But p H H1) (b : But p H1 H2) : But p H H2 := fun c o n h => b c o n (a c o n h)
theorem But.upd {p : Addr} {H : Hp} {o : HO} : But p H (upd H p o) := fun b u n h => by
  rw [upd_ne n]
  exact h
theorem But.of {p : Addr} {H H' : Hp} (e : Same H H') : But p H H' := fun b o _ h => e b o h
/-- from a heap that does not know p -/
theorem But.same {p : Addr} {H0 H H' : Hp} (h0 : H0 p = none) (e : Same H0 H) (b : But p H H') : Same H0 H' := fun c o h => b c o (ne_of_none h h0) (e c o h)
def PoolAt (p : Addr) (H : Hp) : Prop := ∃ i j : Int, H p = some (.lst [.int i, .int j]) ∧ 0 ≤ i ∧ 0 ≤ j ∧ j < 2147483647
theorem PoolAt.ex {p : Addr} {H H' : Hp} (e : Same H H') (h : PoolAt p H) : PoolAt p H' := by
  obtain ⟨i, j, h, r⟩ := h
  exact ⟨i, j, e _ _ h, r⟩
def spHand (K : PySem.W.Frag) : Sp := fun vs H Q _ => ∃ (a : Addr) (ns : List Int) (k : Int), vs = [.ref a, .int k] ∧ SqL K H a (ns.map V.int) ∧ ns.length ≤ 63 ∧ 0 ≤ k ∧ k ≤ 100 ∧
  ∀ p H', H p = none → Same H H' → PoolAt p H' → Q (.ref p) H'
def spDraw : Sp := fun vs H Q _ => ∃ (p : Addr) (m : Int), vs = [.ref p, .int m] ∧ PoolAt p H ∧ 0 < m ∧ m < 1073741824 ∧
  ∀ r H', 0 ≤ r → r < m → But p H H' → PoolAt p H' → Q (.int r) H'
structure TxtL (mg : Str → Option Value) : Prop where
  int : mg "int" = none
  range : mg "range" = none
  max : mg "max" = none
  min : mg "min" = none
  len : mg "len" = none
theorem head_int {ns : List Int} {lo hi : Option Int} : ∃ c : Int, atI (cutV (ns.map V.int) lo hi ++ [V.int 0]) 0 = some (V.int c) := by
  have e : cutV (ns.map V.int) lo hi = ((ns.drop (HT.sIx (ns.map V.int).length 0 lo)).take (HT.sIx (ns.map V.int).length (ns.map V.int).length hi - HT.sIx (ns.map V.int).length 0 lo)).map V.int := by
    unfold cutV
    rw [← List.map_drop, ← List.map_take]
  rw [e]
  cases (ns.drop (HT.sIx (ns.map V.int).length 0 lo)).take (HT.sIx (ns.map V.int).length (ns.map V.int).length hi - HT.sIx (ns.map V.int).length 0 lo) with
  | nil => exact ⟨0, atI_nat (j := 0) rfl⟩
  | cons c r => exact ⟨c, atI_nat (j := 0) rfl⟩
section
variable {P : Program} {w : World} {K : PySem.W.Frag} {mg : Str → Option Value} {base : Heap}
theorem scHand : FnScope ["script", "k", "cell", "seed"] ["script", "k"] (defScope sHand) := ⟨rfl, rfl, rfl, by decide +kernel, rfl, by decide +kernel, by decide +kernel⟩
theorem ok_hand {f : Addr} {fd : FuncData} (F : Fun K "_law_hand" "_law_hand" sHand f fd) (T : TxtL mg) : FnOk P w K mg base CX0 1 f fd ["script", "k"] (spHand K) := by
  refine F.ok scHand (fun vs H Q E h => ?_) (fun cdv A outer s H vs Q E hr h => ?_)
  · obtain ⟨a, ns, k, rfl, _⟩ := h
    rfl
  · obtain ⟨a, ns, k, rfl, hS, hl, k0, k1, q⟩ := h
    refine ⟨_, pss_cons (ps_set (i := 2) scHand.nd rfl (Or.inl rfl) (pe_ix ix_list (pe_op op_cat (pe_slice sl_list (pv 0) (po_some (pv 1)) (po_some (pe_op op_add (pv 1) pe_int))) (pe_lst (pa_cons pe_int pa_nil))) pe_int (fun _ _ => rfl)))
      (pss_cons (ps_set (i := 3) scHand.nd rfl (Or.inl rfl) (pe_op op_mod (pe_op op_mul (pe_op op_add (pe_op op_add (pe_op op_mod (pe_callTy call_int1 (by rfl) T.int (by decide +kernel) (pa_cons (pv 2) pa_nil)) pe_int) (pe_op op_mul pe_int (pv 1))) pe_int) pe_int) pe_int))
      (pss_one (ps_ret (pe_lst (pa_cons (pe_op op_mul (pe_callTy call_int1 (by rfl) T.int (by decide +kernel) (pa_cons (pe_cmpR op_ge (pv 2) (pe_op op_pow pe_int pe_int) (nomark _)) pa_nil)) (pv 2)) (pa_cons (pv 3) pa_nil)))))), ?_⟩
    obtain ⟨c, hc⟩ := head_int (ns := ns) (lo := some k) (hi := some (k + 1))
    -- cell
    refine ⟨_, rfl, _, rfl, _, rfl, _, rfl, _, _, rfl, rfl, _, rfl, a, _, rfl, hS, fun p1 n1 => ?_⟩
    refine ⟨(by show 1 ≤ sizeLine; decide), fun p2 n2 => ?_⟩
    have ne12 : p1 ≠ p2 := fun q => by rw [← q, upd_same] at n2; cases n2
    refine ⟨p1, p2, _, _, rfl, rfl, (by rw [upd_ne ne12, upd_same]), upd_same, ?_, fun p3 n3 => ?_⟩
    · have := cutV_length (ns.map V.int) (some k) (some (k + 1))
      rw [List.length_map] at this
      show _ + 1 ≤ sizeLine
      exact Nat.le_trans (Nat.add_le_add_right this 1) (Nat.le_trans (Nat.add_le_add_right hl 1) (by decide))
    refine ⟨p3, _, _, _, rfl, rfl, SqL.of upd_same, hc, ?_⟩
    have e1 : Same H (upd H p1 (.lst (cutV (ns.map V.int) (some k) (some (k + 1))))) := same_new n1
    have e2 := e1.trans (same_new (o := .lst [V.int 0]) n2)
    have e3 := e2.trans (same_new (o := .lst (cutV (ns.map V.int) (some k) (some (k + 1)) ++ [V.int 0])) n3)
    -- seed
    refine ⟨_, rfl, .inl ⟨_, rfl, ?_⟩⟩
    refine ⟨_, _, rfl, rfl, (by show (0 : Int) < 2147483647; decide), _, rfl, _, _, rfl, rfl, .inl ⟨by decide, by decide⟩, _, _, rfl, rfl, _, _, rfl, rfl, _, _, rfl, rfl, .inr ⟨by decide, by decide⟩, _, _, rfl, rfl, (by show (0 : Int) < 2147483629; decide), ?_⟩
    -- the list
    refine ⟨_, rfl, _, _, rfl, rfl, ⟨by decide, by decide, by decide⟩, _, _, rfl, rfl, .inr ⟨_, rfl, ?_⟩⟩
    refine ⟨_, rfl, _, _, rfl, rfl, .inl ?_, _, rfl, (by show 2 ≤ sizeLine; decide), fun p4 n4 => ?_⟩
    · split <;> exact ⟨by decide, by decide⟩
    · refine q p4 _ (Same.free e3 n4) (e3.trans (same_new n4)) ⟨_, _, upd_same, ?_, ?_, ?_⟩
      · by_cases hb : (10 : Int) ^ (18 : Int).toNat ≤ c
        · have h0 : (0 : Int) ≤ (10 : Int) ^ (18 : Int).toNat := by decide
          rw [decide_eq_true hb]
          show 0 ≤ 1 * c
          omega
        · rw [decide_eq_false hb]
          show 0 ≤ 0 * c
          omega
      · exact Int.emod_nonneg _ (by decide)
      · exact Int.lt_trans (Int.emod_lt_of_pos _ (by decide)) (by decide)
theorem scDraw : FnScope ["pool", "many", "found"] ["pool", "many"] (defScope sDraw) := ⟨rfl, rfl, rfl, by decide +kernel, rfl, by decide +kernel, by decide +kernel⟩
theorem ok_draw {f : Addr} {fd : FuncData} (F : Fun K "_law_draw" "_law_draw" sDraw f fd) (T : TxtL mg) : FnOk P w K mg base CX0 1 f fd ["pool", "many"] spDraw := by
  refine F.ok scDraw (fun vs H Q E h => ?_) (fun cdv A outer s H vs Q E hr h => ?_)
  · obtain ⟨p, m, rfl, _⟩ := h
    rfl
  · obtain ⟨p, m, rfl, ⟨i, j, hp, i0, j0, j1⟩, m0, m1, q⟩ := h
    refine ⟨_, pss_cons (ps_if (pt_cmpR op_gt (pe_ix ix_list (pv 0) pe_int (fun _ _ => rfl)) pe_int (nomark _))
        (pss_cons (ps_set (i := 2) scDraw.nd rfl (Or.inl rfl) (pe_op op_mod (pe_callTy call_int1 (by rfl) T.int (by decide +kernel) (pa_cons (pe_ix ix_list (pv 0) pe_int (fun _ _ => rfl)) pa_nil)) (pv 1)))
        (pss_cons (ps_asg (pe_op op_fdiv (pe_ix ix_list (pv 0) pe_int (fun _ _ => rfl)) (pv 1)) (pg_sub (pv 0) pe_int set_list))
        (pss_one (ps_ret (pv 2))))) pss_nil)
      (pss_cons (ps_asg (pe_op op_mod (pe_callTy call_int1 (by rfl) T.int (by decide +kernel) (pa_cons (pe_op op_add (pe_op op_mul (pe_ix ix_list (pv 0) pe_int (fun _ _ => rfl)) pe_int) pe_int) pa_nil)) pe_int) (pg_sub (pv 0) pe_int set_list))
      (pss_one (ps_ret (pe_op op_mod (pe_op op_fdiv (pe_op op_mod (pe_callTy call_int1 (by rfl) T.int (by decide +kernel) (pa_cons (pe_op op_mul (pe_ix ix_list (pv 0) pe_int (fun _ _ => rfl)) (pe_ix ix_list (pv 0) pe_int (fun _ _ => rfl))) pa_nil)) pe_int) pe_int) (pv 1))))), ?_⟩
    refine ⟨_, rfl, p, _, _, _, rfl, rfl, SqL.of hp, atI_nat (j := 0) rfl, _, _, rfl, rfl, _, rfl, ?_⟩
    refine ite2 (fun hi => ?_) (fun hi => ?_)
    · refine ⟨_, rfl, p, _, _, _, rfl, rfl, SqL.of hp, atI_nat (j := 0) rfl, .inl ⟨_, rfl, ?_⟩⟩
      refine ⟨_, rfl, _, _, rfl, rfl, m0, ?_⟩
      refine ⟨_, rfl, p, _, _, _, rfl, rfl, SqL.of hp, atI_nat (j := 0) rfl, _, rfl, _, _, rfl, rfl, ⟨m0, m1⟩, ?_⟩
      refine ⟨_, rfl, p, _, _, 0, rfl, rfl, hp, rfl, ?_⟩
      refine ⟨_, rfl, ?_⟩
      refine q _ _ (Int.emod_nonneg _ (by omega)) (Int.emod_lt_of_pos _ m0) But.upd ⟨_, _, upd_same, Int.ediv_nonneg i0 (by omega), j0, j1⟩
    · refine ⟨_, rfl, p, _, _, _, rfl, rfl, SqL.of hp, atI_nat (j := 1) rfl, _, _, rfl, rfl, .inr ⟨by decide, by decide⟩, _, _, rfl, rfl, .inl ⟨_, rfl, ?_⟩⟩
      refine ⟨_, _, rfl, rfl, (by show (0 : Int) < 2147483647; decide), ?_⟩
      refine ⟨_, rfl, p, _, _, 1, rfl, rfl, hp, rfl, ?_⟩
      have a0 : (0 : Int) ≤ (j * 48271 + 11) % 2147483647 := Int.emod_nonneg _ (by decide)
      have a1 : (j * 48271 + 11) % 2147483647 < (2147483647 : Int) := Int.emod_lt_of_pos _ (by decide)
      refine ⟨_, rfl, p, _, _, _, rfl, rfl, SqL.of upd_same, atI_nat (j := 1) rfl, _, rfl, p, _, _, _, rfl, rfl, SqL.of upd_same, atI_nat (j := 1) rfl, _, _, rfl, rfl, .inl ⟨by omega, by omega⟩, .inl ⟨_, rfl, ?_⟩⟩
      refine ⟨_, _, rfl, rfl, (by show (0 : Int) < 2147483629; decide), _, _, rfl, rfl, ⟨by decide, by decide⟩, _, rfl, _, _, rfl, rfl, m0, ?_⟩
      exact q _ _ (Int.emod_nonneg _ (by omega)) (Int.emod_lt_of_pos _ m0) But.upd ⟨_, _, upd_same, i0, a0, a1⟩
end
end Fo

set_option Elab.async false
set_option linter.all false
set_option maxRecDepth 100000
set_option maxHeartbeats 2000000
namespace Fo
open PySem L2
/-! ### what raises, and the law's own door to it -/
theorem SqT.ex {K : PySem.W.Frag} {H H' : Hp} {a : Addr} {xs : List V} (e : Same H H') (h : SqT K H a xs) : SqT K H' a xs := by
  rcases h with (h | ⟨o, h⟩) | h
  · exact .inl (.inl (e _ _ h))
  · exact .inl (.inr ⟨o, e _ _ h⟩)
  · exact .inr h
mutual
theorem Dp.ex {K : PySem.W.Frag} {H H' : Hp} (e : Same H H') : ∀ (d : PyData) (v : V), Dp K H v d → Dp K H' v d
  | .none, _, h => by
    cases h
    exact .non
  | .bool b, _, h => by
    cases h
    exact .bl b
  | .int i, _, h => by
    cases h
    exact .int i
  | .str x, _, h => by
    cases h
    exact .str x
  | .list ds, _, h => by
    cases h with
    | lst hs ha => exact .lst (e.seq hs) (DpAll.ex e ds _ ha)
  | .tuple ds, _, h => by
    cases h with
    | tup hs ha => exact .tup (SqT.ex e hs) (DpAll.ex e ds _ ha)
  | .dict _, _, h => by cases h
theorem DpAll.ex {K : PySem.W.Frag} {H H' : Hp} (e : Same H H') : ∀ (ds : List PyData) (vs : List V), DpAll K H vs ds → DpAll K H' vs ds
  | [], _, h => by
    cases h
    exact .nil
  | d :: ds, _, h => by
    cases h with
    | cons h1 h2 => exact .cons (Dp.ex e d _ h1) (DpAll.ex e ds _ h2)
end
structure ShowsOk (d : PyData) : Prop where
  s : d.showable = true
  nd : d.hasDict = false
  dp : d.depth ≤ 60
  z : d.shown.length ≤ sizeLine
/-- what a call lets out is taken, whatever the slots -/
def EW (W : WX) (n : Nat) : XK := fun cls d H => ∀ σ : L2.St, σ.length = n → W cls d σ H
theorem passesW {X : Cx} {W : WX} {n : Nat} (tk : Takes X W) (hn : X.N.length = n) : Passes (L2.CX X.prog X.w) X (EW W n) := fun _ σ _ _ e s' I c => tk e s' (XE.of_call I (fun _ _ _ h => h σ (I.len.trans hn)) c)
theorem ix_tupK {X : Cx} {K : PySem.W.Frag} (h : X.K = K) : IxR X (rIxT K) := by
  subst h
  exact ix_tup
theorem int_eqT {i j : Int} (h : i = j) : decide (V.int i = V.int j) = true := decide_eq_true (by rw [h])
theorem int_eqF {i j : Int} (h : i ≠ j) : decide (V.int i = V.int j) = false := decide_eq_false (fun q => h (by injection q))
end Fo

set_option Elab.async false
set_option linter.all false
set_option maxRecDepth 100000
set_option maxHeartbeats 2000000
namespace Fo
open PySem L2
abbrev sAny : Stmt := top 12
abbrev sRefused : Stmt := top 13
def XDn (v : V) : HO := .xd [((Str.ofString "number"), v)]
def spFloor : Sp := spSumF
def okL (lo : Int) : V → Bool
  | .int i => decide (lo ≤ i)
  | _ => false
/-- the first one that is none -/
inductive FirstBad : V → V → V → V → V → Prop
  | m {m t a b : V} (h : okL 0 m = false) : FirstBad m t a b m
  | t {n : Int} {t a b : V} (h0 : 0 ≤ n) (h : isW t = false) : FirstBad (.int n) t a b t
  | a {n i : Int} {a b : V} (h0 : 0 ≤ n) (h : isW a = false) : FirstBad (.int n) (.int i) a b a
  | b {n i j : Int} {b : V} (h0 : 0 ≤ n) (h : okL 1 b = false) : FirstBad (.int n) (.int i) (.int j) b b
def spFloorX (CM : Addr) : Sp := fun vs H _ E => ∃ m t a b v : V, vs = [m, t, a, b] ∧ Any1 H m ∧ Any1 H t ∧ Any1 H a ∧ Any1 H b ∧ FirstBad m t a b v ∧ ∀ d H', Same H H' → H' d = some (XDn v) → E (.ref CM) (some d) H'
def spAny : Sp := fun vs H Q _ => ∃ p : Addr, vs = [.ref p] ∧ PoolAt p H ∧ ∀ (r : Int) H', Sm 100 r → But p H H' → PoolAt p H' → Q (.int r) H'
def spRef (K : PySem.W.Frag) : Sp := fun vs H Q _ => ∃ (m t a b v : V) (d : PyData), vs = [m, t, a, b] ∧ Any1 H m ∧ Any1 H t ∧ Any1 H a ∧ Any1 H b ∧ FirstBad m t a b v ∧ ShowsOk d ∧ Dp K H v d ∧ ∀ H', Same H H' → Q (.str d.shown) H'
/-- what the top says of the errors -/
structure RTxt (P : Program) (K : PySem.W.Frag) (mg : Str → Option Value) (CM fMI CF CI : Addr) : Prop where
  xM : FoX_number.XTxt P K mg CM fMI
  gM : mg "InvalidNumber" = some (.ref CM)
  gF : mg "FillError" = some (.ref CF)
  gI : mg "InvalidPoint" = some (.ref CI)
  ex : PySem.W.exmOne K (.ref CM) (.ref CF) = some true
  is : XIsC K CM
  k1 : PySem.W.kitOne K (.ref CM) (.ref CM) = some true
  k2 : PySem.W.kitOne K (.ref CM) (.ref CI) = some false
  zR : mg "repr" = none
structure FDefs (K : PySem.W.Frag) (mg : Str → Option Value) (fW fS fF : Addr) (fdW fdS fdF : FuncData) : Prop where
  T : TxtW mg
  FW : Fun K "is_whole" "is_whole" sWhole fW fdW
  bW : Binds K fdW ["value"] []
  mW : mg "is_whole" = some (.ref fW)
  FS : Fun K "sum_of_floors" "sum_of_floors" sSumF fS fdS
  bS : Binds K fdS ["many", "top", "add", "bottom"] []
  mS : mg "sum_of_floors" = some (.ref fS)
  FF : Fun K "floor_sum" "floor_sum" sFloor fF fdF
  bF : Binds K fdF ["many", "top", "add", "bottom"] []
  mF : mg "floor_sum" = some (.ref fF)
section
variable {P : Program} {w : World} {K : PySem.W.Frag} {mg : Str → Option Value} {base : Heap} {fW fS fF CM fMI CF CI : Addr} {fdW fdS fdF : FuncData}
theorem scFloor : FnScope ["many", "top", "add", "bottom"] ["many", "top", "add", "bottom"] (defScope sFloor) := ⟨rfl, rfl, rfl, by decide +kernel, rfl, by decide +kernel, by decide +kernel⟩
theorem ok_floor (D : FDefs K mg fW fS fF fdW fdS fdF) : FnOk P w K mg base CX0 2 fF fdF ["many", "top", "add", "bottom"] spFloor := by
  have GW : FnOk P w K mg base CX0 1 fW fdW ["value"] spWhole := ok_whole D.FW D.T
  have GS : FnOk P w K mg base CX0 1 fS fdS ["many", "top", "add", "bottom"] spSumF := ok_sumF D.FS
  refine D.FF.ok scFloor (fun vs H Q E h => ?_) (fun cdv A outer s H vs Q E hr h => ?_)
  · obtain ⟨n, a, b, m, rfl, _⟩ := h
    rfl
  · obtain ⟨n, a, b, m, rfl, n0, m0, r⟩ := h
    refine ⟨_, pss_cons (ps_if (PW.pt (pw_or (pt_not (pt_val (pe_call GW hr rfl D.mW D.FW.kp D.bW .nil pass0 (pa_cons (pv 0) pa_nil)))) (pw_or1 (pt_cmpR op_lt (pv 0) pe_int (nomark _))))) (pss_one ps_never) pss_nil)
      (pss_cons (ps_if (pt_not (pt_val (pe_call GW hr rfl D.mW D.FW.kp D.bW .nil pass0 (pa_cons (pv 1) pa_nil)))) (pss_one ps_never) pss_nil)
      (pss_cons (ps_if (pt_not (pt_val (pe_call GW hr rfl D.mW D.FW.kp D.bW .nil pass0 (pa_cons (pv 2) pa_nil)))) (pss_one ps_never) pss_nil)
      (pss_cons (ps_if (PW.pt (pw_or (pt_not (pt_val (pe_call GW hr rfl D.mW D.FW.kp D.bW .nil pass0 (pa_cons (pv 3) pa_nil)))) (pw_or1 (pt_cmpR op_lt (pv 3) pe_int (nomark _))))) (pss_one ps_never) pss_nil)
      (pss_one (ps_ret (pe_call GS hr rfl D.mS D.FS.kp D.bS .nil pass0 (pa_cons (pv 0) (pa_cons (pv 1) (pa_cons (pv 2) (pa_cons (pv 3) pa_nil)))))))))), ?_⟩
    refine ⟨_, rfl, .int n, rfl, .int n, true, rfl, ?_⟩
    refine iteF ?_
    refine ⟨_, rfl, _, _, rfl, rfl, _, rfl, ?_⟩
    rw [decide_eq_false (show ¬ n < 0 by omega)]
    refine iteF ?_
    refine ⟨_, rfl, .int a, rfl, .int a, true, rfl, ?_⟩
    refine iteF ?_
    refine ⟨_, rfl, .int b, rfl, .int b, true, rfl, ?_⟩
    refine iteF ?_
    refine ⟨_, rfl, .int m, rfl, .int m, true, rfl, ?_⟩
    refine iteF ?_
    refine ⟨_, rfl, _, _, rfl, rfl, _, rfl, ?_⟩
    rw [decide_eq_false (show ¬ m < 1 by omega)]
    refine iteF ?_
    exact ⟨_, rfl, _, rfl, _, rfl, _, rfl, n, a, b, m, rfl, n0, m0, r⟩
theorem ok_floorX (D : FDefs K mg fW fS fF fdW fdS fdF) (R : RTxt P K mg CM fMI CF CI) : FnOk P w K mg base (L2.CX P w) 3 fF fdF ["many", "top", "add", "bottom"] (spFloorX CM) := by
  have GW : FnOk P w K mg base CX0 1 fW fdW ["value"] spWhole := ok_whole D.FW D.T
  refine D.FF.okX scFloor (fun vs H Q E h => ?_) (fun cdv A outer s H vs Q E hr2 h => ?_)
  · obtain ⟨m, t, a, b, v, rfl, _⟩ := h
    rfl
  · obtain ⟨m, t, a, b, v, rfl, am, at', aa, ab, fb, k⟩ := h
    have hr : Room 1 _ := hr2.mono (by decide)
    refine ⟨_, pss_cons (ps_if (PW.pt (pw_or (pt_not (pt_val (pe_call GW hr rfl D.mW D.FW.kp D.bW .nil pass0 (pa_cons (pv 0) pa_nil)))) (pw_or1 (pt_cmpR op_lt (pv 0) pe_int (nomark _))))) (pss_one (ps_raise_number (W := fun cls d _ H => E cls d H) rfl R.xM R.gM hr2 (takes_of rfl rfl rfl rfl) (pa_cons (pv 0) pa_nil))) pss_nil)
      (pss_cons (ps_if (pt_not (pt_val (pe_call GW hr rfl D.mW D.FW.kp D.bW .nil pass0 (pa_cons (pv 1) pa_nil)))) (pss_one (ps_raise_number (W := fun cls d _ H => E cls d H) rfl R.xM R.gM hr2 (takes_of rfl rfl rfl rfl) (pa_cons (pv 1) pa_nil))) pss_nil)
      (pss_cons (ps_if (pt_not (pt_val (pe_call GW hr rfl D.mW D.FW.kp D.bW .nil pass0 (pa_cons (pv 2) pa_nil)))) (pss_one (ps_raise_number (W := fun cls d _ H => E cls d H) rfl R.xM R.gM hr2 (takes_of rfl rfl rfl rfl) (pa_cons (pv 2) pa_nil))) pss_nil)
      (pss_cons (ps_if (PW.pt (pw_or (pt_not (pt_val (pe_call GW hr rfl D.mW D.FW.kp D.bW .nil pass0 (pa_cons (pv 3) pa_nil)))) (pw_or1 (pt_cmpR op_lt (pv 3) pe_int (nomark _))))) (pss_one (ps_raise_number (W := fun cls d _ H => E cls d H) rfl R.xM R.gM hr2 (takes_of rfl rfl rfl rfl) (pa_cons (pv 3) pa_nil))) pss_nil)
      (pss_one ps_never)))), ?_⟩
    have fin : ∀ d, H d = none → E (.ref CM) (some d) (upd H d (XDn v)) := fun d nd => k d _ (same_new nd) upd_same
    cases fb with
    | m h =>
      cases am with
      | non => exact ⟨_, rfl, _, rfl, .non, false, rfl, iteT ⟨_, rfl, _, rfl, fin⟩⟩
      | bl b => exact ⟨_, rfl, _, rfl, .bl b, false, rfl, iteT ⟨_, rfl, _, rfl, fin⟩⟩
      | str z => exact ⟨_, rfl, _, rfl, .str z, false, rfl, iteT ⟨_, rfl, _, rfl, fin⟩⟩
      | tup hh => exact ⟨_, rfl, _, rfl, .tup hh, false, rfl, iteT ⟨_, rfl, _, rfl, fin⟩⟩
      | int i =>
        refine ⟨_, rfl, _, rfl, .int i, true, rfl, ?_⟩
        refine iteF ?_
        refine ⟨_, rfl, _, _, rfl, rfl, _, rfl, ?_⟩
        have hi : ¬ 0 ≤ i := of_decide_eq_false h
        rw [decide_eq_true (show i < 0 by omega)]
        exact iteT ⟨_, rfl, _, rfl, fin⟩
    | @t n _ _ _ n0 h =>
      refine ⟨_, rfl, _, rfl, .int n, true, rfl, ?_⟩
      refine iteF ?_
      refine ⟨_, rfl, _, _, rfl, rfl, _, rfl, ?_⟩
      rw [decide_eq_false (show ¬ n < 0 by omega)]
      refine iteF ?_
      cases at' with
      | non => exact ⟨_, rfl, _, rfl, .non, false, rfl, iteT ⟨_, rfl, _, rfl, fin⟩⟩
      | bl b => exact ⟨_, rfl, _, rfl, .bl b, false, rfl, iteT ⟨_, rfl, _, rfl, fin⟩⟩
      | str z => exact ⟨_, rfl, _, rfl, .str z, false, rfl, iteT ⟨_, rfl, _, rfl, fin⟩⟩
      | tup hh => exact ⟨_, rfl, _, rfl, .tup hh, false, rfl, iteT ⟨_, rfl, _, rfl, fin⟩⟩
      | int i => cases h
    | @a n i _ _ n0 h =>
      refine ⟨_, rfl, _, rfl, .int n, true, rfl, ?_⟩
      refine iteF ?_
      refine ⟨_, rfl, _, _, rfl, rfl, _, rfl, ?_⟩
      rw [decide_eq_false (show ¬ n < 0 by omega)]
      refine iteF ?_
      refine ⟨_, rfl, _, rfl, .int i, true, rfl, ?_⟩
      refine iteF ?_
      cases aa with
      | non => exact ⟨_, rfl, _, rfl, .non, false, rfl, iteT ⟨_, rfl, _, rfl, fin⟩⟩
      | bl b => exact ⟨_, rfl, _, rfl, .bl b, false, rfl, iteT ⟨_, rfl, _, rfl, fin⟩⟩
      | str z => exact ⟨_, rfl, _, rfl, .str z, false, rfl, iteT ⟨_, rfl, _, rfl, fin⟩⟩
      | tup hh => exact ⟨_, rfl, _, rfl, .tup hh, false, rfl, iteT ⟨_, rfl, _, rfl, fin⟩⟩
      | int i => cases h
    | @b n i j _ n0 h =>
      refine ⟨_, rfl, _, rfl, .int n, true, rfl, ?_⟩
      refine iteF ?_
      refine ⟨_, rfl, _, _, rfl, rfl, _, rfl, ?_⟩
      rw [decide_eq_false (show ¬ n < 0 by omega)]
      refine iteF ?_
      refine ⟨_, rfl, _, rfl, .int i, true, rfl, ?_⟩
      refine iteF ?_
      refine ⟨_, rfl, _, rfl, .int j, true, rfl, ?_⟩
      refine iteF ?_
      cases ab with
      | non => exact ⟨_, rfl, _, rfl, .non, false, rfl, iteT ⟨_, rfl, _, rfl, fin⟩⟩
      | bl b => exact ⟨_, rfl, _, rfl, .bl b, false, rfl, iteT ⟨_, rfl, _, rfl, fin⟩⟩
      | str z => exact ⟨_, rfl, _, rfl, .str z, false, rfl, iteT ⟨_, rfl, _, rfl, fin⟩⟩
      | tup hh => exact ⟨_, rfl, _, rfl, .tup hh, false, rfl, iteT ⟨_, rfl, _, rfl, fin⟩⟩
      | int z =>
        refine ⟨_, rfl, _, rfl, .int z, true, rfl, ?_⟩
        refine iteF ?_
        refine ⟨_, rfl, _, _, rfl, rfl, _, rfl, ?_⟩
        have hi : ¬ 1 ≤ z := of_decide_eq_false h
        rw [decide_eq_true (show z < 1 by omega)]
        exact iteT ⟨_, rfl, _, rfl, fin⟩
theorem p30 : (10 : Int) ^ (30 : Int).toNat = 1000000000000000000000000000000 := by decide
theorem sm100 {x : Int} (h1 : -1000000000000000000000000000100 ≤ x) (h2 : x ≤ 1000000000000000000000000000100) : Sm 100 x := by
  have h : (1000000000000000000000000000100 : Nat) < 2 ^ 100 := by decide
  unfold Sm
  omega
theorem PoolAt.ne {p l : Addr} {H : Hp} (h : PoolAt p H) (hl : H l = none) : l ≠ p := by
  obtain ⟨i, j, hp, _⟩ := h
  exact (ne_of_none hp hl).symm
theorem scAny : FnScope ["pool", "number"] ["pool"] (defScope sAny) := ⟨rfl, rfl, rfl, by decide +kernel, rfl, by decide +kernel, by decide +kernel⟩
theorem ok_any {f fD : Addr} {fd fdD : FuncData} (F : Fun K "_law_any" "_law_any" sAny f fd) (T : TxtL mg) (FD : Fun K "_law_draw" "_law_draw" sDraw fD fdD) (bD : Binds K fdD ["pool", "many"] []) (mD : mg "_law_draw" = some (.ref fD)) : FnOk P w K mg base CX0 2 f fd ["pool"] spAny := by
  have GD : FnOk P w K mg base CX0 1 fD fdD ["pool", "many"] spDraw := ok_draw FD T
  refine F.ok scAny (fun vs H Q E h => ?_) (fun cdv A outer s H vs Q E hr h => ?_)
  · obtain ⟨p, rfl, _⟩ := h
    rfl
  · obtain ⟨p, rfl, hp, k⟩ := h
    refine ⟨_, pss_cons (ps_set (i := 1) scAny.nd rfl (Or.inl rfl) (pe_ix ix_list (pe_lst (pa_cons (pe_call GD hr rfl mD FD.kp bD .nil pass0 (pa_cons (pv 0) (pa_cons pe_int pa_nil))) (pa_cons (pe_call GD hr rfl mD FD.kp bD .nil pass0 (pa_cons (pv 0) (pa_cons pe_int pa_nil))) (pa_cons (pe_op op_add (pe_op op_pow pe_int pe_int) (pe_call GD hr rfl mD FD.kp bD .nil pass0 (pa_cons (pv 0) (pa_cons pe_int pa_nil)))) pa_nil)))) (pe_call GD hr rfl mD FD.kp bD .nil pass0 (pa_cons (pv 0) (pa_cons pe_int pa_nil))) (fun _ _ => rfl)))
      (pss_one (ps_ret (pe_ifExp (pt_cmpR op_eq (pe_call GD hr rfl mD FD.kp bD .nil pass0 (pa_cons (pv 0) (pa_cons pe_int pa_nil))) pe_int (nomark _)) (pv 1) (pe_un un_neg (pv 1))))), ?_⟩
    refine ⟨_, rfl, p, 9, rfl, hp, by decide, by decide, fun r1 H1 r10 r11 b1 p1 => ?_⟩
    refine ⟨_, rfl, p, 99, rfl, p1, by decide, by decide, fun r2 H2 r20 r21 b2 p2 => ?_⟩
    refine ⟨_, _, rfl, rfl, ⟨by decide, by decide, by decide⟩, _, rfl, p, 9, rfl, p2, by decide, by decide, fun r3 H3 r30 r31 b3 p3 => ?_⟩
    refine ⟨_, _, rfl, rfl, (by show 3 ≤ sizeLine; decide), fun l nl => ?_⟩
    have lp := p3.ne nl
    have e4 := same_new (o := .lst [V.int r1, V.int r2, V.int (10 ^ (30 : Int).toNat + r3)]) nl
    refine ⟨_, rfl, p, 3, rfl, p3.ex e4, by decide, by decide, fun r4 H4 r40 r41 b4 p4 => ?_⟩
    have hl := b4 _ _ lp upd_same
    have b5 := ((b1.trans b2).trans b3).trans ((But.of e4).trans b4)
    obtain ⟨z, hz, sz⟩ : ∃ z : Int, atI [V.int r1, V.int r2, V.int (10 ^ (30 : Int).toNat + r3)] r4 = some (V.int z) ∧ Sm 100 z := by
      have r4c : r4 = 0 ∨ r4 = 1 ∨ r4 = 2 := by omega
      rcases r4c with rfl | rfl | rfl
      · exact ⟨_, atI_nat (j := 0) rfl, sm100 (by omega) (by omega)⟩
      · exact ⟨_, atI_nat (j := 1) rfl, sm100 (by omega) (by omega)⟩
      · exact ⟨_, atI_nat (j := 2) rfl, by rw [p30]; exact sm100 (by omega) (by omega)⟩
    refine ⟨l, _, _, _, rfl, rfl, SqL.of hl, hz, ?_⟩
    refine ⟨_, rfl, p, 2, rfl, p4, by decide, by decide, fun r5 H5 r50 r51 b6 p6 => ?_⟩
    refine ⟨rfl, _, rfl, ?_⟩
    refine ite2 (fun _ => ?_) (fun _ => ?_)
    · exact ⟨_, rfl, k z _ sz (b5.trans b6) p6⟩
    · refine ⟨_, rfl, _, rfl, k (-z) _ ?_ (b5.trans b6) p6⟩
      unfold Sm at *
      omega
theorem scRef : FnScope ["many", "top", "add", "bottom", "e"] ["many", "top", "add", "bottom"] (defScope sRefused) := ⟨rfl, rfl, rfl, by decide +kernel, rfl, by decide +kernel, by decide +kernel⟩
theorem ok_ref {f : Addr} {fd : FuncData} (F : Fun K "_law_refused" "_law_refused" sRefused f fd) (D : FDefs K mg fW fS fF fdW fdS fdF) (R : RTxt P K mg CM fMI CF CI) : FnG P w K mg base CX0 4 f fd ["many", "top", "add", "bottom"] (spRef K) := by
  have GO : FnOk P w K mg base (L2.CX P w) 3 fF fdF ["many", "top", "add", "bottom"] (spFloorX CM) := ok_floorX D R
  have T := D.T
  refine F.okG scRef (fun vs H Q E h => ?_) (fun cdv A outer s H vs Q E hgd hr h => ?_)
  · obtain ⟨m, t, a, b, v, d, rfl, _⟩ := h
    rfl
  · obtain ⟨m, t, a, b, v, d, rfl, am, at', aa, ab, fb, sh, hdp, k⟩ := h
    have hu : (A.deeper (PyProof.Rows.envOfC (Str.ofString "_law_refused") (defScope sRefused) s.heap.objs.size f cdv)).units + 64 < cLine := by
      have := hr.un
      omega
    have cR : ∀ (a : Addr) (pn : List (Addr × Obj)), CallR ((cxOf CX0 P w K mg base ["many", "top", "add", "bottom", "e"] "_law_refused" (defScope sRefused) f cdv A outer s H E).nox.suite a pn) (.builtin "repr") (rReprD K) := fun a pn => call_reprD hgd hu
    have hT : ∃ (tb : WX → TS) (ts : Addr → Value → Option Addr → TS), PS (cxOf CX0 P w K mg base ["many", "top", "add", "bottom", "e"] "_law_refused" (defScope sRefused) f cdv A outer s H E).nox ((defBody sRefused).getD 0 (.Pass ⟨0, 0, 0, 0⟩)) (fun D σ H => tb (wAs K (.ref CF) 4 ts (fun _ _ _ _ => False) D) D σ H) ∧
        (∀ (W : WX) (D' : Ends), (∀ (dd : Addr) (H' : Hp), Same H H' → H' dd = some (XDn v) → Dp K H' v d → EW W 5 (.ref CM) (some dd) H') → tb W D' (start ["many", "top", "add", "bottom", "e"] [m, t, a, b]) H) ∧
        (∀ (a dd : Addr) (σ : L2.St) (H' : Hp) (D' : Ends), σ[4]? = some (some (.ref a)) → H' dd = some (XDn v) → Dp K H' v d → D'.rt (.str d.shown) H' → ts a (.ref CM) (some dd) D' σ H') := by
      refine ⟨_, _, ps_try_as (i := 4) (c := .ref CF) (Wout := fun _ _ _ _ => False) rfl rfl scRef.nd rfl rfl ⟨rfl, by decide, .inl R.gF⟩ takes0
        (fun W pn xe tk po => pss_one (ps_expr (pe_call (E := EW W 5) GO hr rfl D.mF D.FF.kp D.bF .nil (passesW tk rfl) (pa_cons (pv 0) (pa_cons (pv 1) (pa_cons (pv 2) (pa_cons (pv 3) pa_nil)))))))
        (fun a oe cls dd pn hz hf => pss_one (ps_ret (pe_and (pe_callB (call_isX hz hf) (by rfl) T.isi (by decide +kernel) (pa_cons (pv 4) (pa_cons (pe_glob (v := .ref CM) rfl R.gM rfl) pa_nil)))
          (pe_and (pe_not (pe_callB (call_isX hz hf) (by rfl) T.isi (by decide +kernel) (pa_cons (pv 4) (pa_cons (pe_glob (v := .ref CI) rfl R.gI rfl) pa_nil))))
          (pe_one (pe_callB (cR a ((a, oe) :: pn)) (by rfl) R.zR (by decide +kernel) (pa_cons (pe_by_number R.xM hz hf (pv 4)) pa_nil))))))), ?_, ?_⟩
      · intro W D' hW
        exact ⟨_, rfl, _, rfl, _, rfl, _, rfl, m, t, a, b, v, rfl, am, at', aa, ab, fb, fun dd H' e' hd => hW dd H' e' hd (Dp.ex e' d v hdp)⟩
      · intro a dd σ H' D' hσ hd hdp k'
        refine ⟨_, hσ, CM, dd, _, _, _, true, rfl, rfl, rfl, hd, .own CM, R.is, R.k1, true, rfl, ?_⟩
        refine iteT ?_
        refine ⟨_, hσ, CM, dd, _, _, _, false, rfl, rfl, rfl, hd, .own CI, R.is, R.k2, false, rfl, true, rfl, ?_⟩
        refine iteT ?_
        exact ⟨_, hσ, rfl, rfl, dd, v, rfl, hd, v, d, rfl, hdp, sh.s, sh.nd, sh.dp, sh.z, k'⟩
    obtain ⟨tb, ts, hPS, h1, h2⟩ := hT
    refine ⟨_, pss_cons hPS (pss_one ps_never), ?_⟩
    refine h1 _ _ fun dd H' e' hd hdp σ hσ => ⟨true, R.ex, fun _ a na => ?_, fun z => nomatch z⟩
    refine h2 a dd _ H' _ ?_ hd hdp (k H' e')
    rw [List.getElem?_set_self (by omega)]
end
end Fo

set_option Elab.async false
set_option linter.all false
set_option maxRecDepth 100000
set_option maxHeartbeats 2000000
namespace Fo
open PySem L2
abbrev sLaw : Stmt := top 14
abbrev lawN : List Str := ["script", "k", "pool", "turn", "many", "top", "add", "bottom", "found", "part", "great", "whole", "odd", "j"]
theorem scLaw : FnScope lawN ["script"] (defScope sLaw) := ⟨rfl, rfl, rfl, by decide +kernel, rfl, by decide +kernel, by decide +kernel⟩
def spLaw (K : PySem.W.Frag) : Sp := fun vs H Q _ => ∃ (a : Addr) (ns : List Int), vs = [.ref a] ∧ SqL K H a (ns.map V.int) ∧ ns.length ≤ 63 ∧ ∀ H', Q (.bl true) H'
structure LDefs (P : Program) (K : PySem.W.Frag) (mg : Str → Option Value) (CM fMI CF CI fH fD fN fR : Addr) (fdH fdD fdN fdR : FuncData) : Prop where
  TL : TxtL mg
  R : RTxt P K mg CM fMI CF CI
  zS : mg "sum" = none
  FH : Fun K "_law_hand" "_law_hand" sHand fH fdH
  bH : Binds K fdH ["script", "k"] []
  mH : mg "_law_hand" = some (.ref fH)
  FD : Fun K "_law_draw" "_law_draw" sDraw fD fdD
  bD : Binds K fdD ["pool", "many"] []
  mD : mg "_law_draw" = some (.ref fD)
  FN : Fun K "_law_any" "_law_any" sAny fN fdN
  bN : Binds K fdN ["pool"] []
  mN : mg "_law_any" = some (.ref fN)
  FR : Fun K "_law_refused" "_law_refused" sRefused fR fdR
  bR : Binds K fdR ["many", "top", "add", "bottom"] []
  mR : mg "_law_refused" = some (.ref fR)
theorem shows_by {d : PyData} (h : (d.showable && !d.hasDict && decide (d.depth ≤ 60) && decide (d.shown.length ≤ 1000)) = true) : ShowsOk d := by
  simp only [Bool.and_eq_true, Bool.not_eq_true', decide_eq_true_eq] at h
  exact ⟨h.1.1.1, h.1.1.2, h.1.2, Nat.le_trans h.2 (by decide)⟩
/-- what is no number, and what repr shows of it -/
structure OddV (K : PySem.W.Frag) (H : Hp) (v : V) (d : PyData) : Prop where
  any : Any1 H v
  w : isW v = false
  m : okL 0 v = false
  b : okL 1 v = false
  sh : ShowsOk d
  dp : Dp K H v d
theorem OddV.ex {K : PySem.W.Frag} {H H' : Hp} {v : V} {d : PyData} (e : Same H H') (h : OddV K H v d) : OddV K H' v d := ⟨h.any.ex e, h.w, h.m, h.b, h.sh, Dp.ex e d v h.dp⟩
theorem oddV_none {K : PySem.W.Frag} {H : Hp} : OddV K H .non .none := ⟨.non, rfl, rfl, rfl, shows_by (by decide +kernel), .non⟩
theorem oddV_true {K : PySem.W.Frag} {H : Hp} : OddV K H (.bl true) (.bool true) := ⟨.bl true, rfl, rfl, rfl, shows_by (by decide +kernel), .bl true⟩
theorem oddV_str {K : PySem.W.Frag} {H : Hp} : OddV K H (.str "1") (.str "1") := ⟨.str _, rfl, rfl, rfl, shows_by (by decide +kernel), .str _⟩
theorem oddV_tup {K : PySem.W.Frag} {H : Hp} {a : Addr} (h : H a = some (.tup [.int 1])) : OddV K H (.ref a) (.tuple [.int 1]) := ⟨.tup h, rfl, rfl, rfl, shows_by (by decide +kernel), .tup (SqT.of h) (.cons (.int 1) .nil)⟩
theorem shows_m1 : ShowsOk (.int (-1)) := shows_by (by decide +kernel)
theorem shows_0 : ShowsOk (.int 0) := shows_by (by decide +kernel)
section
variable {P : Program} {w : World} {K : PySem.W.Frag} {mg : Str → Option Value} {base : Heap} {fW fS fF CM fMI CF CI fH fD fN fR : Addr} {fdW fdS fdF fdH fdD fdN fdR : FuncData}
theorem ok_law {f : Addr} {fd : FuncData} (F : Fun K "law" "law" sLaw f fd) (D : FDefs K mg fW fS fF fdW fdS fdF) (L : LDefs P K mg CM fMI CF CI fH fD fN fR fdH fdD fdN fdR) :
    FnG P w K mg base CX0 5 f fd ["script"] (spLaw K) := by
  have GR : FnG P w K mg base CX0 4 fR fdR ["many", "top", "add", "bottom"] (spRef K) := ok_ref L.FR D L.R
  have GF : FnOk P w K mg base CX0 2 fF fdF ["many", "top", "add", "bottom"] spFloor := ok_floor D
  have GH : FnOk P w K mg base CX0 1 fH fdH ["script", "k"] (spHand K) := ok_hand L.FH L.TL
  have GD : FnOk P w K mg base CX0 1 fD fdD ["pool", "many"] spDraw := ok_draw L.FD L.TL
  have GN : FnOk P w K mg base CX0 2 fN fdN ["pool"] spAny := ok_any L.FN L.TL L.FD L.bD L.mD
  refine F.okG scLaw (fun vs H Q E h => ?_) (fun cdv A outer s H vs Q E hgd0 hr h => ?_)
  · obtain ⟨a, ns, rfl, _⟩ := h
    rfl
  · obtain ⟨sa, ns, rfl, hS, hlen, k⟩ := h
    have hgd : (A.deeper (PyProof.Rows.envOfC (Str.ofString "law") (defScope sLaw) s.heap.objs.size f cdv)).guards = some [] := hgd0
    have hr4 : Room 4 _ := hr
    have hr2 : Room 2 _ := hr.mono (by decide)
    have hr1 : Room 1 _ := hr.mono (by decide)
    have hu : (A.deeper (PyProof.Rows.envOfC (Str.ofString "law") (defScope sLaw) s.heap.objs.size f cdv)).units + 64 < cLine := by
      have := hr.un
      omega
    have cR : CallR (cxOf CX0 P w K mg base lawN "law" (defScope sLaw) f cdv A outer s H E).nox (.builtin "repr") (rReprD K) := call_reprD hgd0 hu
    refine ⟨_, pss_cons (ps_for PassesOwn.never rfl (pi_range1 rfl L.TL.range (pa_cons (pe_callB (call_max2 rfl) (by rfl) L.TL.max (by decide +kernel) (pa_cons pe_int (pa_cons (pe_callB (call_min2 rfl) (by rfl) L.TL.min (by decide +kernel) (pa_cons (pe_callB call_len_seq (by rfl) L.TL.len PySem.boot_len (pa_cons (pv 0) pa_nil)) (pa_cons pe_int pa_nil))) pa_nil))) pa_nil)) (pg_name (i := 1) scLaw.nd rfl (Or.inl rfl))
        (pss_cons (ps_set (i := 2) scLaw.nd rfl (Or.inl rfl) (pe_call GH hr1 rfl L.mH L.FH.kp L.bH .nil pass0 (pa_cons (pv 0) (pa_cons (pv 1) pa_nil))))
        (pss_cons (ps_for PassesOwn.never rfl (pi_range1 rfl L.TL.range (pa_cons pe_int pa_nil)) (pg_name (i := 3) scLaw.nd rfl (Or.inl rfl))
        (pss_cons (ps_asg (pe_tup (pa_cons (pe_call GD hr1 rfl L.mD L.FD.kp L.bD .nil pass0 (pa_cons (pv 2) (pa_cons pe_int pa_nil))) (pa_cons (pe_call GN hr2 rfl L.mN L.FN.kp L.bN .nil pass0 (pa_cons (pv 2) pa_nil)) (pa_cons (pe_call GN hr2 rfl L.mN L.FN.kp L.bN .nil pass0 (pa_cons (pv 2) pa_nil)) pa_nil)))) (pg_tup rfl (pgs_cons (pg_name (i := 4) scLaw.nd rfl (Or.inl rfl)) (pgs_cons (pg_name (i := 5) scLaw.nd rfl (Or.inr rfl)) (pgs_cons (pg_name (i := 6) scLaw.nd rfl (Or.inr rfl)) pgs_nil)))))
        (pss_cons (ps_set (i := 7) scLaw.nd rfl (Or.inr rfl) (pe_ix (r := rIxL K) ix_list (pe_lst (pa_cons pe_int (pa_cons pe_int (pa_cons (pe_op op_add pe_int (pe_call GD hr1 rfl L.mD L.FD.kp L.bD .nil pass0 (pa_cons (pv 2) (pa_cons pe_int pa_nil)))) (pa_cons (pe_op op_sub (pe_op op_pow pe_int pe_int) (pe_call GD hr1 rfl L.mD L.FD.kp L.bD .nil pass0 (pa_cons (pv 2) (pa_cons pe_int pa_nil)))) pa_nil))))) (pe_call GD hr1 rfl L.mD L.FD.kp L.bD .nil pass0 (pa_cons (pv 2) (pa_cons pe_int pa_nil))) (fun _ _ => rfl)))
        (pss_cons (ps_set (i := 8) scLaw.nd rfl (Or.inl rfl) (pe_call GF hr2 rfl D.mF D.FF.kp D.bF .nil pass0 (pa_cons (pv 4) (pa_cons (pv 5) (pa_cons (pv 6) (pa_cons (pv 7) pa_nil))))))
        (pss_cons (ps_if (pt_cmpR op_ne (pv 8) (pe_callB (cr_sum rfl) (by rfl) L.zS (by decide +kernel) (pa_cons (pe_lc (own := [("j", 13)]) (g := gName 13) (tt := tYes) rfl scLaw.nd (pi_range1 rfl L.TL.range (pa_cons (pv 4) pa_nil)) (blkOk_by (own := [("j", 13)]) (N := lawN) (sc := defScope sLaw) (by decide +kernel)) (fun _ _ _ _ _ => pg_name (i := 13) scLaw.nd rfl (Or.inl rfl)) (fun _ _ _ _ _ => pts_nil) (fun _ _ _ _ _ => (pe_op op_fdivW (pe_op op_add (pe_op op_mul (pv 5) (pv 13)) (pv 6)) (pv 7)))) pa_nil)) (nomark _)) (pss_one (ps_ret pe_bl)) pss_nil)
        (pss_cons (ps_set (i := 9) scLaw.nd rfl (Or.inl rfl) (pe_call GD hr1 rfl L.mD L.FD.kp L.bD .nil pass0 (pa_cons (pv 2) (pa_cons (pe_op op_add (pv 4) pe_int) pa_nil))))
        (pss_cons (ps_if (pt_cmpR op_ne (pv 8) (pe_op op_add (pe_call GF hr2 rfl D.mF D.FF.kp D.bF .nil pass0 (pa_cons (pv 9) (pa_cons (pv 5) (pa_cons (pv 6) (pa_cons (pv 7) pa_nil))))) (pe_call GF hr2 rfl D.mF D.FF.kp D.bF .nil pass0 (pa_cons (pe_op op_sub (pv 4) (pv 9)) (pa_cons (pv 5) (pa_cons (pe_op op_add (pv 6) (pe_op op_mul (pv 5) (pv 9))) (pa_cons (pv 7) pa_nil)))))) (nomark _)) (pss_one (ps_ret pe_bl)) pss_nil)
        (pss_cons (ps_set (i := 10) scLaw.nd rfl (Or.inl rfl) (pe_op op_add (pe_op op_pow pe_int pe_int) (pe_call GD hr1 rfl L.mD L.FD.kp L.bD .nil pass0 (pa_cons (pv 2) (pa_cons pe_int pa_nil)))))
        (pss_cons (ps_set (i := 11) scLaw.nd rfl (Or.inl rfl) (pe_call GF hr2 rfl D.mF D.FF.kp D.bF .nil pass0 (pa_cons (pv 10) (pa_cons (pv 5) (pa_cons (pv 6) (pa_cons (pv 7) pa_nil))))))
        (pss_cons (ps_if (pt_cmpR op_ne (pe_call GF hr2 rfl D.mF D.FF.kp D.bF .nil pass0 (pa_cons (pv 10) (pa_cons (pe_op op_add (pv 5) (pv 7)) (pa_cons (pv 6) (pa_cons (pv 7) pa_nil))))) (pe_op op_add (pv 11) (pe_op op_fdiv (pe_op op_mulW (pv 10) (pe_op op_sub (pv 10) pe_int)) pe_int)) (nomark _)) (pss_one (ps_ret pe_bl)) pss_nil)
        (pss_cons (ps_if (pt_cmpR op_ne (pe_call GF hr2 rfl D.mF D.FF.kp D.bF .nil pass0 (pa_cons (pv 10) (pa_cons (pv 5) (pa_cons (pe_op op_sub (pv 6) (pv 7)) (pa_cons (pv 7) pa_nil))))) (pe_op op_sub (pv 11) (pv 10)) (nomark _)) (pss_one (ps_ret pe_bl)) pss_nil)
        (pss_one (ps_if (pt_cmpR op_ne (pe_call GF hr2 rfl D.mF D.FF.kp D.bF .nil pass0 (pa_cons (pe_op op_add (pv 10) pe_int) (pa_cons (pv 5) (pa_cons (pv 6) (pa_cons (pv 7) pa_nil))))) (pe_op op_add (pv 11) (pe_op op_fdivW (pe_op op_add (pe_op op_mulW (pv 5) (pv 10)) (pv 6)) (pv 7))) (nomark _)) (pss_one (ps_ret pe_bl)) pss_nil)))))))))))))
        (pss_cons (ps_set (i := 12) scLaw.nd rfl (Or.inl rfl) (pe_ix (r := rIxL K) ix_list (pe_lst (pa_cons pe_non (pa_cons pe_bl (pa_cons pe_str (pa_cons (pe_tup (pa_cons pe_int pa_nil)) pa_nil))))) (pe_call GD hr1 rfl L.mD L.FD.kp L.bD .nil pass0 (pa_cons (pv 2) (pa_cons pe_int pa_nil))) (fun _ _ => rfl)))
        (pss_cons (ps_if (PW.pt (pw_or (pt_cmpR op_ne (pe_callG GR hgd hr4 rfl L.mR L.FR.kp L.bR pass0 (pa_cons (pv 12) (pa_cons (pv 12) (pa_cons pe_int (pa_cons pe_int pa_nil))))) (pe_callB cR (by rfl) L.R.zR (by decide +kernel) (pa_cons (pv 12) pa_nil)) (nomark _)) (pw_or1 (pt_cmpR op_ne (pe_callG GR hgd hr4 rfl L.mR L.FR.kp L.bR pass0 (pa_cons (pe_un un_neg pe_int) (pa_cons (pv 12) (pa_cons pe_int (pa_cons pe_int pa_nil))))) pe_str (nomark _))))) (pss_one (ps_ret pe_bl)) pss_nil)
        (pss_cons (ps_if (PW.pt (pw_or (pt_cmpR op_ne (pe_callG GR hgd hr4 rfl L.mR L.FR.kp L.bR pass0 (pa_cons pe_int (pa_cons (pv 12) (pa_cons (pv 12) (pa_cons pe_int pa_nil))))) (pe_callB cR (by rfl) L.R.zR (by decide +kernel) (pa_cons (pv 12) pa_nil)) (nomark _)) (pw_or1 (pt_cmpR op_ne (pe_callG GR hgd hr4 rfl L.mR L.FR.kp L.bR pass0 (pa_cons pe_int (pa_cons pe_int (pa_cons (pv 12) (pa_cons pe_int pa_nil))))) (pe_callB cR (by rfl) L.R.zR (by decide +kernel) (pa_cons (pv 12) pa_nil)) (nomark _))))) (pss_one (ps_ret pe_bl)) pss_nil)
        (pss_one (ps_if (PW.pt (pw_or (pt_cmpR op_ne (pe_callG GR hgd hr4 rfl L.mR L.FR.kp L.bR pass0 (pa_cons pe_int (pa_cons pe_int (pa_cons pe_int (pa_cons pe_int pa_nil))))) pe_str (nomark _)) (pw_or1 (pt_cmpR op_ne (pe_callG GR hgd hr4 rfl L.mR L.FR.kp L.bR pass0 (pa_cons pe_int (pa_cons pe_int (pa_cons pe_int (pa_cons (pv 12) pa_nil))))) (pe_callB cR (by rfl) L.R.zR (by decide +kernel) (pa_cons (pv 12) pa_nil)) (nomark _))))) (pss_one (ps_ret pe_bl)) pss_nil))))))))
      (pss_one (ps_ret (pe_cmpR op_eq (pe_call GF hr2 rfl D.mF D.FF.kp D.bF .nil pass0 (pa_cons pe_int (pa_cons pe_int (pa_cons pe_int (pa_cons pe_int pa_nil))))) pe_int (nomark _)))), ?_⟩
    -- range(max(1, min(len(script), 8)))
    refine ⟨_, rfl, sa, _, rfl, .inl hS, _, _, rfl, _, _, rfl, ?_⟩
    have hn8 : ∀ z : Int, z = (if (if (8 : Int) < ((ns.map V.int).length : Int) then (8 : Int) else ((ns.map V.int).length : Int)) > 1 then (if (8 : Int) < ((ns.map V.int).length : Int) then (8 : Int) else ((ns.map V.int).length : Int)) else 1) → 0 ≤ z ∧ z ≤ 8 := by
      intro z hz
      split at hz <;> split at hz <;> omega
    obtain ⟨n0, n8⟩ := hn8 _ rfl
    refine ⟨_, rfl, by omega, by omega, ?_⟩
    refine for_range (lo := 0) (fun i σ H' => ∃ v1 v2 v3 v4 v5 v6 v7 v8 v9 v10 v11 v12 v13 : Option V, σ = [some (.ref sa), v1, v2, v3, v4, v5, v6, v7, v8, v9, v10, v11, v12, v13] ∧ Same H H')
      ⟨_, _, _, _, _, _, _, _, _, _, _, _, _, rfl, Same.refl _⟩ ?_ ?_
    · rintro i σ H0 hi ⟨v1, v2, v3, v4, v5, v6, v7, v8, v9, v10, v11, v12, v13, rfl, eH⟩
      -- pool
      refine ⟨_, rfl, _, rfl, sa, ns, _, rfl, eH.seq hS, hlen, by omega, by omega, fun pl H1 hpl e1 p1 => ?_⟩
      clear hn8 n0 n8 hi
      -- for turn in range(5)
      refine ⟨5, rfl, by decide, by decide, ?_⟩
      refine for_range (lo := 0) (n := 5) (fun i σ H' => ∃ v1 v3 v4 v5 v6 v7 v8 v9 v10 v11 v12 v13 : Option V, σ = [some (.ref sa), v1, some (.ref pl), v3, v4, v5, v6, v7, v8, v9, v10, v11, v12, v13] ∧ Same H0 H' ∧ PoolAt pl H')
        ⟨_, _, _, _, _, _, _, _, _, _, _, _, rfl, e1, p1⟩ ?_ ?_
      · rintro i2 σ H2 hi2 ⟨v1, v3, v4, v5, v6, v7, v8, v9, v10, v11, v12, v13, rfl, e2, p2⟩
        -- many, top, add
        refine ⟨_, rfl, pl, 41, rfl, p2, by decide, by decide, fun n H3 n0 n1 b3 p3 => ?_⟩
        refine ⟨_, rfl, pl, rfl, p3, fun a H4 ha b4 p4 => ?_⟩
        refine ⟨_, rfl, pl, rfl, p4, fun b H5 hb b5 p5 => ?_⟩
        refine ⟨(by show 3 ≤ sizeLine; decide), fun tp ntp => ?_⟩
        have e5 := same_new (o := .tup [V.int n, V.int a, V.int b]) ntp
        refine ⟨tp, _, rfl, SqT.of upd_same, rfl, _, _, rfl, _, _, rfl, _, _, rfl, rfl, ?_⟩
        have e6 := (((b3.trans b4).trans b5).same hpl e2).trans e5
        have p6 := p5.ex e5
        -- bottom
        refine ⟨_, rfl, pl, 12, rfl, p6, by decide, by decide, fun c1 H7 c10 c11 b7 p7 => ?_⟩
        refine ⟨_, _, rfl, rfl, _, _, rfl, rfl, ⟨by decide, by decide, by decide⟩, _, rfl, pl, 9, rfl, p7, by decide, by decide, fun c2 H8 c20 c21 b8 p8 => ?_⟩
        refine ⟨_, _, rfl, rfl, (by show 4 ≤ sizeLine; decide), fun l nl => ?_⟩
        have lp := p8.ne nl
        have e9 := same_new (o := .lst [V.int 1, V.int 2, V.int (1 + c1), V.int (10 ^ (30 : Int).toNat - c2)]) nl
        refine ⟨_, rfl, pl, 4, rfl, p8.ex e9, by decide, by decide, fun c3 H9 c30 c31 b9 p9 => ?_⟩
        have hl := b9 _ _ lp upd_same
        obtain ⟨m, hm, m0, sm⟩ : ∃ m : Int, atI [V.int 1, V.int 2, V.int (1 + c1), V.int (10 ^ (30 : Int).toNat - c2)] c3 = some (V.int m) ∧ 0 < m ∧ Sm 100 m := by
          have cc : c3 = 0 ∨ c3 = 1 ∨ c3 = 2 ∨ c3 = 3 := by omega
          rcases cc with rfl | rfl | rfl | rfl
          · exact ⟨1, atI_nat (j := 0) rfl, by decide, sm100 (by decide) (by decide)⟩
          · exact ⟨2, atI_nat (j := 1) rfl, by decide, sm100 (by decide) (by decide)⟩
          · exact ⟨_, atI_nat (j := 2) rfl, by omega, sm100 (by omega) (by omega)⟩
          · exact ⟨_, atI_nat (j := 3) rfl, by rw [p30]; omega, by rw [p30]; exact sm100 (by omega) (by omega)⟩
        refine ⟨l, _, _, _, rfl, rfl, SqL.of hl, hm, ?_⟩
        have e10 := (b7.trans b8 |>.trans (But.of e9) |>.trans b9).same hpl e6
        clear hm hl lp e9 b9 b8 b7 e6 p6 e5 b5 b4 b3 e2
        -- found
        have sn : Sm 100 n := sm100 (by omega) (by omega)
        have sm' : Sm 200 m := sm.up (by decide)
        have sa' : Sm 200 a := ha.up (by decide)
        have sb' : Sm 200 b := hb.up (by decide)
        have nt : ((n.toNat : Nat) : Int) = n := Int.toNat_of_nonneg n0
        refine ⟨_, rfl, _, rfl, _, rfl, _, rfl, n, a, b, m, rfl, n0, m0, sn.up (by decide), sa', sb', sm', fun H11 e11 => ?_⟩
        -- sum
        refine ⟨_, rfl, _, rfl, n, rfl, by omega, by omega, fun D1 nD => ?_⟩
        refine lc_range (lo := 0) (n := n.toNat) (fun i H' => Same H11 H' ∧ ∃ xs : List Int, H' D1 = some (.lst (xs.map V.int)) ∧ xs.length = i ∧ ∀ (j : Nat) (x : Int), xs[j]? = some x → x = (a * j + b) / m)
          ⟨same_new nD, [], upd_same, rfl, fun j x h => by simp at h⟩ ?_ ?_
        · rintro j H' hj ⟨e', xs, hD, hxl, hx⟩
          refine ⟨rfl, ?_⟩
          unfold tYes
          dsimp only
          rw [if_pos rfl]
          refine ⟨_, rfl, _, rfl, _, _, rfl, rfl, .inr ⟨by omega, by omega⟩, _, rfl, _, _, rfl, rfl, _, rfl, _, _, rfl, rfl, sm.cd m0 (by decide) (by decide), ?_⟩
          refine ⟨_, hD, ?_, But.upd.same nD e', xs ++ [(a * (0 + (j : Int)) + b) / m], ?_, ?_, ?_⟩
          · rw [List.length_map, hxl]
            exact Nat.lt_of_lt_of_le (by omega : j < 1000) (by decide)
          · rw [upd_same, List.map_append]
            rfl
          · rw [List.length_append, hxl]
            rfl
          · intro j2 x h2
            by_cases hj2 : j2 < xs.length
            · rw [List.getElem?_append_left hj2] at h2
              exact hx _ _ h2
            · rw [List.getElem?_append_right (by omega)] at h2
              have : j2 - xs.length = 0 := by
                rcases Nat.eq_zero_or_pos (j2 - xs.length) with z | z
                · exact z
                · rw [List.getElem?_eq_none (by simp; omega)] at h2
                  cases h2
              rw [this] at h2
              have hjj : j2 = j := by omega
              subst hjj
              have := Option.some.inj h2
              rw [← this, Int.zero_add]
        rintro H12 ⟨e12, xs, hD, hxl, hx⟩
        refine ⟨D1, xs, rfl, SqL.of hD, ?_⟩
        have hs := fS_sum a b m xs hx
        rw [hxl] at hs
        refine ⟨rfl, _, rfl, iteNS (congrArg V.int hs.symm) ?_⟩
        have e13 := (e10.trans e11).trans e12
        have p13 := (p9.ex e11).ex e12
        -- part
        refine ⟨_, rfl, _, rfl, _, _, rfl, rfl, pl, n + 1, rfl, p13, by omega, by omega, fun q H14 q0 q1 b14 p14 => ?_⟩
        have e14 := b14.same hpl e13
        have sq : Sm 100 q := sm100 (by omega) (by omega)
        have snq : Sm 100 (n - q) := sm100 (by omega) (by omega)
        refine ⟨_, rfl, _, rfl, _, rfl, _, rfl, _, rfl, q, a, b, m, rfl, q0, m0, sq.up (by decide), sa', sb', sm', fun H15 e15 => ?_⟩
        refine ⟨_, rfl, _, rfl, _, _, rfl, rfl, _, rfl, _, rfl, _, rfl, _, rfl, _, _, rfl, rfl, .inr ⟨by omega, by omega⟩, _, _, rfl, rfl, _, rfl, n - q, a, b + a * q, m, rfl, by omega, m0, snq.up (by decide), sa', ((hb.up (by decide : 100 ≤ 200 - 1 + 0 - 0)).add ((ha.mul (m := 99) ?_).up (by decide))).up (by decide), sm', fun H16 e16 => ?_⟩
        · unfold Sm
          have : (1000 : Nat) < 2 ^ 99 := by decide
          omega
        have hc : Fo.fS a b m n.toNat = Fo.fS a b m q.toNat + Fo.fS a (b + a * q) m (n - q).toNat := by
          have := fS_cat a b m q.toNat (n - q).toNat
          rw [show q.toNat + (n - q).toNat = n.toNat by omega, Int.toNat_of_nonneg q0] at this
          exact this
        refine ⟨_, _, rfl, rfl, rfl, _, rfl, iteNS (congrArg V.int hc) ?_⟩
        have e17 := (e14.trans e15).trans e16
        have p17 := (p14.ex e15).ex e16
        -- great
        refine ⟨_, _, rfl, rfl, ⟨by decide, by decide, by decide⟩, _, rfl, pl, 99, rfl, p17, by decide, by decide, fun g H18 g0 g1 b18 p18 => ?_⟩
        refine ⟨_, _, rfl, rfl, ?_⟩
        rw [p30]
        have e18 := b18.same hpl e17
        obtain ⟨G, hG⟩ : ∃ G : Int, G = 1000000000000000000000000000000 + g := ⟨_, rfl⟩
        dsimp only
        rw [← hG]
        have G0 : 0 ≤ G := by omega
        have sG : Sm 100 G := sm100 (by omega) (by omega)
        have sG1 : Sm 200 (G + 1) := (sG.add (Sm.one (by decide))).up (by decide)
        have sG2 : Sm 101 (G - 1) := sG.sub (Sm.one (by decide))
        have Gt : ((G.toNat : Nat) : Int) = G := Int.toNat_of_nonneg G0
        clear hG g0 g1
        -- whole
        refine ⟨_, rfl, _, rfl, _, rfl, _, rfl, G, a, b, m, rfl, G0, m0, sG.up (by decide), sa', sb', sm', fun H19 e19 => ?_⟩
        -- top + bottom
        refine ⟨_, rfl, _, rfl, _, rfl, _, _, rfl, rfl, _, rfl, _, rfl, G, a + m, b, m, rfl, G0, m0, sG.up (by decide), (ha.add sm).up (by decide), sb', sm', fun H20 e20 => ?_⟩
        have h1 := fS_up a b m m0 G.toNat
        rw [Gt] at h1
        refine ⟨_, rfl, _, rfl, _, rfl, _, _, rfl, rfl, _, _, rfl, rfl, sG.cm sG2 (by decide) (by decide) (by decide), _, _, rfl, rfl, ⟨by decide, by decide⟩, _, _, rfl, rfl, rfl, _, rfl, iteNS (congrArg V.int h1) ?_⟩
        -- add - bottom
        refine ⟨_, rfl, _, rfl, _, rfl, _, rfl, _, _, rfl, rfl, _, rfl, G, a, b - m, m, rfl, G0, m0, sG.up (by decide), sa', (hb.sub sm).up (by decide), sm', fun H21 e21 => ?_⟩
        have h2 := fS_down a b m m0 G.toNat
        rw [Gt] at h2
        refine ⟨_, rfl, _, rfl, _, _, rfl, rfl, rfl, _, rfl, iteNS (congrArg V.int h2) ?_⟩
        -- great + 1
        refine ⟨_, rfl, _, _, rfl, rfl, _, rfl, _, rfl, _, rfl, G + 1, a, b, m, rfl, by omega, m0, sG1, sa', sb', sm', fun H22 e22 => ?_⟩
        have h3 := fS_succ a b m G.toNat
        rw [Gt, show G.toNat + 1 = (G + 1).toNat by omega] at h3
        refine ⟨_, rfl, _, rfl, _, rfl, _, _, rfl, rfl, ha.cm sG (by decide) (by decide) (by decide), _, rfl, _, _, rfl, rfl, _, rfl, _, _, rfl, rfl, sm.cd m0 (by decide) (by decide), _, _, rfl, rfl, rfl, _, rfl, iteNS (congrArg V.int h3) ?_⟩
        exact ⟨_, _, _, _, _, _, _, _, _, _, _, _, rfl, e18.trans (e19.trans (e20.trans (e21.trans e22))), p18.ex (e19.trans (e20.trans (e21.trans e22)))⟩
      · rintro σ H2 ⟨v1, v3, v4, v5, v6, v7, v8, v9, v10, v11, v12, v13, rfl, e2, p2⟩
        -- odd
        refine ⟨(by show 1 ≤ sizeLine; decide), fun t nt => ⟨(by show 4 ≤ sizeLine; decide), fun l nl => ?_⟩⟩
        have e3 := (same_new (o := .tup [V.int 1]) nt).trans (same_new (o := .lst [V.non, V.bl true, V.str "1", V.ref t]) nl)
        have lp := (p2.ex (same_new (o := .tup [V.int 1]) nt)).ne nl
        have tp := p2.ne nt
        have tl : t ≠ l := ne_of_none (upd_same (H := H2) (a := t) (o := .tup [V.int 1])) nl
        refine ⟨_, rfl, pl, 4, rfl, p2.ex e3, by decide, by decide, fun c H4 c0 c1 b4 p4 => ?_⟩
        have hl := b4 _ _ lp upd_same
        have ht : H4 t = some (.tup [V.int 1]) := b4 _ _ tp (by rw [upd_ne tl]; exact upd_same)
        obtain ⟨v, d, hv, O⟩ : ∃ (v : V) (d : PyData), atI [V.non, V.bl true, V.str "1", V.ref t] c = some v ∧ OddV K H4 v d := by
          have cc : c = 0 ∨ c = 1 ∨ c = 2 ∨ c = 3 := by omega
          rcases cc with rfl | rfl | rfl | rfl
          · exact ⟨_, _, atI_nat (j := 0) rfl, oddV_none⟩
          · exact ⟨_, _, atI_nat (j := 1) rfl, oddV_true⟩
          · exact ⟨_, _, atI_nat (j := 2) rfl, oddV_str⟩
          · exact ⟨_, _, atI_nat (j := 3) rfl, oddV_tup ht⟩
        refine ⟨l, _, _, _, rfl, rfl, SqL.of hl, hv, ?_⟩
        have e4 := b4.same hpl (e2.trans e3)
        -- many
        refine ⟨_, rfl, _, rfl, v, v, .int 0, .int 0, v, d, rfl, O.any, O.any, .int 0, .int 0, .m O.m, O.sh, O.dp, fun H5 e5 => ?_⟩
        have O5 := O.ex e5
        refine ⟨_, rfl, v, d, rfl, O5.dp, O.sh.s, O.sh.nd, O.sh.dp, O.sh.z, rfl, _, rfl, iteNS rfl ?_⟩
        refine ⟨_, rfl, _, rfl, .int (-1), v, .int 0, .int 0, .int (-1), .int (-1), rfl, .int _, O5.any, .int 0, .int 0, .m rfl, shows_m1, .int _, fun H6 e6 => ?_⟩
        have O6 := O5.ex e6
        refine ⟨rfl, _, rfl, iteNS (by decide +kernel) ?_⟩
        -- top, add
        refine ⟨_, rfl, _, rfl, .int 0, v, v, .int 0, v, d, rfl, .int 0, O6.any, O6.any, .int 0, .t (by decide) O.w, O.sh, O6.dp, fun H7 e7 => ?_⟩
        have O7 := O6.ex e7
        refine ⟨_, rfl, v, d, rfl, O7.dp, O.sh.s, O.sh.nd, O.sh.dp, O.sh.z, rfl, _, rfl, iteNS rfl ?_⟩
        refine ⟨_, rfl, .int 0, .int 1, v, .int 0, v, d, rfl, .int 0, .int 1, O7.any, .int 0, .a (by decide) O.w, O.sh, O7.dp, fun H8 e8 => ?_⟩
        have O8 := O7.ex e8
        refine ⟨_, rfl, v, d, rfl, O8.dp, O.sh.s, O.sh.nd, O.sh.dp, O.sh.z, rfl, _, rfl, iteNS rfl ?_⟩
        -- bottom
        refine ⟨.int 0, .int 1, .int 1, .int 0, .int 0, .int 0, rfl, .int 0, .int 1, .int 1, .int 0, .b (by decide) rfl, shows_0, .int _, fun H9 e9 => ?_⟩
        have O9 := O8.ex e9
        refine ⟨rfl, _, rfl, iteNS (by decide +kernel) ?_⟩
        refine ⟨_, rfl, .int 0, .int 1, .int 1, v, v, d, rfl, .int 0, .int 1, .int 1, O9.any, .b (by decide) O.b, O.sh, O9.dp, fun H10 e10 => ?_⟩
        have O10 := O9.ex e10
        refine ⟨_, rfl, v, d, rfl, O10.dp, O.sh.s, O.sh.nd, O.sh.dp, O.sh.z, rfl, _, rfl, iteNS rfl ?_⟩
        exact ⟨_, _, _, _, _, _, _, _, _, _, _, _, _, rfl, eH.trans (e4.trans (e5.trans (e6.trans (e7.trans (e8.trans (e9.trans e10))))))⟩
    · rintro σ H' ⟨v1, v2, v3, v4, v5, v6, v7, v8, v9, v10, v11, v12, v13, rfl, eH⟩
      refine ⟨0, 1, 1, 1, rfl, by decide, by decide, ?_, ?_, ?_, ?_, fun H2 e2 => ?_⟩
      · exact Nat.two_pow_pos _
      · exact Sm.one (by decide)
      · exact Sm.one (by decide)
      · exact Sm.one (by decide)
      refine ⟨rfl, ?_⟩
      exact k _
end
end Fo
set_option Elab.async false
set_option linter.all false
set_option maxRecDepth 100000
set_option maxHeartbeats 0
namespace Fo
open PySem L2
theorem all_mk {l : PySem.W.OpenLaw} {w : World} {K : PySem.W.Frag} {h : Heap} {mg : Str → Option Value} {fa CF CI fW fS fF fH fD fN fR fZ CNu gNu NNu cdaNu ccNu : Addr} (X : K.In h) (G : h.Ns mainGlobals mg) (hfa : mg "law" = some (.ref fa))
    {nmNu qnNu quNu msNu fiNu : Str} {bsNu bmNu subNu : List Value} {snNu : List Str} {abNu : Bool} {colNu : Option Bool} {ddNu odgNu angNu cddNu cldNu : Option Addr} {e0Nu e1Nu e2Nu e3Nu e5Nu : Option Value} {ocgNu kVgNu dcgNu pmgNu ctgNu cclNu clNu : Value} {slgNu ccsNu cslNu : Array (Option Value)} {vsNu : Array Value} {p1Nu p2Nu r1Nu r2Nu r3Nu r4Nu r5Nu r6Nu q1Nu q2Nu q3Nu q4Nu : Pos} {jNu : Nat} {tfNu : Tok}
    {odW anW odS anS odF anF odH anH odD anD odN anN odR anR odZ anZ : Option Addr} {slW slS slF slH slD slN slR slZ : Array (Option Value)} {ocW kVW dcW pmW cdW ctW ocS kVS dcS pmS cdS ctS ocF kVF dcF pmF cdF ctF ocH kVH dcH pmH cdH ctH ocD kVD dcD pmD cdD ctD ocN kVN dcN pmN cdN ctN ocR kVR dcR pmR cdR ctR ocZ kVZ dcZ pmZ cdZ ctZ : Value}
    (aW : PySem.W.nsIn K mainGlobals "is_whole" = some (some (.ref fW)))
    (lW : K.lookup fW = some ⟨ocW, odW, .func (PySem.W.fnOf "is_whole" "is_whole" (defArgs sWhole) (defBody sWhole) (defScope sWhole) .none kVW dcW pmW anW cdW ctW), slW⟩)
    (cW : PySem.W.codeIn K cdW "is_whole" = true)
    (kW : PySem.W.keepIn K (.ref fW) = true)
    (aS : PySem.W.nsIn K mainGlobals "sum_of_floors" = some (some (.ref fS)))
    (lS : K.lookup fS = some ⟨ocS, odS, .func (PySem.W.fnOf "sum_of_floors" "sum_of_floors" (defArgs sSumF) (defBody sSumF) (defScope sSumF) .none kVS dcS pmS anS cdS ctS), slS⟩)
    (cS : PySem.W.codeIn K cdS "sum_of_floors" = true)
    (kS : PySem.W.keepIn K (.ref fS) = true)
    (aF : PySem.W.nsIn K mainGlobals "floor_sum" = some (some (.ref fF)))
    (lF : K.lookup fF = some ⟨ocF, odF, .func (PySem.W.fnOf "floor_sum" "floor_sum" (defArgs sFloor) (defBody sFloor) (defScope sFloor) .none kVF dcF pmF anF cdF ctF), slF⟩)
    (cF : PySem.W.codeIn K cdF "floor_sum" = true)
    (kF : PySem.W.keepIn K (.ref fF) = true)
    (aH : PySem.W.nsIn K mainGlobals "_law_hand" = some (some (.ref fH)))
    (lH : K.lookup fH = some ⟨ocH, odH, .func (PySem.W.fnOf "_law_hand" "_law_hand" (defArgs sHand) (defBody sHand) (defScope sHand) .none kVH dcH pmH anH cdH ctH), slH⟩)
    (cH : PySem.W.codeIn K cdH "_law_hand" = true)
    (kH : PySem.W.keepIn K (.ref fH) = true)
    (aD : PySem.W.nsIn K mainGlobals "_law_draw" = some (some (.ref fD)))
    (lD : K.lookup fD = some ⟨ocD, odD, .func (PySem.W.fnOf "_law_draw" "_law_draw" (defArgs sDraw) (defBody sDraw) (defScope sDraw) .none kVD dcD pmD anD cdD ctD), slD⟩)
    (cD : PySem.W.codeIn K cdD "_law_draw" = true)
    (kD : PySem.W.keepIn K (.ref fD) = true)
    (aN : PySem.W.nsIn K mainGlobals "_law_any" = some (some (.ref fN)))
    (lN : K.lookup fN = some ⟨ocN, odN, .func (PySem.W.fnOf "_law_any" "_law_any" (defArgs sAny) (defBody sAny) (defScope sAny) .none kVN dcN pmN anN cdN ctN), slN⟩)
    (cN : PySem.W.codeIn K cdN "_law_any" = true)
    (kN : PySem.W.keepIn K (.ref fN) = true)
    (aR : PySem.W.nsIn K mainGlobals "_law_refused" = some (some (.ref fR)))
    (lR : K.lookup fR = some ⟨ocR, odR, .func (PySem.W.fnOf "_law_refused" "_law_refused" (defArgs sRefused) (defBody sRefused) (defScope sRefused) .none kVR dcR pmR anR cdR ctR), slR⟩)
    (cR : PySem.W.codeIn K cdR "_law_refused" = true)
    (kR : PySem.W.keepIn K (.ref fR) = true)
    (aZ : PySem.W.nsIn K mainGlobals "law" = some (some (.ref fZ)))
    (lZ : K.lookup fZ = some ⟨ocZ, odZ, .func (PySem.W.fnOf "law" "law" (defArgs sLaw) (defBody sLaw) (defScope sLaw) .none kVZ dcZ pmZ anZ cdZ ctZ), slZ⟩)
    (cZ : PySem.W.codeIn K cdZ "law" = true)
    (kZ : PySem.W.keepIn K (.ref fZ) = true)
    (hn : PySem.W.specialIn K (.builtin "object.__class__") "__get__" = some (some (.builtin "getset_descriptor.__get__")))
    (htk : PySem.W.takesIn K (.builtin "object.__class__") = some true)
    (z_isinstance : PySem.W.nsIn K mainGlobals "isinstance" = some none)
    (z_len : PySem.W.nsIn K mainGlobals "len" = some none)
    (z_int : PySem.W.nsIn K mainGlobals "int" = some none)
    (z_bool : PySem.W.nsIn K mainGlobals "bool" = some none)
    (z_range : PySem.W.nsIn K mainGlobals "range" = some none)
    (z_max : PySem.W.nsIn K mainGlobals "max" = some none)
    (z_min : PySem.W.nsIn K mainGlobals "min" = some none)
    (z_repr : PySem.W.nsIn K mainGlobals "repr" = some none)
    (z_super : PySem.W.nsIn K mainGlobals "super" = some none)
    (z_sum : PySem.W.nsIn K mainGlobals "sum" = some none)
    (aCF : PySem.W.nsIn K mainGlobals "FillError" = some (some (.ref CF)))
    (aCI : PySem.W.nsIn K mainGlobals "InvalidPoint" = some (some (.ref CI)))
    (tpI : PySem.W.nsIn K cStatics "thirdparty.any" = some none)
    (tsI : (l.prog.main.scope.names.lookup ("super" : Str)).isSome = false)
    (aCNu : PySem.W.nsIn K mainGlobals "InvalidNumber" = some (some (.ref CNu)))
    (lCNu : K.lookup CNu = some (PySem.excClassObj nmNu qnNu CNu NNu bsNu bmNu true snNu subNu abNu colNu ddNu e0Nu e1Nu e2Nu e3Nu e5Nu "ValueError.__new__"))
    (rvNu : PySem.HandSPX.refsVE bmNu = true)
    (saNu : PySem.W.findIn K (.ref CNu) "__setattr__" = some (some (.builtin "object.__setattr__")))
    (gaNu : PySem.W.findIn K (.ref CNu) "__getattribute__" = some (some (.builtin "BaseException.__getattribute__")))
    (ggNu : PySem.W.findIn K (.ref CNu) "__getattr__" = some none)
    (noNu : PySem.W.findIn K (.ref CNu) (Str.ofString "number") = some none)
    (inNu : PySem.W.findIn K (.ref CNu) "__init__" = some (some (.ref gNu)))
    (tyNu : PySem.W.typeIn K (.ref gNu) = some (.type "function"))
    (kpNu : PySem.W.keepIn K (.ref CNu) = true)
    (exNu : PySem.W.subIn K (.ref CNu) (.type "BaseException") = some true)
    (tcNu : PySem.W.typeIn K (.ref CNu) = some (.type "type"))
    (hdNu : PySem.W.hasDictIn K CNu = true)
    (suNu : PySem.W.ks_superIn K CNu CNu "__init__" = some (some (.builtin "ValueError.__init__")))
    (veNu : PySem.W.subIn K (.ref CNu) (.type "ValueError") = some true)
    (mrNu : PySem.W.mroIn K CNu (.ref CNu) = some true)
    (lgNu : K.lookup gNu = some ⟨ocgNu, odgNu, .func (PySem.W.ksFn "__init__" quNu (FoX_number.xA p1Nu p2Nu) (FoX_number.xB msNu r1Nu r2Nu r3Nu r4Nu r5Nu r6Nu q1Nu q2Nu q3Nu q4Nu jNu) FoX_number.xS .none kVgNu dcgNu pmgNu angNu (.ref cdaNu) ctgNu ccNu), slgNu⟩)
    (cgNu : PySem.W.codeIn K (.ref cdaNu) quNu = true)
    (lcNu : K.lookup cdaNu = some ⟨cclNu, cddNu, .fields vsNu, ccsNu⟩)
    (vfNu : vsNu[2]? = some (.str fiNu tfNu))
    (flNu : ((l.prog.main.file : Str) == fiNu) = true)
    (lnNu : (r3Nu.endLine == r5Nu.line) = true)
    (leNu : K.lookup ccNu = some ⟨clNu, cldNu, .cell (some (.ref CNu)), cslNu⟩)
    (caNu : PySem.W.findIn K (.ref CNu) "__class__" = some (some (.builtin "object.__class__")))
    (moNu : PySem.W.mroIn K CNu (.type "object") = some true)
    (emNu : PySem.W.exmOne K (.ref CNu) (.ref CF) = some true)
    (ksNu : PySem.W.kitOne K (.ref CNu) (.ref CNu) = some true)
    (k2N : PySem.W.kitOne K (.ref CNu) (.ref CI) = some false) :
    ∃ fd : FuncData, (∀ (s : Shared) (v : Value), BindsTo s fd ⟨[v], []⟩ [("script", v)]) ∧ ∀ base : Heap, K.In base → base.Ns mainGlobals mg → FnG l.prog w K mg base CX0 5 fa fd ["script"] (spLaw K) := by
  have e := hfa.symm.trans (PySem.W.mg_of X G aZ)
  cases e
  have FW := fun_mk (st := sWhole) lW cW kW
  have bW := FW.binds (ps := ["value"]) fun _ _ _ _ _ _ us hl => match us, hl with | [_], _ => rfl
  have FS := fun_mk (st := sSumF) lS cS kS
  have bS := FS.binds (ps := ["many", "top", "add", "bottom"]) fun _ _ _ _ _ _ us hl => match us, hl with | [_, _, _, _], _ => rfl
  have FF := fun_mk (st := sFloor) lF cF kF
  have bF := FF.binds (ps := ["many", "top", "add", "bottom"]) fun _ _ _ _ _ _ us hl => match us, hl with | [_, _, _, _], _ => rfl
  have FH := fun_mk (st := sHand) lH cH kH
  have bH := FH.binds (ps := ["script", "k"]) fun _ _ _ _ _ _ us hl => match us, hl with | [_, _], _ => rfl
  have FD := fun_mk (st := sDraw) lD cD kD
  have bD := FD.binds (ps := ["pool", "many"]) fun _ _ _ _ _ _ us hl => match us, hl with | [_, _], _ => rfl
  have FN := fun_mk (st := sAny) lN cN kN
  have bN := FN.binds (ps := ["pool"]) fun _ _ _ _ _ _ us hl => match us, hl with | [_], _ => rfl
  have FR := fun_mk (st := sRefused) lR cR kR
  have bR := FR.binds (ps := ["many", "top", "add", "bottom"]) fun _ _ _ _ _ _ us hl => match us, hl with | [_, _, _, _], _ => rfl
  have FZ := fun_mk (st := sLaw) lZ cZ kZ
  have TLm : TxtL mg := ⟨PySem.W.mg_none_of X G z_int, PySem.W.mg_none_of X G z_range, PySem.W.mg_none_of X G z_max, PySem.W.mg_none_of X G z_min, PySem.W.mg_none_of X G z_len⟩
  have Df : FDefs K mg fW fS fF _ _ _ := ⟨⟨PySem.W.mg_none_of X G z_isinstance, PySem.W.mg_none_of X G z_int, PySem.W.mg_none_of X G z_bool⟩, FW, bW, PySem.W.mg_of X G aW, FS, bS, PySem.W.mg_of X G aS, FF, bF, PySem.W.mg_of X G aF⟩
  have xtNu : FoX_number.XTxt l.prog K mg CNu gNu := ⟨⟨_, _, _, _, _, _, _, _, _, _, _, _, _, _, _, lCNu, rvNu⟩, saNu, gaNu, ggNu, noNu, inNu, tyNu, kpNu, exNu, tcNu, hdNu, suNu, tpI, PySem.W.mg_none_of X G z_super, veNu, mrNu, tsI, ⟨quNu, msNu, _, _, _, _, _, _, ccNu, cdaNu, _, _, p1Nu, p2Nu, r1Nu, r2Nu, r3Nu, r4Nu, r5Nu, r6Nu, q1Nu, q2Nu, q3Nu, q4Nu, jNu, _, _, _, _, vsNu, _, _, fiNu, tfNu, lgNu, cgNu, lcNu, vfNu, flNu, lnNu, leNu⟩⟩
  have Rt : RTxt l.prog K mg CNu gNu CF CI := ⟨xtNu, PySem.W.mg_of X G aCNu, PySem.W.mg_of X G aCF, PySem.W.mg_of X G aCI, emNu, ⟨gaNu, ggNu, exNu, hdNu, caNu, hn, htk, moNu⟩, ksNu, k2N, PySem.W.mg_none_of X G z_repr⟩
  have Lf : LDefs l.prog K mg CNu gNu CF CI fH fD fN fR _ _ _ _ := ⟨TLm, Rt, PySem.W.mg_none_of X G z_sum, FH, bH, PySem.W.mg_of X G aH, FD, bD, PySem.W.mg_of X G aD, FN, bN, PySem.W.mg_of X G aN, FR, bR, PySem.W.mg_of X G aR⟩
  exact ⟨PySem.W.fnOf "law" "law" (defArgs sLaw) (defBody sLaw) (defScope sLaw) .none kVZ dcZ pmZ anZ cdZ ctZ, fun s v => .of_eq rfl, fun base _ _ => ok_law FZ Df Lf⟩
theorem walk {l : PySem.W.OpenLaw} {q : Program} {loose : List Str} {XP : (Str → Option Value) → Heap → Prop} {YP : World → Heap → Prop} {d : DefRec} {K : Params → PySem.W.Frag} (hn : l.most = some 63) (hdf : d.params.defaults = [])
    (hY : ∀ (w : World) (h : Heap), YP w h → (K w.params).In h)
    (F : ∀ (w : World) (mg : Str → Option Value) (fa : Addr) (h : Heap), (K w.params).In h → h.Ns mainGlobals mg → mg d.name = some (.ref fa) →
      ∃ fd : FuncData, (∀ (s : Shared) (u : Value), BindsTo s fd ⟨[u], []⟩ [("script", u)]) ∧ ∀ base : Heap, (K w.params).In base → base.Ns mainGlobals mg → FnG l.prog w (K w.params) mg base CX0 5 fa fd ["script"] (spLaw (K w.params))) :
    PySem.W.WalkO q loose XP YP l.row.toRowW d [] (fun f vs => PySem.call f vs) :=
  L2.walk_ofG (n := 63) (k := 5) (x := "script") (sp := fun w => spLaw (K w.params)) hn (by decide) hdf ⟨rfl, by decide, by decide⟩ hY F (fun _ _ a ns hl hS => ⟨a, ns, rfl, hS, hl, fun _ => rfl⟩)
end Fo

open PySem PySem.W PyProof.Rows in
set_option maxRecDepth 100000 in
set_option maxHeartbeats 0 in
theorem PySem.Challenge.cw_filledonce_k64_sums_of_floors_holds : PySem.Challenge.rw_filledonce_k64_sums_of_floors.Holds := by
  w_on; o_law; k_head; (case hw => w_witness2)
  k_fill
  refine Fo.walk (l := PySem.Challenge.rw_filledonce_k64_sums_of_floors) rfl rfl (fun w h Y => PySem.W.kIn_of Y) ?F
  case F =>
    intro w mg fa h KX G hmg
    refine' Fo.all_mk KX G hmg ?aW ?lW ?cW ?kW ?aS ?lS ?cS ?kS ?aF ?lF ?cF ?kF ?aH ?lH ?cH ?kH ?aD ?lD ?cD ?kD ?aN ?lN ?cN ?kN ?aR ?lR ?cR ?kR ?aZ ?lZ ?cZ ?kZ ?hn ?htk ?z_isinstance ?z_len ?z_int ?z_bool ?z_range ?z_max ?z_min ?z_repr ?z_super ?z_sum ?aCF ?aCI ?tpI ?tsI ?aCNu ?lCNu ?rvNu ?saNu ?gaNu ?ggNu ?noNu ?inNu ?tyNu ?kpNu ?exNu ?tcNu ?hdNu ?suNu ?veNu ?mrNu ?lgNu ?cgNu ?lcNu ?vfNu ?flNu ?lnNu ?leNu ?caNu ?moNu ?emNu ?ksNu ?k2N
    (case aW => first | k_is | rfl | decide +kernel)
    (case lW => first | k_is | rfl | decide +kernel)
    (case cW => first | k_is | rfl | decide +kernel)
    (case kW => first | k_is | rfl | decide +kernel)
    (case aS => first | k_is | rfl | decide +kernel)
    (case lS => first | k_is | rfl | decide +kernel)
    (case cS => first | k_is | rfl | decide +kernel)
    (case kS => first | k_is | rfl | decide +kernel)
    (case aF => first | k_is | rfl | decide +kernel)
    (case lF => first | k_is | rfl | decide +kernel)
    (case cF => first | k_is | rfl | decide +kernel)
    (case kF => first | k_is | rfl | decide +kernel)
    (case aH => first | k_is | rfl | decide +kernel)
    (case lH => first | k_is | rfl | decide +kernel)
    (case cH => first | k_is | rfl | decide +kernel)
    (case kH => first | k_is | rfl | decide +kernel)
    (case aD => first | k_is | rfl | decide +kernel)
    (case lD => first | k_is | rfl | decide +kernel)
    (case cD => first | k_is | rfl | decide +kernel)
    (case kD => first | k_is | rfl | decide +kernel)
    (case aN => first | k_is | rfl | decide +kernel)
    (case lN => first | k_is | rfl | decide +kernel)
    (case cN => first | k_is | rfl | decide +kernel)
    (case kN => first | k_is | rfl | decide +kernel)
    (case aR => first | k_is | rfl | decide +kernel)
    (case lR => first | k_is | rfl | decide +kernel)
    (case cR => first | k_is | rfl | decide +kernel)
    (case kR => first | k_is | rfl | decide +kernel)
    (case aZ => first | k_is | rfl | decide +kernel)
    (case lZ => first | k_is | rfl | decide +kernel)
    (case cZ => first | k_is | rfl | decide +kernel)
    (case kZ => first | k_is | rfl | decide +kernel)
    (case hn => first | k_is | rfl | decide +kernel)
    (case htk => first | k_is | rfl | decide +kernel)
    (case z_isinstance => first | k_is | rfl | decide +kernel)
    (case z_len => first | k_is | rfl | decide +kernel)
    (case z_int => first | k_is | rfl | decide +kernel)
    (case z_bool => first | k_is | rfl | decide +kernel)
    (case z_range => first | k_is | rfl | decide +kernel)
    (case z_max => first | k_is | rfl | decide +kernel)
    (case z_min => first | k_is | rfl | decide +kernel)
    (case z_repr => first | k_is | rfl | decide +kernel)
    (case z_super => first | k_is | rfl | decide +kernel)
    (case z_sum => first | k_is | rfl | decide +kernel)
    (case aCF => first | k_is | rfl | decide +kernel)
    (case aCI => first | k_is | rfl | decide +kernel)
    (case tpI => first | k_is | rfl | decide +kernel)
    (case tsI => first | k_is | rfl | decide +kernel)
    (case aCNu => first | k_is | rfl | decide +kernel)
    (case lCNu => first | k_is | rfl | decide +kernel)
    (case rvNu => first | k_is | rfl | decide +kernel)
    (case saNu => first | k_is | rfl | decide +kernel)
    (case gaNu => first | k_is | rfl | decide +kernel)
    (case ggNu => first | k_is | rfl | decide +kernel)
    (case noNu => first | k_is | rfl | decide +kernel)
    (case inNu => first | k_is | rfl | decide +kernel)
    (case tyNu => first | k_is | rfl | decide +kernel)
    (case kpNu => first | k_is | rfl | decide +kernel)
    (case exNu => first | k_is | rfl | decide +kernel)
    (case tcNu => first | k_is | rfl | decide +kernel)
    (case hdNu => first | k_is | rfl | decide +kernel)
    (case suNu => first | k_is | rfl | decide +kernel)
    (case veNu => first | k_is | rfl | decide +kernel)
    (case mrNu => first | k_is | rfl | decide +kernel)
    (case lgNu => first | k_is | rfl | decide +kernel)
    (case cgNu => first | k_is | rfl | decide +kernel)
    (case lcNu => first | k_is | rfl | decide +kernel)
    (case vfNu => first | k_is | rfl | decide +kernel)
    (case flNu => first | k_is | rfl | decide +kernel)
    (case lnNu => first | k_is | rfl | decide +kernel)
    (case leNu => first | k_is | rfl | decide +kernel)
    (case caNu => first | k_is | rfl | decide +kernel)
    (case moNu => first | k_is | rfl | decide +kernel)
    (case emNu => first | k_is | rfl | decide +kernel)
    (case ksNu => first | k_is | rfl | decide +kernel)
    (case k2N => first | k_is | rfl | decide +kernel)
#print axioms PySem.Challenge.cw_filledonce_k64_sums_of_floors_holds
