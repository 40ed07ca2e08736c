import PyProof.Rows.All
import Wide.All
import OpenK.AllK
import Wide.FinOn
import HandS.ForMost
import HandS.EndBits
import HandS.MakeKwOnly
import HandS.Property
import HandS.IsInst
import HandS.TupMul
import PyProof.ReprRoads
import HandS.Walk
import HandS.ExcInit
import HandS.ExcOwn
import HandS.TryMany
import HandS.ExcField
import HandS.Nested
import KE.KExcSuper
import HandS.Style
import HandS.Defaults
import HandS.List
import HandS.WordsExc
import KE.KDictDisplayH
import KE.KDictWalk
import KE.KDictCopyH
import HandS.Conv
import HandS.ListItems
import HandS.Dict
import HandS.Finally
import HandS.DictComp
import HandS.DeepEq
import KE.DataMinMax
import HandS.SortKw
import HandS.OwnEq
import KE.GoesEnum
import HandS.Small
import KE.KNestM
import HandS.SetBool
import HandS.Strs
import HandS.EndTab
import HandS.Lambda
import PyProof.StrBlock2
import KE.KLam
import PySem.Challenge.RW_mostcalls_k06_systems_refused
set_option Elab.async false
set_option maxRecDepth 100000
set_option linter.all false
set_option maxHeartbeats 4000000
namespace Mc
open PySem PySem.Spec PyProof.Rows L2

/-! ### repr of data -/
def rRepr (K : PySem.W.Frag) : List V → Hp → VK → Prop := fun xs H Q =>
  ∃ (a : Addr) (d : PyData), xs = [.ref a] ∧ Dp K H (.ref a) d ∧ d.showable = true ∧ d.hasDict = false ∧ d.depth ≤ 40 ∧ d.shown.length ≤ sizeLine ∧ Q (.str d.shown) H

theorem call_repr {X : Cx} (hg : X.A.guards = some []) (hu : X.A.units + 64 < cLine) : CallR X (.builtin "repr") (rRepr X.K) := by
  intro pins s σ H xs us Q I r h
  obtain ⟨a, d, rfl, hd, hs, hx, hdp, hz, q⟩ := h
  cases r with
  | cons ru rn =>
    cases rn
    cases ru
    obtain ⟨as, R⟩ := Dp.reads I d _ _ hd rfl
    exact repr_of_reads' R hs (fun e => by rw [hx] at e; cases e) hg (by omega) (fun b o e => e)
      (fun h' u tk hk => ⟨.str d.shown, H, I.kept hk, ⟨u, rfl⟩, q⟩) hz

/-! ### a def that is run where no repr is under way -/
structure FnG (P : Program) (w : World) (K : PySem.W.Frag) (mg : Str → Option Value) (base : Heap) (CX : CXT) (k : Nat) (f : Addr) (fd : FuncData) (ps : List Str) (sp : Sp) : Prop where
  len : ∀ vs H Q E, sp vs H Q E → vs.length = ps.length
  run : ∀ (A : Around) (outer : List Env) (s : Shared) (H : Hp) (args : Args) (us : List Value) (vs : List V) (Q : VK) (E : XK),
    A.guards = some [] → Room k A → Env0 P w K mg base A outer s H → BindsTo s fd args (ps.zip us) → Vals vs us → sp vs H Q E →
    codeAny (model P w) A (.call (.ref f) args) (CR CX outer P w H s Q E) s

theorem fnG_of {CX : CXT} {P : Program} {w : World} {K : PySem.W.Frag} {mg : Str → Option Value} {base : Heap} {k : Nat} {f : Addr} {x qual : Str} {st : Stmt} {fd : FuncData}
    {N ps : List Str} {sp : Sp} (F : Fun K x qual st f fd) (S : FnScope N ps (defScope st)) (len : ∀ vs H Q E, sp vs H Q E → vs.length = ps.length)
    (hbody : ∀ (cdv : Value) (A : Around) (outer : List Env) (s : Shared) (H : Hp) (vs : List V) (Q : VK) (E : XK), A.guards = some [] →
      Room k (A.deeper (envOfC qual (defScope st) s.heap.objs.size f cdv)) → sp vs H Q E →
      ∃ t, PSs (cxOf CX P w K mg base N qual (defScope st) f cdv A outer s H E).nox (defBody st) t ∧ t { nx := fun _ H' => Q .non H', rt := Q } (start N vs) H) :
    FnG P w K mg base CX (k + 1) f fd ps sp := by
  obtain ⟨oc, od, kV, doc, pm, an, cdv, ct, osl, rfl, lk, hcd⟩ := F.ex
  constructor
  · exact len
  intro A outer s H args us vs Q E hg room env bind rel want
  have inh : K.In s.heap := env.mod.kin.keeps fun b o e => (env.bs b o e).1
  have nol : s.heap.NoLimit := env.mod.nolimit.keeps fun b o e => (env.bs b o e).1
  have kinds : ∀ y ∈ ps.zip us, (defScope st).names.lookup y.1 = some .local ∨
      ((defScope st).names.lookup y.1 = some .cell ∧ ((cellsFrom (s.heap.objs.size + 1) (defScope st).names []).lookup y.1).isSome = true) := by
    rintro ⟨n, v⟩ hy
    have hn := (List.of_mem_zip hy).1
    rcases S.par n hn with q | q
    · exact Or.inl q
    · exact Or.inr ⟨q, PySem.W.cellsFrom_some _ _ _ (Or.inl q)⟩
  have go := hbody cdv A outer s H vs Q E hg (room.deeper _) want
  obtain ⟨t, ht0, hq⟩ := go
  have ht := ht0.nox
  refine codeAny_call_function room.depth (inh _ _ lk) rfl S.co S.gen rfl (PySem.W.codeRec_of inh hcd) (bind _ _ _ _ ?_)
  refine wpAny_newFunctionEnv_cells S.kind kinds fun en hen s1 inc => ?_
  subst hen
  refine ⟨nol.keeps inc.toInCall.keep, codeAny_func ?_⟩
  have J := inv_start (CX := CX) (E := E) S room.hd env (len _ _ _ _ want) rel inc
  have R := ht.run [] s1 (start N vs) H _ J hq
  refine wpAny_mono R ?_ (fun _ _ z => z)
  intro fl s' z
  cases fl with
  | next => obtain ⟨σ', H', J', q⟩ := z; exact ⟨V.non, H', J'.os, J'.bare, J'.base, J'.hok, rfl, q⟩
  | ret u => obtain ⟨v, σ', H', J', rv, q⟩ := z; exact ⟨v, H', J'.os, J'.bare, J'.base, J'.hok, rv, q⟩
  | brk => obtain ⟨_, _, _, q⟩ := z; exact False.elim q
  | cont => obtain ⟨_, _, _, q⟩ := z; exact False.elim q

/-! ### the law, run by the claim's caller -/
theorem law_run {P : Program} {w : World} {K : PySem.W.Frag} {mg mb : Str → Option Value} {k : Nat} {fa a : Addr} {fd : FuncData} {x : Str} {sp : Sp} {s1 : Shared} {vs : List Value} {ns : List Int}
    (inK : K.In s1.heap) (gl : s1.heap.Ns mainGlobals mg) (bl : s1.heap.Ns builtinsNs mb) (bb : ∀ y : Str, y ≠ "__name__" → mb y = bootBuiltins y) (nl : s1.heap.NoLimit) (ge : s1.gens = #[])
    (obj : s1.heap.get? a = some { cls := .type "list", data := .seq vs.toArray }) (hIn : IntsAre vs ns) (len : ns.length ≤ sizeLine) (room : Room k callerA)
    (F : ∀ base : Heap, K.In base → base.Ns mainGlobals mg → FnG P w K mg base CX0 k fa fd [x] sp) (bnd : ∀ (s : Shared) (u : Value), BindsTo s fd ⟨[u], []⟩ [(x, u)])
    (pr : ∀ H : Hp, Only H → SqL K H a (ns.map V.int) → sp [.ref a] H (fun v _ => v = .bl true) E0) :
    codeAny (model P w) callerA (.call (.ref fa) ⟨[.ref a], []⟩) (fun r s' => r = .ok (.ret (.bool true)) ∧ OldK s1.heap s'.heap ∧ s'.os = s1.os ∧ AllBare s'.gens) s1 := by
  have rel := vals_ints hIn
  have lv := hIn.length
  have main : ∀ H : Hp, Only H → SqL K H a (ns.map V.int) → HOk P w H s1.heap → (∀ b, H b ≠ none → b = a) → (H a ≠ none → K.lookup a = none) →
      codeAny (model P w) callerA (.call (.ref fa) ⟨[.ref a], []⟩) (fun r s' => r = .ok (.ret (.bool true)) ∧ OldK s1.heap s'.heap ∧ s'.os = s1.os ∧ AllBare s'.gens) s1 := by
    intro H onl sq hok onlyA freeK
    have noD : ∀ {b : Addr} {o : Obj} {es : Array DictEntry} {n : Nat}, s1.heap.get? b = some o → o.data = .dict es n → H b = none := by
      intro b o es n e d
      rcases hq : H b with _ | u
      · rfl
      · have eb : b = a := onlyA b (by rw [hq]; intro z; cases z)
        rw [eb, obj] at e
        cases e
        exact Data.noConfusion d
    have keepNs : ∀ {b : Addr} {m : Str → Option Value}, s1.heap.Ns b m → (hidT s1.heap H).Ns b m := by
      rintro b m ⟨o, es, n, e, d, r⟩
      exact ⟨o, es, n, hidT_get e (noD e d), d, r⟩
    have inB : K.In (hidT s1.heap H) := by
      intro b o e
      refine hidT_get (inK b o e) ?_
      rcases hq : H b with _ | u
      · rfl
      · have nn : H b ≠ none := by rw [hq]; intro z; cases z
        have eb := onlyA b nn
        rw [eb] at nn e
        rw [freeK nn] at e
        cases e
    obtain ⟨mc, c1, c2⟩ := nl
    have md : Mod K mg (hidT s1.heap H) := ⟨inB, keepNs gl, ⟨mb, keepNs bl, bb⟩, ⟨mc, keepNs c1, c2⟩⟩
    have env : Env0 P w K mg (hidT s1.heap H) callerA [] s1 H :=
      ⟨rfl, md, fun b o e => of_hidT e, Nat.le_of_eq (hidT_size _ _), trivial, (fun b hb => (List.not_mem_nil (show b ∈ ([] : List Addr) from hb)).elim), hok, AllBare.of_eq ge⟩
    have R := (F _ inB (keepNs gl)).run callerA [] s1 H ⟨[.ref a], []⟩ [.ref a] [.ref a] (fun v _ => v = .bl true) E0 rfl room env (bnd s1 (.ref a)) (.cons rfl .nil) (pr H onl sq)
    refine codeAny_mono R ?_
    intro r s' z
    match r, z with
    | .ok (.ret u), z =>
      obtain ⟨v, H', eo, br, un, hok', rv, ev⟩ := z
      subst ev
      cases rv
      refine ⟨rfl, OldK.of_keep ?_, eo, br⟩
      intro b o e
      rcases hq : H b with _ | u
      · exact un.keep b o e hq (fun z => (List.not_mem_nil (show b ∈ ([] : List Addr) from z)).elim) (fun z => (List.not_mem_nil z).elim)
      · rcases onl b with q | ⟨ob, xs, q⟩
        · rw [hq] at q
          cases q
        · have f1 := (hok b _ q).1
          have f2 := (hok' b _ (un.frzs b ob _ q)).1
          rw [e] at f1
          cases f1
          exact f2
  rcases hk : K.lookup a with _ | o
  · let H : Hp := fun b => if b = a then some (.frz { cls := .type "list", data := .seq vs.toArray } (.lst (ns.map V.int))) else none
    have at_a : H a = some (.frz { cls := .type "list", data := .seq vs.toArray } (.lst (ns.map V.int))) := if_pos rfl
    have off : ∀ b, b ≠ a → H b = none := fun b hb => if_neg hb
    refine main H (fun b => ?_) (.inl (.inr ⟨_, at_a⟩)) (fun b u z => ?_) (fun b z => ?_) (fun _ => hk)
    · by_cases hb : b = a
      · subst hb
        exact Or.inr ⟨_, _, at_a⟩
      · exact Or.inl (off b hb)
    · by_cases hb : b = a
      · subst hb
        rw [at_a] at z
        cases z
        exact ⟨obj, by rw [List.length_map]; exact len, vs, _, rel, obj⟩
      · rw [off b hb] at z
        cases z
    · by_cases hb : b = a
      · exact hb
      · exact absurd (off b hb) z
  · have e := inK a o hk
    rw [obj] at e
    cases e
    refine main (fun _ => none) (fun _ => Or.inl rfl) (Or.inr ⟨_, vs.toArray, _, hk, rfl, rfl, rfl, ?_, by simpa using rel⟩) (fun b u z => nomatch z) (fun b z => absurd rfl z) (fun z => absurd rfl z)
    rw [List.size_toArray, lv]
    exact len

theorem walk_run {l : PySem.W.OpenLaw} {n k : Nat} {q : Program} {loose : List Str} {XP : (Str → Option Value) → Heap → Prop} {YP : World → Heap → Prop} {d : DefRec} {K : Params → PySem.W.Frag} {sp : PySem.W.Frag → Sp} {x : Str}
    (hn : l.most = some n) (hn2 : n ≤ sizeLine) (hdf : d.params.defaults = []) (room : Room k callerA) (hY : ∀ (w : World) (h : Heap), YP w h → (K w.params).In h)
    (F : ∀ (w : World) (mg : Str → Option Value) (fa : Addr) (h : Heap), (K w.params).In h → h.Ns mainGlobals mg → mg d.name = some (.ref fa) →
      ∃ fd : FuncData, (∀ (s : Shared) (u : Value), BindsTo s fd ⟨[u], []⟩ [(x, u)]) ∧
        ∀ base : Heap, (K w.params).In base → base.Ns mainGlobals mg → FnG l.prog w (K w.params) mg base CX0 k fa fd [x] (sp (K w.params)))
    (pr : ∀ (K : PySem.W.Frag) (H : Hp) (a : Addr) (ns : List Int), ns.length ≤ n → (∀ z ∈ ns, Builtin.Int.intBits z ≤ 1048576) → SqL K H a (ns.map V.int) → sp K [.ref a] H (fun v _ => v = .bl true) E0) :
    PySem.W.WalkO q loose XP YP l.row.toRowW d [] (fun f vs => PySem.call f vs) := by
  refine Att.attach_callB hn hdf ?_
  intro w s0 s1 mg mb fa o pm cd doc a vs ns G Y ho hd hcd hmg hobj hints hlen hbits hg
  obtain ⟨fd, hb, hF⟩ := F w mg fa _ (hY w _ Y) G.T.g hmg
  exact law_run (hY w _ Y) G.T.g G.T.b G.T.builtins G.T.nolimit hg hobj hints (Nat.le_trans hlen hn2) room hF hb (fun H _ hS => pr _ H a ns hlen hbits hS)
end Mc

namespace Mc
open PySem PySem.Spec PyProof.Rows L2

/-! ### == and != of an instance with the text's own `__eq__` -/
/-- the other side's type -/
inductive RT (H : Hp) : V → Value → Prop where
  | non : RT H .non (.type "NoneType")
  | int (i : Int) : RT H (.int i) (.type "int")
  | bl (b : Bool) : RT H (.bl b) (.type "bool")
  | str (z : Str) : RT H (.str z) (.type "str")
  | lst {a : Addr} {xs : List V} (e : H a = some (.lst xs)) : RT H (.ref a) (.type "list")
  | dK {a : Addr} {xs : List (Key × V)} (e : H a = some (.dK xs)) : RT H (.ref a) (.type "dict")
  | ins {a C dx : Addr} {fs : List (Str × V)} (e : H a = some (.ins C dx fs)) : RT H (.ref a) (.ref C)

theorem typ_at {M : Model} {h : Heap} {y : Addr} {o : Obj} {c : Value} (ho : h.get? y = some o) (hc : o.cls = c) : PySem.W.Looks M h (typeOf (.ref y)) c :=
  hc ▸ (PySem.W.Looks.ld ho).andThen .now

theorem RT.looks {X : Cx} {pins : List (Addr × Obj)} {σ : L2.St} {H : Hp} {s : Shared} {M : Model} {y : V} {u t : Value} (I : Inv X pins σ H s) (r : RT H y t) (ru : RelV y u) : PySem.W.Looks M s.heap (typeOf u) t := by
  cases r with
  | non => cases (show u = Value.none from ru); exact PySem.W.Looks.of_pure rfl
  | int i => obtain ⟨k, q⟩ := (show ∃ k, u = Value.int i k from ru); cases q; exact PySem.W.Looks.of_pure rfl
  | bl b => cases (show u = Value.bool b from ru); exact PySem.W.Looks.of_pure rfl
  | str z => obtain ⟨k, q⟩ := (show ∃ k, u = Value.str z k from ru); cases q; exact PySem.W.Looks.of_pure rfl
  | @lst a xs e =>
    cases (show u = Value.ref a from ru)
    obtain ⟨_, _, n, _, h1⟩ := (show ObjOk X.prog X.w H s.heap a (.lst xs) from I.hok a _ e)
    exact typ_at h1 rfl
  | @dK a xs e =>
    cases (show u = Value.ref a from ru)
    obtain ⟨_, _, vs, _, o, es, ep, h1, h2, _⟩ := (show ObjOk X.prog X.w H s.heap a (.dK xs) from I.hok a _ e)
    exact typ_at h1 h2.1
  | @ins a C dx fs e =>
    cases (show u = Value.ref a from ru)
    obtain ⟨mA, J, _⟩ := ins_get I.hok e
    obtain ⟨od, J, _⟩ := J.look
    exact J.type

theorem nf_ins {K : PySem.W.Frag} {C : Addr} : PySem.W.notFirst K C (.ref C) = true := by simp [PySem.W.notFirst]
theorem nf_ty {K : PySem.W.Frag} {C : Addr} {n : String} {l : List Value} (e : fastBuiltinMro n = some l) (hl : l.contains (.ref C) = false) : PySem.W.notFirst K C (.type n) = true := by
  have q : PySem.W.subIn K (.type n) (.ref C) = some false := by
    show (fastBuiltinMro n).map (·.contains (.ref C)) = some false
    rw [e, Option.map_some, hl]
  simp [PySem.W.notFirst, q]
theorem nf_none {K : PySem.W.Frag} {C : Addr} : PySem.W.notFirst K C (.type "NoneType") = true := nf_ty (l := [.type "NoneType", .type "object"]) (by decide +kernel) (by simp)
theorem nf_int {K : PySem.W.Frag} {C : Addr} : PySem.W.notFirst K C (.type "int") = true := nf_ty (l := [.type "int", .type "object"]) (by decide +kernel) (by simp)
theorem nf_list {K : PySem.W.Frag} {C : Addr} : PySem.W.notFirst K C (.type "list") = true := nf_ty (l := [.type "list", .type "object"]) (by decide +kernel) (by simp)

section
variable {prog : Program} {w : World} {A : Around} {E : Value → Shared → Prop} {s : Shared} {K : PySem.W.Frag} {x C L f : Addr} {h0 : Heap} {m : Str → Option Value} {ox : Obj} {od : Option Obj} {b tb : Value}
open PySem.W
theorem bound_ne {M : Model} {args : List Value} {Q : Option Value → Shared → Prop} (X : K.In s.heap) (I : InstAt s.heap x ox C od) (hs : findIn K (.ref C) "__ne__" = some (some (.builtin "object.__ne__")))
    (h : wpAny M A (call (.builtin "object.__ne__") (.ref x :: args)) (fun v => Q (some v)) E s) : wpAny M A (callSpecialIfBound? (.ref x) "__ne__" args) Q E s := by
  have all : wpAny M A (call (.builtin "object.__ne__") ([.ref x] ++ args) >>= fun v => pure (some v)) Q E s :=
    wpAny_bind (wpAny_mono h (fun v s' q => wpAny_pure q) (fun _ _ q => q))
  simp only [callSpecialIfBound?, bindSpecialIfBound?]
  refine wpAny_holding (wpAny_bind (wpAny_bind (wpAny_bind (I.type.here ((looks_findIn X hs).here ?_)))))
  refine wpAny_bind (wpAny_askSetting (wpAny_ite ?_))
  split
  · exact wpAny_bind (wpAny_of_eq (F.cmp_object.ne.bind _) (wpAny_pure (by exact all)))
  · exact wpAny_tryCatch (wpAny_bind (wpAny_of_eq (F.cmp_object.ne.bind _) (wpAny_pure (by exact all))))

theorem ne_body (hu : A.units < cLine) (X : K.In s.heap) (I : InstAt s.heap x ox C od) (he : findIn K (.ref C) "__eq__" = some (some (.ref f))) (hf : isFn K (.ref f) = true) {Q : Fin → Shared → Prop}
    (h : wpAny (model prog w) A (call (.ref f) [.ref x, b]) (fun v s' => ∃ r, v = .bool r ∧ Q (.done (.ret (.bool (!r)))) s') E s) :
    wpAny (model prog w) A (Builtin.«object.__ne__» ⟨[.ref x, b], []⟩) Q E s := by
  unfold Builtin.«object.__ne__»
  repeat (first
    | with_reducible refine wpAny_cRoomFor hu ?_
    | (refine wpAny_bind (m := callSpecialIfBound? (.ref x) (Str.ofString "__eq__") [b]) (ifBound_K X I he hf (wpAny_mono h (fun v s' q => ?_) fun _ _ e => e)); obtain ⟨r, rfl, q⟩ := q)
    | exact q
    | exact wpAny_pure q
    | (refine wpAny_bind (m := truthy (.bool _)) (wpAny_truthy_bool ?_))
    | wp_step)

theorem ne_K (hu : A.units + 1 < cLine) (Fm : Fr h0 L s.heap m) (X0 : K.In h0) (I : InstAt s.heap x ox C od) (hb : Looks (model prog w) s.heap (typeOf b) tb) (hn : notFirst K C tb = true)
    (hs : findIn K (.ref C) "__ne__" = some (some (.builtin "object.__ne__"))) (he : findIn K (.ref C) "__eq__" = some (some (.ref f))) (hf : isFn K (.ref f) = true) (hm : mroIn K C (.type "object") = some true)
    {Q : Value → Shared → Prop} (h : wpAny (model prog w) A.in1 (call (.ref f) [.ref x, b]) (fun v s' => ∃ r, v = .bool r ∧ Q (.bool (!r)) s') E s) :
    wpAny (model prog w) A (richCompare .NotEq (.ref x) b) Q E s := by
  have X := X0.keeps Fm.keep
  have one : wpAny (model prog w) A (tryCompare (.ref x) (cmpInfo .NotEq).2.1 b) (fun r s' => ∃ v, r = some v ∧ Q v s') E s := by
    unfold tryCompare
    refine wpAny_bind (bound_ne X I hs (wpAny_call (codeAny_call_builtin F.cmp_object.ne.plain F.cmpEntry_ne (check_slot F.cmpKind_ne F.cmpSplit_ne (I.type.andThen (looks_mroIn X hm)) (F.cmpArgs_ne _ _) ?_))))
    refine ne_body (A := A.in1) (by show A.units + 1 < cLine; exact hu) X I he hf (wpAny_mono h (fun v s' q => ?_) fun _ _ e => e)
    obtain ⟨r, rfl, q⟩ := q
    first | exact ⟨r, rfl, wpAny_pure ⟨_, rfl, q⟩⟩ | exact ⟨r, rfl, ⟨_, rfl, q⟩⟩ | exact ⟨r, rfl, wpAny_pure (wpAny_pure ⟨_, rfl, q⟩)⟩
  unfold richCompare
  simp only [oneThing_ref]
  refine wpAny_holding (wpAny_bind (wpAny_cRoomFor (Nat.lt_of_succ_lt hu) ?_))
  refine wpAny_bind (I.type.here (wpAny_bind (hb.here ?_)))
  have fin : wpAny (model prog w) A (tryCompare (.ref x) (cmpInfo .NotEq).2.1 b) (fun r s' => ∃ v, r = some v ∧ Q v s') E s := one
  split
  · rename_i q
    have e : subIn K tb (.ref C) = some false := by
      rcases Bool.or_eq_true_iff.mp hn with e | e
      · rw [beq_iff_eq.mp e] at q
        simp at q
      · exact beq_iff_eq.mp e
    refine wpAny_bind ((looks_subIn X e).here ?_)
    simp only [Bool.false_eq_true, if_false]
    refine wpAny_bind (wpAny_mono one ?_ fun _ _ e => e)
    rintro r s' ⟨v, rfl, hq⟩
    exact wpAny_pure hq
  · refine wpAny_bind (wpAny_pure ?_)
    simp only [Bool.false_eq_true, if_false]
    refine wpAny_bind (wpAny_mono one ?_ fun _ _ e => e)
    rintro r s' ⟨v, rfl, hq⟩
    exact wpAny_pure hq
end

section
variable {X : Cx} {CX : CXT} {k : Nat} {C f : Addr} {fd : FuncData} {ps : List Str} {sp : Sp} {E : XK}
/-- the way a def is run from within, at another place that has the same frames -/
theorem run_in {A : Around} {pins : List (Addr × Obj)} {σ : L2.St} {H : Hp} {s : Shared} {Q : VK} {us : List Value} {vs : List V} (fr : A.frames = X.A.frames) (G : FnOk X.prog X.w X.K X.mg X.base CX k f fd ps sp) (hr : Room k A)
    (hb : Binds X.K fd ps []) (hx : Passes CX X E) (I : Inv X pins σ H s) (r : Vals vs us) (h : sp vs H Q E) : wpAny (model X.prog X.w) A (call (.ref f) us) (EP X pins σ Q) X.xe s := by
  have e0 : Env0 X.prog X.w X.K X.mg X.base A X.stack s H := by
    have e := I.env0
    exact ⟨fr.trans e.frames, e.mod, e.bs, e.bsz, e.funs, e.frf, e.hok, e.bare⟩
  have hl : (us ++ ([] : List Value)).length = ps.length := by
    rw [List.append_nil, ← r.length]
    exact G.len _ _ _ _ h
  have bd := hb s us I.kIn hl
  rw [List.append_nil] at bd
  refine wpAny_call (codeAny_mono (G.run A X.stack s H ⟨us, []⟩ us vs Q E hr e0 bd r h) ?_)
  intro z s' hz
  match z, hz with
  | .error e, hz => exact hx pins σ H s e s' I hz
  | .ok (.ret u), hz => exact I.after hz

def rCmpO (C : Addr) (sp : Sp) (E : XK) (K : PySem.W.Frag) (neg : Bool) : R2 := fun x y H Q => ∃ (a dx : Addr) (fs : List (Str × V)) (t : Value), x = .ref a ∧ H a = some (.ins C dx fs) ∧ RT H y t ∧ PySem.W.notFirst K C t = true ∧
  sp [x, y] H (fun v H' => ∃ b, v = .bl b ∧ Q (.bl (if neg then !b else b)) H') E

structure OwnCmp (K : PySem.W.Frag) (C f : Addr) : Prop where
  eq : PySem.W.findIn K (.ref C) "__eq__" = some (some (.ref f))
  fn : PySem.W.isFn K (.ref f) = true
  ne : PySem.W.findIn K (.ref C) "__ne__" = some (some (.builtin "object.__ne__"))
  ob : PySem.W.mroIn K C (.type "object") = some true

theorem op_eqO (G : FnOk X.prog X.w X.K X.mg X.base CX k f fd ps sp) (O : OwnCmp X.K C f) (hb : Binds X.K fd ps []) (hx : Passes CX X E) (hr : Room k X.A) : OpR X (compareOp .Eq) (rCmpO C sp E X.K false) := by
  intro pins s σ H x y u v Q I rx ry h
  obtain ⟨a, dx, fs, t, rfl, ha, rt, nf, q⟩ := h
  cases rx
  obtain ⟨mA, J, _⟩ := ins_get I.hok ha
  obtain ⟨od, J, _⟩ := J.look
  obtain ⟨m, hF⟩ := I.fr
  show wpAny (model X.prog X.w) X.A (richCompare .Eq (.ref a) v) (EP X pins σ Q) X.xe s
  refine PySem.W.cmp_K (op := .Eq) (tb := t) hr.units0 hF I.ok.mod.kin J (rt.looks I ry) nf O.eq O.fn ?_
  refine thn (run_in rfl G hr hb hx I (.cons (show RelV (.ref a) (.ref a) from rfl) (.cons ry .nil)) q) ?_
  rintro w s' ⟨z, H', I', rz, b, rfl, q'⟩
  cases rz
  exact ⟨.bl b, H', I', rfl, q'⟩

theorem op_neO (G : FnOk X.prog X.w X.K X.mg X.base CX k f fd ps sp) (O : OwnCmp X.K C f) (hb : Binds X.K fd ps []) (hx : Passes CX X E) (hr : Room (k + 1) X.A) : OpR X (compareOp .NotEq) (rCmpO C sp E X.K true) := by
  intro pins s σ H x y u v Q I rx ry h
  obtain ⟨a, dx, fs, t, rfl, ha, rt, nf, q⟩ := h
  cases rx
  obtain ⟨mA, J, _⟩ := ins_get I.hok ha
  obtain ⟨od, J, _⟩ := J.look
  obtain ⟨m, hF⟩ := I.fr
  show wpAny (model X.prog X.w) X.A (richCompare .NotEq (.ref a) v) (EP X pins σ Q) X.xe s
  refine ne_K (tb := t) (by have := hr.units; omega) hF I.ok.mod.kin J (rt.looks I ry) nf O.ne O.eq O.fn O.ob ?_
  refine thn (run_in (A := X.A.in1) rfl G hr.in1 hb hx I (.cons (show RelV (.ref a) (.ref a) from rfl) (.cons ry .nil)) q) ?_
  rintro w s' ⟨z, H', I', rz, b, rfl, q'⟩
  cases rz
  exact ⟨b, rfl, .bl (!b), H', I', rfl, q'⟩
end
end Mc

namespace Mc
open PySem PySem.Spec PyProof.Rows L2
open AutoSeq1 (wpAny_loadPart')

/-! ### a tuple times nought or one -/
theorem mul_nought (l : Addr) (y : Value) (n : Nat) (dd : Option Addr) (sl : Array (Option Value)) (u : Tok) :
    Meets (Builtin.«tuple.__mul__» ⟨[.ref l, .int 0 u], []⟩) (fun _ R s => s.heap.get? l = some { cls := .type "tuple", dict := dd, data := .seq #[y] n, slots := sl } ∧
      R (.ok (.ret (Value.ref s.heap.objs.size))) { s with heap := s.heap.push { cls := Value.type "tuple", data := Data.seq #[] }, toks := s.toks }) := by
  refine .of_wp ?_
  rintro prog w A R ⟨hp, g, d, tk, os⟩ ⟨hl, h⟩
  have f1 := AutoSeq1.idx_int
  wp_walk using wpAny_loadPart' hl
  exact ⟨_, rfl, h⟩
theorem mul_single (l : Addr) (y : Value) (n : Nat) (dd : Option Addr) (sl : Array (Option Value)) (u : Tok) :
    Meets (Builtin.«tuple.__mul__» ⟨[.ref l, .int 1 u], []⟩) (fun _ R s => s.heap.get? l = some { cls := .type "tuple", dict := dd, data := .seq #[y] n, slots := sl } ∧
      R (.ok (.ret (Value.ref l))) s) := by
  refine .of_wp ?_
  rintro prog w A R ⟨hp, g, d, tk, os⟩ ⟨hl, h⟩
  have f1 := AutoSeq1.idx_int
  wp_walk using wpAny_loadPart' hl
  exact ⟨_, rfl, h⟩

/-- (v,) * k, k of 0, 1, 2 -/
def rRepS (K : PySem.W.Frag) : R2 := fun x y H Q => ∃ (l : Addr) (k : Int) (v : V), x = .ref l ∧ y = .int k ∧ SqT K H l [v] ∧ 0 ≤ k ∧ k ≤ 1000 ∧
  (k = 1 → Q (.ref l) H) ∧ (k ≠ 1 → ∀ p, H p = none → Q (.ref p) (upd H p (.tup (List.replicate k.toNat v))))

theorem op_repS {X : Cx} : OpR X (binaryOp .Mult) (rRepS X.K) := by
  intro pins s σ H x y v u Q I rx ry h
  obtain ⟨l, k, z, rfl, rfl, hT, k0, k1, q1, q2⟩ := h
  by_cases hk : 2 ≤ k
  · refine op_repT pins s σ H (.ref l) (.int k) v u Q I rx ry ⟨l, k, [z], rfl, rfl, hT, by simp, hk, k1, (by show 1 ≤ 1000; decide), fun p hp => ?_⟩
    have e : (List.replicate k.toNat [z]).flatten = List.replicate k.toNat z := by
      generalize k.toNat = n
      induction n with
      | zero => rfl
      | succ n ih => rw [List.replicate_succ, List.flatten_cons, ih, List.replicate_succ]; rfl
    rw [e]
    exact q2 (by omega) p hp
  · cases rx
    obtain ⟨t, rfl⟩ := ry
    obtain ⟨its, r, ⟨⟨cls, dd, data, sl⟩, ho, hc, n, hd⟩, hs⟩ := I.tuple hT
    simp only at hc hd
    subst hc hd
    match its, r with
    | [y], .cons ry .nil =>
      have hk' : k = 0 ∨ k = 1 := by omega
      rcases hk' with rfl | rfl
      · refine wpAny_binaryOp_repeat_ref (T := "tuple") (U := "int") (by decide) ⟨_, ho, rfl⟩ (fun s' => typeIs_int s' 0 t) noFill_tuple_mul F.fills_int_mul F.slot_int_rmul repeat_tuple F.slot_int_index.lookup
          (call_meets F.slot_int_rmul (typeIs_int s 0 t) F.entry_int_rmul (F.args_int_rmul_2 _ _) (int_rmul_tuple 0 t l #[y] n dd sl)
            ⟨ho, rfl, ⟨_, ho, rfl⟩, call_meets F.slot_tuple_mul ⟨_, ho, rfl⟩ F.entry_tuple_mul (F.args_tuple_mul_2 _ _) (mul_nought l y n dd sl t) ⟨ho, ?_⟩⟩)
        refine ⟨.ref s.heap.objs.size, _, I.laid (t' := s.toks) (o := .tup []) (fun b ob q => Heap.get?_push_of_some _ q) (Nat.le_refl _) ?_, rfl, q2 (by decide) _ (I.hok.fresh (Nat.le_refl _))⟩
        exact ⟨Nat.zero_le _, _, .nil, IsTup.new _ _⟩
      · refine wpAny_binaryOp_repeat_ref (T := "tuple") (U := "int") (by decide) ⟨_, ho, rfl⟩ (fun s' => typeIs_int s' 1 t) noFill_tuple_mul F.fills_int_mul F.slot_int_rmul repeat_tuple F.slot_int_index.lookup
          (call_meets F.slot_int_rmul (typeIs_int s 1 t) F.entry_int_rmul (F.args_int_rmul_2 _ _) (int_rmul_tuple 1 t l #[y] n dd sl)
            ⟨ho, rfl, ⟨_, ho, rfl⟩, call_meets F.slot_tuple_mul ⟨_, ho, rfl⟩ F.entry_tuple_mul (F.args_tuple_mul_2 _ _) (mul_single l y n dd sl t) ⟨ho, ?_⟩⟩)
        exact ⟨.ref l, H, I, rfl, q1 rfl⟩
end Mc

namespace Mc
open PySem PySem.Spec PyProof.Rows L2

/-- a new tuple, a new list -/
abbrev TupG (Q : VK) (xs : List V) (H1 : Hp) : Prop := xs.length ≤ sizeLine ∧ ∀ p, H1 p = none → Q (.ref p) (upd H1 p (.tup xs))
abbrev LstG (Q : VK) (xs : List V) (H1 : Hp) : Prop := xs.length ≤ sizeLine ∧ ∀ p, H1 p = none → Q (.ref p) (upd H1 p (.lst xs))
section
variable {σ : L2.St} {H : Hp} {Q : VK} {QB : Bool → Hp → Prop} {QA : List V → Hp → Prop} {QS : L2.St → Hp → Prop} {D : Ends} {ta tb te : TE} {tt tu : TT} {t u : TS} {tr tk : TA} {r : R2} {v x y : V} {i : Nat} {K : PySem.W.Frag}
theorem g_var (h : σ[i]? = some (some v)) (q : Q v H) : tVar i σ H Q := ⟨v, h, q⟩
theorem g_c (q : Q v H) : tC v σ H Q := q
theorem g_op (q : ta σ H fun x H1 => tb σ H1 fun y H2 => r x y H2 Q) : tOp r ta tb σ H Q := q
theorem g_un {r : V → Hp → VK → Prop} (q : ta σ H fun x H1 => r x H1 Q) : tUn r ta σ H Q := q
theorem g_test (q : te σ H fun x H' => ∃ k, x = .bl k ∧ QB k H') : tTest te σ H QB := q
theorem g_B (q : te σ H fun x H' => ∃ k, x = .bl k ∧ QB k H') : tB te σ H QB := q
theorem g_bl {b : Bool} (q : QB b H) : ∃ k, V.bl b = .bl k ∧ QB k H := ⟨b, rfl, q⟩
theorem g_blV {b : Bool} {P : Bool → Prop} (q : P b) : ∃ k, V.bl b = .bl k ∧ P k := ⟨b, rfl, q⟩
theorem g_ifS (q : tt σ H fun b H1 => if b = true then t D σ H1 else u D σ H1) : tIfS tt t u D σ H := q
theorem g_if (q : tt σ H fun c H1 => if c = true then ta σ H1 Q else tb σ H1 Q) : tIf tt ta tb σ H Q := q
theorem g_not (q : tt σ H fun c H1 => QB (!c) H1) : tNot tt σ H QB := q
theorem g_and (q : tt σ H fun c H1 => if c = true then tu σ H1 QB else QB false H1) : tAnd tt tu σ H QB := q
theorem g_or (q : tt σ H fun c H1 => if c = true then QB true H1 else tu σ H1 QB) : tOr tt tu σ H QB := q
theorem g_notV (q : ta σ H fun x H1 => ∃ c, x = .bl c ∧ Q (.bl (!c)) H1) : tNotV ta σ H Q := q
theorem g_andV (q : ta σ H fun x H1 => ∃ c, x = .bl c ∧ if c = true then tb σ H1 Q else Q (.bl false) H1) : tAndV ta tb σ H Q := q
theorem g_orV (q : ta σ H fun x H1 => ∃ c, x = .bl c ∧ if c = true then Q (.bl true) H1 else tb σ H1 Q) : tOrV ta tb σ H Q := q
theorem g_seq (q : t { D with nx := u D } σ H) : tSeq t u D σ H := q
theorem g_next (q : D.nx σ H) : tNext D σ H := q
theorem g_asg {g : TG} (q : te σ H fun x H1 => g x σ H1 D.nx) : tAsg te g D σ H := q
theorem g_name (q : QS (σ.set i (some v)) H) : gName i v σ H QS := q
theorem g_drop (q : te σ H fun _ H1 => D.nx σ H1) : tDrop te D σ H := q
theorem g_ret (q : te σ H D.rt) : tRet te D σ H := q
theorem g_retN (q : D.rt .non H) : tRetN D σ H := q
theorem g_brk (q : D.bk σ H) : tBreak D σ H := q
theorem g_cont (q : D.ct σ H) : tCont D σ H := q
theorem g_call {sp : Sp} {dvs : List V} {E : XK} (q : tr σ H fun vs H1 => sp (vs ++ dvs) H1 Q E) : tCall sp dvs E tr σ H Q := q
theorem g_cb {r : List V → Hp → VK → Prop} (q : tr σ H fun vs H1 => r vs H1 Q) : tCB r tr σ H Q := q
theorem g_nil (q : QA [] H) : tNil σ H QA := q
theorem g_cons (q : te σ H fun x H1 => tr σ H1 fun xs H2 => QA (x :: xs) H2) : tCons te tr σ H QA := q
theorem g_tup (q : tr σ H fun xs H1 => TupG Q xs H1) : tTup tr σ H Q := q
theorem g_lst (q : tr σ H fun xs H1 => LstG Q xs H1) : tLst tr σ H Q := q
theorem g_prop {C : Addr} {sp : Sp} {dvs : List V} {E : XK} (q : ta σ H fun x H1 => ∃ a dx fs, x = .ref a ∧ H1 a = some (.ins C dx fs) ∧ sp (.ref a :: dvs) H1 Q E) : tProp C sp dvs E ta σ H Q := q
theorem g_fld {f : Str} (q : ta σ H fun x H1 => ∃ a C dx fs v, x = .ref a ∧ H1 a = some (.ins C dx fs) ∧ Cls K C ∧ NoAttr K C f ∧ fs.lookup f = some v ∧ Q v H1) : tFld K ta f σ H Q := q
theorem g_meth {C : Addr} {m : Str} {sp : Sp} {dvs : List V} {E : XK} (q : ta σ H fun x H1 => ∃ a dx fs, x = .ref a ∧ H1 a = some (.ins C dx fs) ∧ fs.lookup m = none ∧
  tr σ H1 fun vs H2 => sp (x :: (vs ++ dvs)) H2 Q E) : tMeth C m sp dvs E ta tr σ H Q := q
theorem g_eq {x y : V} (h : scal x y = true) (q : Q (.bl (decide (x = y))) H) : rEq x y H Q := ⟨h, q⟩
theorem g_ne {x y : V} (h : scal x y = true) (q : Q (.bl (!decide (x = y))) H) : rNe x y H Q := ⟨h, q⟩
theorem g_I0 {g : Int → Int → V} {a b : Int} (q : Q (g a b) H) : rI0 g (.int a) (.int b) H Q := ⟨a, b, rfl, rfl, q⟩
theorem g_I {C : Int → Int → Prop} {g : Int → Int → V} {a b : Int} (h : C a b) (q : Q (g a b) H) : rI C g (.int a) (.int b) H Q := ⟨a, b, rfl, rfl, h, q⟩
theorem g_iteT {A B : Prop} (h : A) : if true = true then A else B := by rw [if_pos rfl]; exact h
theorem g_iteF {A B : Prop} (h : B) : if false = true then A else B := by rw [if_neg Bool.false_ne_true]; exact h
theorem g_add {a b : Int} (q : Q (.int (a + b)) H) : rAdd (.int a) (.int b) H Q := ⟨a, b, rfl, rfl, q⟩
theorem g_sub {a b : Int} (q : Q (.int (a - b)) H) : rSub (.int a) (.int b) H Q := ⟨a, b, rfl, rfl, q⟩
theorem g_lc {r : List V → Hp → VK → Prop} (q : tr σ H fun vs H1 => r vs H1 Q) : tCB r tr σ H Q := q
theorem g_bm {T : String} {r : V → List V → Hp → VK → Prop} (q : te σ H fun x H1 => tyV K T x H1 ∧ tr σ H1 fun xs H2 => r x xs H2 Q) : tBM K T r te tr σ H Q := q
theorem g_ixL {p : Addr} {xs : List V} {k : Int} (h : SqL K H p xs) (e : atI xs k = some v) (q : Q v H) : rIxL K (.ref p) (.int k) H Q := ⟨p, xs, k, v, rfl, rfl, h, e, q⟩
theorem g_ixT {p : Addr} {xs : List V} {k : Int} (h : SqT K H p xs) (e : atI xs k = some v) (q : Q v H) : rIxT K (.ref p) (.int k) H Q := ⟨p, xs, k, v, rfl, rfl, h, e, q⟩
end

/-- one step of a reading -/
local macro_rules | `(tactic| walk_at "rd1") => `(tactic| first
  | with_reducible refine g_seq ?_
  | with_reducible refine g_asg ?_
  | with_reducible refine g_name ?_
  | with_reducible refine g_c ?_
  | with_reducible refine g_op ?_
  | with_reducible refine g_ifS ?_
  | with_reducible refine g_if ?_
  | with_reducible refine g_test ?_
  | with_reducible refine g_B ?_
  | with_reducible refine g_bl ?_
  | with_reducible refine g_blV ?_
  | with_reducible refine g_not ?_
  | with_reducible refine g_and ?_
  | with_reducible refine g_or ?_
  | with_reducible refine g_notV ?_
  | with_reducible refine g_andV ?_
  | with_reducible refine g_orV ?_
  | with_reducible refine g_ret ?_
  | with_reducible refine g_drop ?_
  | with_reducible refine g_next ?_
  | with_reducible refine g_retN ?_
  | with_reducible refine g_call ?_
  | with_reducible refine g_cb ?_
  | with_reducible refine g_cons ?_
  | with_reducible refine g_nil ?_
  | with_reducible refine g_tup ?_
  | with_reducible refine g_lst ?_
  | with_reducible refine g_prop ?_
  | with_reducible refine g_fld ?_
  | with_reducible refine g_meth ?_
  | with_reducible refine g_un ?_
  | with_reducible refine g_bm ?_
  | with_reducible refine g_iteT ?_
  | with_reducible refine g_iteF ?_
  | with_reducible refine g_I0 ?_
  | with_reducible refine g_add ?_
  | with_reducible refine g_sub ?_
  | ((with_reducible refine' g_var ?hv ?_); (case hv => rfl))
  | ((with_reducible refine g_eq ?hv ?_); (case hv => rfl))
  | ((with_reducible refine g_ne ?hv ?_); (case hv => rfl)))
local macro_rules | `(tactic| walk_at "rd") => `(tactic| repeat (walk_at "rd1"))

example {X : Cx} {Q : VK} {H : Hp} (q : Q (.int 5) H) : (tSeq (tAsg (tOp rAdd (tC (.int 2)) (tC (.int 3))) (gName 0)) (tRet (tVar 0))) { nx := fun _ _ => False, rt := Q } [none] H := by
  walk_at "rd"
  exact q
end Mc

namespace Mc
open PySem PySem.Spec PyProof.Rows L2

/-! ### defs and their calls -/
structure Def (K : PySem.W.Frag) (mg : Str → Option Value) (x : Str) (st : Stmt) (ps : List Str) : Prop where
  ex : ∃ (f : Addr) (fd : FuncData), Fun K x x st f fd ∧ mg x = some (.ref f) ∧ Binds K fd ps []
structure Cal (P : Program) (w : World) (K : PySem.W.Frag) (mg : Str → Option Value) (base : Heap) (k : Nat) (x : Str) (sp : Sp) : Prop where
  ex : ∃ (f : Addr) (fd : FuncData) (ps : List Str), FnOk P w K mg base CX0 k f fd ps sp ∧ mg x = some (.ref f) ∧ PySem.W.keepIn K (.ref f) = true ∧ Binds K fd ps []
section
variable {P : Program} {w : World} {K : PySem.W.Frag} {mg : Str → Option Value} {base : Heap}
theorem cal_of {x : Str} {st : Stmt} {N ps : List Str} {k : Nat} {sp : Sp} (D : Def K mg x st ps) (S : FnScope N ps (defScope st)) (len : ∀ vs H Q E, sp vs H Q E → vs.length = ps.length)
    (hbody : ∀ (f : Addr) (cdv : Value) (A : Around) (outer : List Env) (s : Shared) (H : Hp) (vs : List V) (Q : VK) (E : XK), Room k (A.deeper (envOfC x (defScope st) s.heap.objs.size f cdv)) → sp vs H Q E →
      ∃ t, PSs (cxOf CX0 P w K mg base N x (defScope st) f cdv A outer s H E).nox (defBody st) t ∧ t { nx := fun _ H' => Q .non H', rt := Q } (start N vs) H) : Cal P w K mg base (k + 1) x sp := by
  obtain ⟨f, fd, F, hm, b⟩ := D.ex
  exact ⟨f, fd, ps, F.ok S len (hbody f), hm, F.kp, b⟩
end
section
variable {X : Cx} {k j : Nat} {x : Str} {sp : Sp} {p pos : Pos} {e : Expr} {es : List Expr} {t : TA}
theorem pe_f (c : Cal X.prog X.w X.K X.mg X.base k x sp) (hr : Room j X.A) (hk : k ≤ j) (hg : Gl X x) (ha : PA X (e :: es) t)
    (hdb : (x == ("__debug__" : Str)) = false := by decide) (he : starEach (e :: es) X.env = (false, eval e X.env) :: starEach es X.env := by rfl) (hpl : (backTo pos (starEach es X.env)).any (·.1) = false := by rfl) :
    PE X (.Call (.Name x p) (e :: es) [] pos) (tCall sp [] E0 t) := by
  obtain ⟨f, fd, ps, G, hm, kp, b⟩ := c.ex
  exact pe_call G (hr.mono hk) hg hm kp b .nil pass0 ha hdb he hpl
theorem pe_gx {v : V} (hg : Gl X x) (h : ∃ u, X.mg x = some u ∧ RelV v u) (hd : (x == ("__debug__" : Str)) = false := by decide) : PE X (.Name x pos) (tC v) :=
  h.elim fun u hu => pe_glob hg hu.1 hu.2 hd
theorem pe_ty (n : String) (hg : Gl X x) (hm : X.mg x = none) (hv : bootBuiltins x = some (.type n)) (hn : x ≠ "__name__" := by decide) (hd : (x == ("__debug__" : Str)) = false := by decide) : PE X (.Name x pos) (tC (.ty n)) :=
  pe_bltn (v := .ty n) (u := .type n) hg hm hv rfl hn hd
end

/-! ### kinds of values -/
inductive TyB (K : PySem.W.Frag) (H : Hp) : V → String → Prop where
  | non : Mc.TyB K H .non "NoneType"
  | bl (b : Bool) : Mc.TyB K H (.bl b) "bool"
  | int (i : Int) : Mc.TyB K H (.int i) "int"
  | str (z : Str) : Mc.TyB K H (.str z) "str"
  | lst {a : Addr} {xs : List V} (e : H a = some (.lst xs)) : Mc.TyB K H (.ref a) "list"
  | tup {a : Addr} {xs : List V} (e : H a = some (.tup xs)) : Mc.TyB K H (.ref a) "tuple"
  | dK {a : Addr} {xs : List (Key × V)} (e : H a = some (.dK xs)) : Mc.TyB K H (.ref a) "dict"
  | kTup {a : Addr} {o : Obj} (e : K.lookup a = some o) (c : o.cls = .type "tuple") : Mc.TyB K H (.ref a) "tuple"
theorem TyB.x {K : PySem.W.Frag} {H : Hp} {v : V} {n : String} (h : Mc.TyB K H v n) : TyX K H v (.type n) := by
  cases h with
  | non => exact .base .non
  | bl b => exact .base (.bl b)
  | int i => exact .base (.int i)
  | str z => exact .base (.str z)
  | lst e => exact .base (.lst e)
  | tup e => exact .base (.tup e)
  | dK e => exact .base (.dK e)
  | kTup e c => exact .kTuple e c
theorem g_isi {K : PySem.W.Frag} {H : Hp} {Q : VK} {v : V} {n m : String} {b : Bool} (h : Mc.TyB K H v n) (e : kitB n m = some b) (q : Q (.bl b) H) : rIsi K [v, .ty m] H Q :=
  ⟨v, .ty m, .type n, .type m, b, rfl, .ty m, h.x, kit_ty e, q⟩
theorem g_chain {σ : L2.St} {H : Hp} {Q : VK} {r r' : R2} {ta tb tc : TE} (q : ta σ H fun x H1 => tb σ H1 fun y H2 => r x y H2 fun z H3 => ∃ k, z = .bl k ∧ (if k = true then tc σ H3 fun w' H4 => r' y w' H4 Q else Q (.bl false) H3)) : tChain r r' ta tb tc σ H Q := q
theorem g_sfld {K : PySem.W.Frag} {σ : L2.St} {H : Hp} {D : Ends} {ta tv : TE} {f : Str} (q : tv σ H fun y H1 => ta σ H1 fun x H2 => ∃ a C dx fs, x = .ref a ∧ H2 a = some (.ins C dx fs) ∧ Cls K C ∧ NoAttr K C f ∧ fs.length < 1000 ∧ D.nx σ (upd H2 a (.ins C dx (putF f y fs)))) : sFld K ta tv f D σ H := q
theorem g_gsub {σ : L2.St} {H : Hp} {Q : L2.St → Hp → Prop} {to ti : TE} {t : TSet} {v : V} (q : to σ H fun o H1 => ti σ H1 fun i H2 => t o i v H2 fun H3 => Q σ H3) : gSub to ti t v σ H Q := q
theorem g_make {σ : L2.St} {H : Hp} {Q : VK} {C : Addr} {sp : Sp} {dvs : List V} {E : XK} {t : TA} (q : t σ H fun vs H1 => ∀ x dx, H1 x = none → H1 dx = none → dx ≠ x →
  sp (.ref x :: (vs ++ dvs)) (upd (upd H1 dx (.own x)) x (.ins C dx [])) (fun v H2 => v = .non ∧ Q (.ref x) H2) E) : tMake C sp dvs E t σ H Q := q
theorem g_makeK {σ : L2.St} {H : Hp} {Q : VK} {C : Addr} {n m : Nat} {sp : Sp} {gV : List V → List V → List V} {E : XK} {t tk : TA} (q : t σ H fun vs H1 => tk σ H1 fun zs H2 => vs.length = n ∧ zs.length = m ∧ ∀ x dx, H2 x = none → H2 dx = none → dx ≠ x →
  sp (gV (.ref x :: vs) zs) (upd (upd H2 dx (.own x)) x (.ins C dx [])) (fun v H3 => v = .non ∧ Q (.ref x) H3) E) : tMakeK C n m sp gV E t tk σ H Q := q
theorem g_yes {σ : L2.St} {H : Hp} {Q : Bool → Hp → Prop} (q : Q true H) : tYes σ H Q := q
theorem g_ite {c : Bool} {A B : Prop} (h1 : c = true → A) (h2 : c = false → B) : if c = true then A else B := by
  cases c
  · exact g_iteF (h2 rfl)
  · exact g_iteT (h1 rfl)
theorem kb_int {n : String} (h : n ∈ ["NoneType", "bool", "int", "str", "list", "tuple", "dict"]) : kitB n "int" = some (n == "int" || n == "bool") := by
  simp only [List.mem_cons, List.not_mem_nil, or_false] at h
  rcases h with rfl | rfl | rfl | rfl | rfl | rfl | rfl <;> decide +kernel
theorem kb_bool {n : String} (h : n ∈ ["NoneType", "bool", "int", "str", "list", "tuple", "dict"]) : kitB n "bool" = some (n == "bool") := by
  simp only [List.mem_cons, List.not_mem_nil, or_false] at h
  rcases h with rfl | rfl | rfl | rfl | rfl | rfl | rfl <;> decide +kernel
theorem kb_str {n : String} (h : n ∈ ["NoneType", "bool", "int", "str", "list", "tuple", "dict"]) : kitB n "str" = some (n == "str") := by
  simp only [List.mem_cons, List.not_mem_nil, or_false] at h
  rcases h with rfl | rfl | rfl | rfl | rfl | rfl | rfl <;> decide +kernel
theorem kb_tuple {n : String} (h : n ∈ ["NoneType", "bool", "int", "str", "list", "tuple", "dict"]) : kitB n "tuple" = some (n == "tuple") := by
  simp only [List.mem_cons, List.not_mem_nil, or_false] at h
  rcases h with rfl | rfl | rfl | rfl | rfl | rfl | rfl <;> decide +kernel
theorem TyB.mem {K : PySem.W.Frag} {H : Hp} {v : V} {n : String} (h : Mc.TyB K H v n) : n ∈ ["NoneType", "bool", "int", "str", "list", "tuple", "dict"] := by
  cases h <;> decide

def isI : V → Bool
  | .int _ => true
  | _ => false
def btw (v : V) (a b : Int) : Bool := match v with
  | .int i => decide (a ≤ i) && decide (i ≤ b)
  | _ => false

local macro_rules | `(tactic| walk_at "rd1") => `(tactic| first
  | with_reducible refine g_seq ?_
  | with_reducible refine g_asg ?_
  | with_reducible refine g_name ?_
  | with_reducible refine g_c ?_
  | with_reducible refine g_op ?_
  | with_reducible refine g_ifS ?_
  | with_reducible refine g_if ?_
  | with_reducible refine g_test ?_
  | with_reducible refine g_B ?_
  | with_reducible refine g_bl ?_
  | with_reducible refine g_blV ?_
  | with_reducible refine g_not ?_
  | with_reducible refine g_and ?_
  | with_reducible refine g_or ?_
  | with_reducible refine g_notV ?_
  | with_reducible refine g_andV ?_
  | with_reducible refine g_orV ?_
  | with_reducible refine g_ret ?_
  | with_reducible refine g_drop ?_
  | with_reducible refine g_next ?_
  | with_reducible refine g_retN ?_
  | with_reducible refine g_call ?_
  | with_reducible refine g_cb ?_
  | with_reducible refine g_cons ?_
  | with_reducible refine g_nil ?_
  | with_reducible refine g_tup ?_
  | with_reducible refine g_lst ?_
  | with_reducible refine g_prop ?_
  | with_reducible refine g_fld ?_
  | with_reducible refine g_meth ?_
  | with_reducible refine g_chain ?_
  | with_reducible refine g_yes ?_
  | with_reducible refine g_make ?_
  | with_reducible refine g_makeK ?_
  | with_reducible refine g_gsub ?_
  | with_reducible refine g_sfld ?_
  | with_reducible refine g_un ?_
  | with_reducible refine g_bm ?_
  | with_reducible refine g_iteT ?_
  | with_reducible refine g_iteF ?_
  | with_reducible refine g_I0 ?_
  | with_reducible refine g_add ?_
  | with_reducible refine g_sub ?_
  | ((with_reducible refine' g_var ?hv ?_); (case hv => rfl))
  | ((with_reducible refine g_eq ?hv ?_); (case hv => rfl))
  | ((with_reducible refine g_ne ?hv ?_); (case hv => rfl)))
local macro_rules | `(tactic| walk_at "rd") => `(tactic| repeat (walk_at "rd1"))

/-! ### is_integer, is_between -/
def spIsInt (K : PySem.W.Frag) : Sp := fun vs H Q _ => ∃ v n, vs = [v] ∧ Mc.TyB K H v n ∧ Q (.bl (isI v)) H
def spBtw (K : PySem.W.Frag) : Sp := fun vs H Q _ => ∃ v n a b, vs = [v, .int a, .int b] ∧ Mc.TyB K H v n ∧ Q (.bl (btw v a b)) H
end Mc

namespace Mx
open PySem PySem.Spec PyProof.Rows L2
open PySem.W (KxsFacts kxs_mw ks_superIn)
section
variable {prog : Program} {w : World} {A : Around} {E : Value → Shared → Prop} {h : Heap} {g : Array GenState} {d : Drawn} {t : Nat} {os : OsState}
theorem call_mw {B nI iI : String} {bmB : List Value} (FB : ExcBaseFacts B nI iI bmB) {nm q : Str} {C N : Addr} {bs bm : List Value} {hdct : Bool} {sn : List Str} {sub : List Value} {ab : Bool} {col : Option Bool} {dd : Option Addr} {k0 k1 k2 k3 k5 : Option Value}
    {mw x t0 : Addr} {us : List Value} {R : Value → Shared → Prop} (atC : h.get? C = some (excClassObj nm q C N bs bm hdct sn sub ab col dd k0 k1 k2 k3 k5 nI)) (atX : h.get? x = some (HandSPX.excO C t0)) (atW : h.get? mw = some (kxs_mw iI x)) (lim : us.length ≤ sizeLine)
    (then_ : ∀ g' t1, (∀ b o, b ≠ x → h.get? b = some o → g'.get? b = some o) → g'.get? x = some (HandSPX.excO C t1) → R .none ⟨g', g, d, t, os⟩) : wpAny (model prog w) A (call (.ref mw) us) R E ⟨h, g, d, t, os⟩ := by
  have three : (Value.type "method-wrapper" == Value.type "method" || Value.type "method-wrapper" == Value.type "builtin_function_or_method" || Value.type "method-wrapper" == Value.type "method-wrapper") = true := by decide
  refine wpAny_call (codeAny_of_tree (show wpAny _ A.in1 (callAny (.ref mw) ⟨us, []⟩) _ _ _ from ?_))
  · simp only [callAny]
    refine wpAny_bind (wpAny_load atW ?_)
    simp only [kxs_mw, three, if_true]
    refine PySem.W.KFB.if_so (by decide) (wpAny_bind (PySem.W.check_bound_init FB.toExcCallFacts atC atX rfl (wpAny_bind (wpAny_pure (wpAny_pure ⟨plainId_quiet FB.init.plain _, codeAny_builtin FB.initEntry ?_⟩)))))
    exact PySem.W.exc_init_tree (cls := .ref C) (t0 := t0) (dv := none) (c2 := .none) (c3 := .none) (b4 := .bool false) atX lim fun g' keep at_ _ => then_ g' _ keep at_
end
section
variable {X : Cx} {pins : List (Addr × Obj)} {σ : L2.St} {H : Hp} {s : Shared}
/-- super().__init__("..") in an own exception's __init__, as the first statement of the body -/
theorem super_at {body : List Stmt} {qual file z : Str} {scope : Scope} {L f cda cc x C : Addr} {fd : FuncData} {ar : Arg} {vs : Array Value} {tf : Tok} {oc ccl cl : Value} {od cdd cld : Option Addr} {osl ccs csl : Array (Option Value)} {j : Nat} {p0 p1 p2 p3 p4 p5 : Pos} {pl : Sem Bool} {Q : Flow → Shared → Prop} {E : Value → Shared → Prop}
    (I : Inv X pins σ H s) (hE : X.env = PySem.W.ksEnv qual scope L f (.ref cda) cc) (lf : X.K.lookup f = some ⟨oc, od, .func fd, osl⟩) (hp : (fd.params.posonlyargs ++ fd.params.args).head? = some ar)
    (hN : X.N[0]? = some ar.arg) (hσ : σ[0]? = some (some (.ref x))) (hcode : X.K.lookup cda = some ⟨ccl, cdd, .fields vs, ccs⟩) (hvs : vs[2]? = some (.str file tf)) (hfile : ((X.prog.main.file : Str) == file) = true)
    (hcell : X.K.lookup cc = some ⟨cl, cld, .cell (some (.ref C)), csl⟩) (T : OexC X.K C) (hs : ks_superIn X.K C C "__init__" = some (some (.builtin "ValueError.__init__"))) (hB : PySem.W.subIn X.K (.ref C) (.type "ValueError") = some true)
    (ho : PySem.W.nsIn X.K cStatics "thirdparty.any" = some none) (hsup : X.mg "super" = none) (hks : scope.names.lookup ("super" : Str) = some .globalImplicit) (hkc : scope.names.lookup ("__class__" : Str) = some .free) (hka : scope.names.lookup ar.arg = some .local) (hk : scope.kind = .function)
    (htop : (X.prog.main.scope.names.lookup ("super" : Str)).isSome = false) (hboot : bootBuiltins "super" = some (.type "super")) (ea : H x = some (exo x C none)) (q : ∀ s', Inv X pins σ H s' → Q .next s')
    (hc : eval (.Call (.Attribute (.Call (.Name "super" p0) [] [] p1) "__init__" p2) [.Constant (.str z) j p3] [] p4) (PySem.W.ksEnv qual scope L f (.ref cda) cc) = (do
      let ov ← attributeBase (.Call (.Name "super" p0) [] [] p1) "__init__" (PySem.W.ksEnv qual scope L f (.ref cda) cc) (eval (.Call (.Name "super" p0) [] [] p1) (PySem.W.ksEnv qual scope L f (.ref cda) cc))
      standAt p2.atName
      let (fv, first) ← holding [ov] (getMethod ov "__init__" pl)
      callWith p4 fv first (backTo p4 (starEach [.Constant (.str z) j p3] (PySem.W.ksEnv qual scope L f (.ref cda) cc))) []) := by rfl) :
    _root_.PySem.wpAt (model X.prog X.w) X.A (.func body X.env) (exec (.Expr (.Call (.Attribute (.Call (.Name "super" p0) [] [] p1) "__init__" p2) [.Constant (.str z) j p3] [] p4) p5) X.env) Q E s := by
  obtain ⟨nm, qn, N', bs, bm, sn, sub, ab, col, dd, k0, k1, k2, k3, k5, hC, hbm⟩ := T.cls
  have hcl : PySem.W.clsIn X.K C = some { name := nm, bases := bs, mro := .ref C :: bm, ns := N', qualname := qn, hasDict := true, slotNames := sn, subclasses := sub, abstract := ab, collection := col, hasDel := false } := by unfold PySem.W.clsIn; rw [hC] <;> rfl
  have KX := I.kIn
  obtain ⟨m, hns, hloc⟩ := id I.loc
  have hv : m ar.arg = some (.ref x) := by
    obtain ⟨u, ru, lk⟩ := hloc 0 ar.arg (.ref x) hN hσ (.inl (by rw [hE]; exact hka))
    obtain rfl : u = Value.ref x := ru
    rcases lk with ⟨_, h⟩ | ⟨h, _⟩
    · exact h
    · exfalso
      have e : X.env.kindOf ar.arg = some .local := by rw [hE]; exact hka
      rw [e] at h
      rcases h with h | h <;> cases h
  obtain ⟨t1, hx⟩ := exo_at I.hok ea
  have hmro : PySem.W.mroIn X.K C (.ref C) = some true := by
    unfold PySem.W.mroIn
    rw [hcl, Option.bind_some, if_neg (show ¬ (List.isEmpty (Value.ref C :: bm) = true) from Bool.false_ne_true), show ((Value.ref C :: bm).contains (.ref C)) = true by rw [List.contains_cons]; simp]
  have hglob := I.mod.glob
  obtain ⟨mb, hblt, hmb⟩ := I.mod.blt
  have bk := I.bk
  have IA : PySem.W.InstAt s.heap x { cls := .ref C, dict := none, data := .fields #[.ref t1, .none, .none, .none, .bool false, .none] } C none := ⟨hx, rfl, rfl, trivial⟩
  have hxC : x ≠ C := PySem.W.ks_ne KX IA hcl
  have hkk : X.env.scope.kind = .function := I.ok.kind
  obtain ⟨hh, g, d, t, os⟩ := s
  rw [hE]
  have hi : interactive (PySem.W.ksEnv qual scope L f (.ref cda) cc) = false := by
    unfold interactive
    rw [show (PySem.W.ksEnv qual scope L f (.ref cda) cc).scope.kind = .function from hk]
    rfl
  refine PySem.ks_wpAt_Expr_any (PySem.ks_wpAt_MethodCall ?_ hc) hi
  refine PySem.ks_wpAt_super_base (env := PySem.W.ksEnv qual scope L f (.ref cda) cc) hks hkc (by decide) rfl (KX _ _ lf) rfl hp rfl (KX _ _ hcode) rfl hvs hfile htop ?_
  refine PySem.W.ks_loadName_global hk hks (PySem.Calls.loadGlobal_builtin (env := PySem.W.ksEnv qual scope L f (.ref cda) cc) (hglob.keeps bk) hsup (hblt.keeps bk) ((hmb _ (by decide +kernel)).trans hboot) ⟨rfl, ?_⟩)
  refine wpAny_loadName_free hk hkc rfl ⟨_, KX _ _ hcell, rfl⟩ ?_
  refine wpAny_loadName_local hk hka (by have e : X.env.locals = L := by rw [hE]
                                         rw [← e]; exact hns) hv ?_
  refine ks_wpAny_isType_cls (KX _ _ hC) rfl ⟨rfl, ?_⟩
  refine ks_wpAny_call_super (KX _ _ hC) rfl hx rfl (fun c e => by cases e) (PySem.W.looks_mroIn KX hmro) (fun h1 e1 k1 => ?_)
  have I1 : Inv X pins σ H ⟨h1, g, d, t, os⟩ := I.kept (t' := t) k1
  have KX1 := I1.kIn
  have IA1 : PySem.W.InstAt h1 x { cls := .ref C, dict := none, data := .fields #[.ref t1, .none, .none, .none, .bool false, .none] } C none := ⟨k1 _ _ hx, rfl, rfl, trivial⟩
  have hs' : PySem.W.alongIn X.K "__init__" (((Value.ref C :: bm).dropWhile (· != .ref C)).drop 1) = some (some (.builtin "ValueError.__init__")) := by
    unfold ks_superIn at hs
    rw [hcl] at hs
    exact hs
  refine PySem.W.kxs_getMethod PySem.W.kxs_ValueError e1 (PySem.W.looks_opaque KX1 ho) (l₀ := .ref C :: bm) (fun A Q E s k q => wpAny_bind ((PySem.W.looks_clsIn KX1 hcl) A _ E s k (wpAny_pure q))) rfl KX1 hs' (IA1.type.andThen (PySem.W.looks_subIn KX1 hB)) hxC (by decide) ?_
  have I2 : Inv X pins σ H ⟨h1.push (kxs_mw "ValueError.__init__" x), g, d, t + 1, os⟩ := I1.kept (t' := t + 1) fun b o e => Heap.get?_push_of_some _ e
  refine PySem.W.kxs_callWith (i := "ValueError.__init__") (x := x) rfl (PySem.Calls.evalArgs_plain ?_)
  refine Calls.spliced_cons (Calls.Constant_str (k := j) (pos := p3) ?_)
  refine Calls.spliced_nil ?_
  have hmw : (h1.push (kxs_mw "ValueError.__init__" x)).get? h1.objs.size = some (kxs_mw "ValueError.__init__" x) := Heap.get?_push_size _ rfl
  refine ⟨hmw, ?_⟩
  refine call_mw F.excBase_ValueError (I2.kIn _ _ hC) (Heap.get?_push_of_some _ (k1 _ _ hx)) hmw (by show 1 ≤ sizeLine; decide) fun h' t2 k hx' => ?_
  have J := I2.write (t' := t + 1 + 1) (x := x) (e := x) (o := exo x C none) (by rw [ea]; exact True.intro) (.inl rfl) k ⟨_, hx'⟩ (exo_ok hx')
  have eu : upd H x (exo x C none) = H := by
    funext b
    by_cases hb : b = x
    · rw [hb, upd_same, ea]
    · rw [upd_ne hb]
  rw [eu] at J
  exact q _ J
end
open NdefX (NF ncx envF startF NScope CellsAt inv_startN)
/-- an own exception's __init__ whose first statement is super().__init__("..") -/
structure SupD (P : Program) (K : PySem.W.Frag) (x qual : Str) (params : Arguments) (body : List Stmt) (scope : Scope) (C f : Addr) (fd : FuncData) (cda cc : Addr) : Prop where
  ex : ∃ (oc : Value) (od : Option Addr) (dV kV doc pm : Value) (an : Option Addr) (ct : Value) (osl : Array (Option Value)) (ccl : Value) (cdd : Option Addr) (vs : Array Value) (ccs : Array (Option Value)) (cl : Value) (cld : Option Addr) (csl : Array (Option Value)) (file : Str) (tf : Tok),
    fd = PySem.W.ksFn x qual params body scope dV kV doc pm an (.ref cda) ct cc ∧ K.lookup f = some ⟨oc, od, .func fd, osl⟩ ∧ PySem.W.codeIn K (.ref cda) qual = true ∧ K.lookup cda = some ⟨ccl, cdd, .fields vs, ccs⟩ ∧ vs[2]? = some (.str file tf) ∧ ((P.main.file : Str) == file) = true ∧
    K.lookup cc = some ⟨cl, cld, .cell (some (.ref C)), csl⟩
/-- the class's facts -/
structure SupC (P : Program) (K : PySem.W.Frag) (mg : Str → Option Value) (C : Addr) : Prop where
  ox : OexC K C
  su : ks_superIn K C C "__init__" = some (some (.builtin "ValueError.__init__"))
  ve : PySem.W.subIn K (.ref C) (.type "ValueError") = some true
  tp : PySem.W.nsIn K cStatics "thirdparty.any" = some none
  sm : mg "super" = none
  top : (P.main.scope.names.lookup ("super" : Str)).isSome = false
theorem look_one {α : Type} (f g : Str) (y : α) : [(f, y)].lookup g = if g = f then some y else none := by
  by_cases h : g = f
  · subst h
    simp [List.lookup]
  · have e : (g == f) = false := by simpa using h
    rw [if_neg h]
    simp [List.lookup, e]
theorem boot_super : bootBuiltins "super" = some (.type "super") := by first | rfl | kernel_rfl
theorem fn_sup {CX : CXT} {P : Program} {w : World} {K : PySem.W.Frag} {mg : Str → Option Value} {base : Heap} {k : Nat} {C f cda cc : Addr} {fd : FuncData} {x qual z : Str} {params : Arguments} {rest : List Stmt} {scope : Scope} {N ps : List Str} {sp : Sp} {ar : Arg} {j : Nat} {p0 p1 p2 p3 p4 p5 : Pos}
    (D : SupD P K x qual params (.Expr (.Call (.Attribute (.Call (.Name "super" p0) [] [] p1) "__init__" p2) [.Constant (.str z) j p3] [] p4) p5 :: rest) scope C f fd cda cc) (T : SupC P K mg C) (S : NScope N ps ["__class__"] scope)
    (hp : (params.posonlyargs ++ params.args).head? = some ar) (hN : N[0]? = some ar.arg) (hks : scope.names.lookup ("super" : Str) = some .globalImplicit) (hka : scope.names.lookup ar.arg = some .local)
    (len : ∀ vs H Q E, sp vs H Q E → vs.length = ps.length)
    (hc : ∀ L : Addr, ∃ pl : Sem Bool, eval (.Call (.Attribute (.Call (.Name "super" p0) [] [] p1) "__init__" p2) [.Constant (.str z) j p3] [] p4) (PySem.W.ksEnv qual scope L f (.ref cda) cc) = (do
      let ov ← attributeBase (.Call (.Name "super" p0) [] [] p1) "__init__" (PySem.W.ksEnv qual scope L f (.ref cda) cc) (eval (.Call (.Name "super" p0) [] [] p1) (PySem.W.ksEnv qual scope L f (.ref cda) cc))
      standAt p2.atName
      let (fv, first) ← holding [ov] (getMethod ov "__init__" pl)
      callWith p4 fv first (backTo p4 (starEach [.Constant (.str z) j p3] (PySem.W.ksEnv qual scope L f (.ref cda) cc))) []))
    (hbody : ∀ (A : Around) (outer : List Env) (s : Shared) (H : Hp) (vs : List V) (Q : VK) (E : XK), sp vs H Q E →
      ∃ a, vs[0]? = some (.ref a) ∧ H a = some (exo a C none) ∧ ∃ t, PSs (ncx CX P w K mg base N ⟨x, qual, params, .Expr (.Call (.Attribute (.Call (.Name "super" p0) [] [] p1) "__init__" p2) [.Constant (.str z) j p3] [] p4) p5 :: rest, scope, [("__class__", cc)], cda⟩ f A outer s H E) rest t ∧
        t { nx := fun _ H' => Q .non H', rt := Q } (startF N vs [none]) H) : FnOk P w K mg base CX (k + 1) f fd ps sp := by
  obtain ⟨oc, od, dV, kV, doc, pm, an, ct, osl, ccl, cdd, vs', ccs, cl, cld, csl, file, tf, rfl, lf, hcd, hcode, hvs, hfile, hcell⟩ := D.ex
  refine ⟨len, fun A outer s H args us vs Q E hr e0 hb r hsp => ?_⟩
  have hl := len _ _ _ _ hsp
  have lim : s.heap.NoLimit := e0.mod.nolimit.keeps fun b o e => (e0.bs b o e).1
  have KX : K.In s.heap := e0.mod.kin.keeps fun b o e => (e0.bs b o e).1
  obtain ⟨FF, hFF⟩ : ∃ FF : NF, FF = ⟨x, qual, params, .Expr (.Call (.Attribute (.Call (.Name "super" p0) [] [] p1) "__init__" p2) [.Constant (.str z) j p3] [] p4) p5 :: rest, scope, [("__class__", cc)], cda⟩ := ⟨_, rfl⟩
  have hcl : FF.cl = [(("__class__" : Str), cc)] := by rw [hFF]
  have CA : CellsAt FF.cl ["__class__"] [none] s.heap H := by
    have key : ∀ y c, FF.cl.lookup y = some c → y = "__class__" ∧ c = cc := fun y c e => by
      rw [hcl, look_one] at e
      by_cases h : y = "__class__"
      · rw [if_pos h] at e
        cases e
        exact ⟨h, rfl⟩
      · rw [if_neg h] at e
        cases e
    refine ⟨rfl, fun y c e => ?_, fun y1 y2 c e1 e2 => (key _ _ e1).1.trans (key _ _ e2).1.symm, fun i y e => ?_⟩
    · obtain ⟨_, rfl⟩ := key _ _ e
      exact ⟨(e0.bs _ _ (e0.mod.kin _ _ hcell)).2, some (.ref C), _, KX _ _ hcell, rfl⟩
    · cases i with
      | zero =>
        have e : some ("__class__" : Str) = some y := e
        cases e
        exact ⟨cc, by rw [hcl, look_one, if_pos rfl], fun v hv => by
          have hv : some (none : Option V) = some (some v) := hv
          cases hv⟩
      | succ i =>
        have e : (none : Option Str) = some y := e
        cases e
  have hscope : FF.scope = scope := by rw [hFF]
  refine codeAny_call_function hr.depth (KX _ _ lf) rfl S.co S.gen rfl (PySem.W.codeRec_of KX hcd) (hb _ _ _ _ ?_)
  refine wpAny_newFunctionEnv S.nocell (fun ⟨n, _⟩ hy => S.par n (List.of_mem_zip hy).1) (fun h₁ hns hsb => ⟨lim.fresh _ hsb, ?_⟩) S.kind
  have kp : ∀ b o, s.heap.get? b = some o → h₁.get? b = some o := fun b o e => hsb.extBut b o (Nat.ne_of_lt (Heap.lt_size e)) (Heap.get?_push_of_some _ e)
  obtain ⟨a, ha, hea, t, ht, hq⟩ := hbody A outer s H vs Q E hsp
  rw [← hFF] at ht
  have I : Inv (ncx CX P w K mg base N FF f A outer s H E) [] (startF N vs [none]) H { s with heap := h₁, toks := s.toks + (ps.zip us).length } := inv_startN (hscope ▸ S) hr.hd e0 hl r CA hns kp
  subst hFF
  show codeAny _ _ (.func (.Expr (.Call (.Attribute (.Call (.Name "super" p0) [] [] p1) "__init__" p2) [.Constant (.str z) j p3] [] p4) p5 :: rest) (PySem.W.ksEnv qual scope s.heap.objs.size f (.ref cda) cc)) _ _
  refine ks_codeAny_funcAt (ks_wpAt_execs_cons ?_)
  obtain ⟨pl, hpl⟩ := hc s.heap.objs.size
  have hσ : (startF N vs [none])[0]? = some (some (.ref a)) := by
    unfold startF
    cases vs with
    | nil => cases ha
    | cons v vs =>
      have ha : some v = some (V.ref a) := ha
      cases ha
      rfl
  refine super_at (X := ncx CX P w K mg base N ⟨x, qual, params, .Expr (.Call (.Attribute (.Call (.Name "super" p0) [] [] p1) "__init__" p2) [.Constant (.str z) j p3] [] p4) p5 :: rest, scope, [("__class__", cc)], cda⟩ f A outer s H E) (pl := pl) I rfl lf hp hN hσ hcode hvs hfile hcell T.ox T.su T.ve T.tp T.sm hks (S.frk _ (List.mem_singleton.mpr rfl)) hka S.kind T.top boot_super hea (fun s2 I2 => ?_) hpl
  refine wpAt_of_wpAny ?_
  refine wpAny_mono (ht.run [] _ (startF N vs [none]) H _ I2 hq) (fun fl s' hs => ?_) fun e s' hs => hs
  have fin : ∀ {σ' : L2.St} {H' : Hp} {v : V} {u : Value}, Inv (ncx CX P w K mg base N ⟨x, qual, params, .Expr (.Call (.Attribute (.Call (.Name "super" p0) [] [] p1) "__init__" p2) [.Constant (.str z) j p3] [] p4) p5 :: rest, scope, [("__class__", cc)], cda⟩ f A outer s H E) [] σ' H' s' → L2.RelV v u → Q v H' → CE outer P w H s Q u s' :=
    fun {σ' H' v u} J rv q => ⟨v, H', J.os, J.bare, J.base, J.hok, rv, q⟩
  cases fl with
  | ret u =>
    obtain ⟨v, σ', H', J, rv, q⟩ := hs
    exact fin J rv q
  | next =>
    obtain ⟨σ', H', J, q⟩ := hs
    exact fin (v := V.non) (u := Value.none) J rfl q
  | brk =>
    obtain ⟨_, _, _, q⟩ := hs
    exact False.elim q
  | cont =>
    obtain ⟨_, _, _, q⟩ := hs
    exact False.elim q

/-- the class in a raise -/
structure ExK (P : Program) (w : World) (K : PySem.W.Frag) (mg : Str → Option Value) (base : Heap) (n : Str) (C f : Addr) (fd : FuncData) (ps : List Str) (sp : Sp) : Prop where
  iC : PySem.W.findIn K (.ref C) "__init__" = some (some (.ref f))
  tI : PySem.W.typeIn K (.ref f) = some (.type "function")
  ok : FnOk P w K mg base CX0 1 f fd ps sp
  bi : Binds K fd ps []
  gl : mg n = some (.ref C)
def spEx (C : Addr) (fld : Str) : Sp := fun vs H Q _ => ∃ a v, vs = [.ref a, v] ∧ H a = some (exo a C none) ∧ ∀ dx, H dx = none → dx ≠ a → Q .non (upd (upd H dx (exd dx [(fld, v)])) a (exo a C (some dx)))
def ExAs (C : Addr) (fld : Str) (W : XK) (vs : List V) (H1 : Hp) : Prop := vs.length ≤ 1000 ∧ ∀ a, H1 a = none → spEx C fld (.ref a :: (vs ++ [])) (upd H1 a (exo a C none))
  (fun v H2 => v = .non ∧ ∃ (d : Addr) (fs : List (Str × V)), H2 a = some (exo a C (some d)) ∧ H2 d = some (exd d fs) ∧ H1 d = none ∧ W (.ref C) (some d) (upd (del H2 a) d (.xd fs))) (fun _ _ _ => False)
theorem g_mko {C : Addr} {fld : Str} {ta : TA} {σ : L2.St} {H : Hp} {W : XK} (q : ta σ H fun vs H1 => ExAs C fld W vs H1) : tMkO C (spEx C fld) [] ta σ H W := q
theorem ex_as {C : Addr} {fld : Str} {H1 : Hp} {W : XK} {v : V} (h : ∀ d H', (∀ b o, H1 b = some o → H' b = some o) → H' d = some (.xd [(fld, v)]) → W (.ref C) (some d) H') : ExAs C fld W [v] H1 := by
  refine ⟨by show 1 ≤ 1000; decide, fun a ha => ⟨a, v, rfl, upd_same, fun dx hdx hne => ⟨rfl, dx, [(fld, v)], upd_same, ?_, ?_, ?_⟩⟩⟩
  · rw [upd_ne hne, upd_same]
  · rw [upd_ne hne] at hdx
    exact hdx
  · rw [upd_ne hne] at hdx
    refine h dx _ (fun b o hb => ?_) upd_same
    have b1 : b ≠ a := fun z => by rw [z, ha] at hb; cases hb
    have b2 : b ≠ dx := fun z => by rw [z, hdx] at hb; cases hb
    rw [upd_ne b2, del_ne b1, upd_ne b1, upd_ne b2, upd_ne b1]
    exact hb
/-- two promises of one def -/
theorem fn_or {P : Program} {w : World} {K : PySem.W.Frag} {mg : Str → Option Value} {base : Heap} {CX : CXT} {k : Nat} {f : Addr} {fd : FuncData} {ps : List Str} {sp1 sp2 : Sp} (F1 : FnOk P w K mg base CX0 k f fd ps sp1) (F2 : FnOk P w K mg base CX k f fd ps sp2) :
    FnOk P w K mg base CX k f fd ps (fun vs H Q E => sp1 vs H Q E ∨ sp2 vs H Q E) := by
  refine ⟨fun vs H Q E h => h.elim (F1.len _ _ _ _) (F2.len _ _ _ _), fun A outer s H args us vs Q E hr e0 hb r h => ?_⟩
  rcases h with h | h
  · refine codeAny_mono (F1.run A outer s H args us vs Q E hr e0 hb r h) fun r s' q => ?_
    cases r with
    | error e => exact False.elim q
    | ok fl => cases fl <;> exact q
  · exact F2.run A outer s H args us vs Q E hr e0 hb r h
/-! ### C(e, .., k = v, ..) in a try -/
section
variable {X : Cx} {CX : CXT} {k n : Nat} {f C : Addr} {fd : FuncData} {ps ks : List Str} {sp : Sp} {E : L2.St → XK} {x : Str} {p pos : Pos} {e : Expr} {es : List Expr} {kws : List Keyword} {t tk : TA} {g : List Value → List Value → List Value} {gV : List V → List V → List V}
def tMakeKS (C : Addr) (n m : Nat) (sp : Sp) (gV : List V → List V → List V) (E : L2.St → XK) (t tk : TA) : TE := fun σ H Q => tMakeK C n m sp gV (E σ) t tk σ H Q
theorem run_makeKS {pl : List (Addr × Obj)} {τ : L2.St} {G : Hp} {z : Shared} {R : VK} {EE : XK} {ua uk : List Value} {va vk : List V} (M : Mk X.K C f) (F : FnOk X.prog X.w X.K X.mg X.base CX k f fd ps sp) (room : Room (k + 1) X.A) (kb : KBn X.K fd ps (n + 1) ks g gV) (pass : PassesAt CX X τ EE)
    (I : Inv X pl τ G z) (ra : Vals va ua) (rk : Vals vk uk) (la : va.length = n) (lk : vk.length = ks.length)
    (want : ∀ a da, G a = none → G da = none → da ≠ a → sp (gV (.ref a :: va) vk) (upd (upd G da (.own a)) a (.ins C da [])) (fun v G2 => v = .non ∧ R (.ref a) G2) EE) : wpAny (model X.prog X.w) X.A (call (.ref C) ua (ks.zip uk)) (EP X pl τ R) X.xe z := by
  obtain ⟨top, htop⟩ : ∃ top, top = z.heap.objs.size := ⟨_, rfl⟩
  have q := want (z.heap.objs.size + 1) _ (I.hok.fresh (Nat.le_succ _)) (I.hok.fresh (Nat.le_refl _)) (Nat.ne_of_lt (Nat.lt_succ_self _))
  have J := Inv.made (C := C) I
  have rs : Vals (V.ref (z.heap.objs.size + 1) :: va) (Value.ref (z.heap.objs.size + 1) :: ua) := .cons rfl ra
  have len1 : (Value.ref (z.heap.objs.size + 1) :: ua).length = n + 1 := by simp [← ra.length, la]
  have runs := F.run _ X.stack _ _ ⟨Value.ref (z.heap.objs.size + 1) :: ua, ks.zip uk⟩ _ _ _ EE (room.make C ua (ks.zip uk)) (J.env0.make C ua (ks.zip uk)) (kb.to _ _ uk J.kIn len1 (rk.length ▸ lk)) (kb.rel rs rk) q
  refine wpAny_call (make_map (f := f) I.kIn M.makes M.init (beq_iff_eq.mp M.fn) (codeAny_mono runs fun res z2 hz => ?_))
  match res, hz with
  | .error e, hz => exact pass pl _ _ e z2 J hz
  | .ok (.ret u), hz =>
    obtain ⟨v, G2, J2, rv, ev, qq⟩ := J.after hz
    rw [ev] at rv
    exact ⟨rv, V.ref (z.heap.objs.size + 1), G2, J2, rfl, qq⟩
theorem pe_makeKS (M : Mk X.K C f) (F : FnOk X.prog X.w X.K X.mg X.base CX k f fd ps sp) (room : Room (k + 1) X.A) (hg : Gl X x) (hm : X.mg x = some (.ref C)) (kb : KBn X.K fd ps (n + 1) ks g gV) (pass : ∀ σ, PassesAt CX X σ (E σ)) (pa : PA X (e :: es) t) (pk : PK X kws tk)
    (h1 : (backToKw pos (keywordEach kws X.env)).all (·.1.isSome) = true := by rfl) (h2 : (backToKw pos (keywordEach kws X.env)).filterMap (·.1) = ks := by rfl) (h3 : (x == ("__debug__" : Str)) = false := by decide)
    (h4 : starEach (e :: es) X.env = (false, eval e X.env) :: starEach es X.env := by rfl) (h5 : ((backTo pos (starEach (e :: es) X.env)).any (·.1) || (backToKw pos (keywordEach kws X.env)).any (·.1.isNone)) = false := by rfl) :
    PE X (.Call (.Name x p) (e :: es) kws pos) (tMakeKS C n ks.length sp gV E t tk) :=
  ⟨fun pl z τ G R I q => wpAny_Call_Name_kw (ld_glob I hg hm (PySem.W.callWith_KW (h₀ := X.base) I.ok.mod.kin M.kp h1 (thn (pa.run pos pl z τ G _ I q) fun ua z1 ⟨va, G1, I1, ra, q1⟩ =>
    thn (pk.run pos pl z1 τ G1 _ I1 q1) fun uk z2 ⟨vk, G2, I2, rk, la, lk, q2⟩ => ⟨I2.kIn, by rw [h2]; exact run_makeKS M F room kb (pass τ) I2 ra rk la lk q2⟩) h5 h4) h3)⟩
end
end Mx

namespace Mx
open PySem PySem.Spec PyProof.Rows L2
/-! several clauses 'except x as n' -/
def endAs (i : Nat) (D : Ends) : Ends := { nx := fun σ' H' => D.nx (σ'.set i none) H', rt := D.rt, bk := fun σ' H' => D.bk (σ'.set i none) H', ct := fun σ' H' => D.ct (σ'.set i none) H' }
abbrev Clause := Value × Nat × (Addr → Value → Option Addr → TS)
def wMas (K : PySem.W.Frag) (Wout : WX) (D : Ends) : List Clause → WX
  | [] => Wout
  | (c, i, ts) :: l => fun cls d σ H => ∃ b, PySem.W.exmOne K cls c = some b ∧ (b = true → ∀ a, H a = none → ts a cls d (endAs i D) (σ.set i (some (.ref a))) H) ∧ (b = false → wMas K Wout D l cls d σ H)
inductive HdsAs (X : Cx) : List ExceptHandler → List Clause → Prop
  | nil : HdsAs X [] []
  | cons {x n : Str} {c : Value} {i : Nat} {ts : Addr → Value → Option Addr → TS} {b₀ : Stmt} {suite : List Stmt} {np pos' : Pos} {hds : List ExceptHandler} {l : List Clause} (hi : X.N[i]? = some n) (hl : X.env.kindOf n = some .local) (hc : Names X x c)
      (hsu : ∀ (a : Addr) (oe : Obj) (cls : Value) (d : Option Addr) (pn : List (Addr × Obj)), Zc cls d oe → (∃ vs, oe.data = .fields vs) → PSs (X.suite a ((a, oe) :: pn)) (b₀ :: suite) (ts a cls d)) (r : HdsAs X hds l) :
      HdsAs X (.ExceptHandler (some (.Name x np)) (some n) (b₀ :: suite) pos' :: hds) ((c, i, ts) :: l)
section
variable {X : Cx} {body : List Stmt} {g₀ : ExceptHandler} {gs : List ExceptHandler} {l : List Clause} {pos : Pos} {tb : WX → TS} {Wout : WX}
theorem ps_try_mas (hs : X.stack = X.env :: X.outer) (hf : X.env.frame = some X.env.locals) (nd : X.N.Nodup) (tk : Takes X Wout)
    (hb : ∀ (W : WX) (pn : List (Addr × Obj)) (xe : Value → Shared → Prop), Takes (X.tr pn xe) W → PassesOwn (model X.prog X.w) X.A X.env xe → PSs (X.tr pn xe) body (tb W))
    (hh : HdsAs X (g₀ :: gs) l) : PS X (.Try body (g₀ :: gs) [] [] pos) (fun D σ H => tb (wMas X.K Wout D l) D σ H) := by
  refine ⟨fun pins s σ H D I h => wpAny_Try_except ?_⟩
  have okX := I.ok
  have frX : X.A.frames = some (X.env :: X.outer) := okX.frames.trans (congrArg some hs)
  let xeT : Value → Shared → Prop := fun e s₁ => wpAny (model X.prog X.w) X.A (noteFrame e X.env) (fun _ s₂ => wpAny (model X.prog X.w) X.A (setFlight e none) (fun _ s₃ => wpAny (model X.prog X.w) X.A (handleBy e X.env (g₀ :: gs)) (SP X pins D) X.xe s₃) X.xe s₂) X.xe s₁
  refine wpAny_mono ((hb (wMas X.K Wout D l) (X.pn ++ pins) xeT (fun u s' z => ?_) PassesOwn.looking).run [] s σ H D (I.toTry _) h) (fun fl s1 z => ?_) fun _ _ z => z
  · obtain ⟨a, B, sI, pn1, σ1, H1, cls, d, rfl, JT, nb, up, sky, na, os, ag, w⟩ := z
    have J0 : Inv X pins σ1 H1 sI := JT.ofTry okX
    show wpAny _ X.A (noteFrame (.ref a) X.env) _ _ _
    refine Sky.land Zc.steady frX hf (by rw [← hs]; exact sky) fun hA flA upA => ?_
    have JA : Inv X pins σ1 H1 { s' with heap := hA } := J0.landed nb flA.1 (up.trans upA) os ag
    obtain ⟨oA, vA, eA, zA, dA⟩ := flA.there
    have nfr : a ∉ frs (X.env :: X.outer) := fun hm => by
      obtain ⟨_, o', e', hnf⟩ := flA.2.2.1.mem hm
      rw [eA] at e'
      cases e'
      exact hnf _ dA
    have nL : a ≠ X.env.locals := fun z => nfr (List.mem_filterMap.mpr ⟨X.env, List.mem_cons_self, hf.trans (congrArg some z.symm)⟩)
    have nF : a ∉ X.fs := fun hm => (List.mem_filterMap.mp hm).elim fun e he => nfr (List.mem_filterMap.mpr ⟨e, List.mem_cons_of_mem _ he.1, he.2⟩)
    have SA := JA.suite eA dA na nL nF
    have go : ∀ {hds : List ExceptHandler} {lc : List Clause}, HdsAs X hds lc → wMas X.K Wout D lc cls d σ1 H1 → wpAny (model X.prog X.w) X.A (handleBy (.ref a) X.env hds) (SP X pins D) X.xe { s' with heap := hA } := by
      intro hds lc hk
      induction hk with
      | nil =>
        intro w
        refine wpAny_handleBy_nil ?_
        obtain ⟨k1, k2, k3, oe, vs, T, oT, ts', he, hz, hd, h1, hr⟩ := flA
        have fin : wpAny (model X.prog X.w) X.A (setFlight (.ref a) X.env.frame) (fun _ s4 => wpAny (model X.prog X.w) X.A (throw (.ref a) : Sem Flow) (SP X pins D) X.xe s4) X.xe { s' with heap := hA } := by
          rw [hf]
          refine HandSPX.setFlight_upZ ⟨k1, k2, k3, oe, vs, T, oT, ts', he, hz, hd, h1, hr⟩ fun h4 hh4 up4 => wpAny_throw (tk _ _ ⟨a, B, sI, pins, σ1, H1, cls, d, rfl, J0, nb, (up.trans upA).trans up4, .inr (.inr (by rw [hs]; exact hh4)), na, os, ag, w⟩)
        unfold PySem.passOn
        refine wpAny_bind (wpAny_field he hd h1 ?_)
        rw [if_neg (by simp : ¬ ((Value.ref T == Value.none) = true))]
        first
          | exact wpAny_bind (wpAny_pure (wpAny_bind fin))
          | exact wpAny_bind fin
      | @cons x n c i ts b₀ suite np pos' hds2 l2 hi hl hc hsu r ih =>
        rintro ⟨b, hb1, hyes, hno⟩
        refine wpAny_handleBy_cons (codeAny_handlers_test ?_) (fun q => by cases q)
        have LM := PySem.W.exm_one (M := model X.prog X.w) (K := X.K) JA.kIn (fun A Q E s k q => wpAny_typeOf_ref (k _ _ eA) (by rw [zA.1]; exact q)) hb1
        have test : ∀ {Q E : Value → Shared → Prop}, Q c { s' with heap := hA } → wpAny (model X.prog X.w) (X.A.mark (some (.ref a))) (eval (.Name x np) X.env) Q E { s' with heap := hA } := by
          intro Q E q
          rcases hc with ⟨hg, hdbg, hm | ⟨hm, hv, hnn⟩⟩
          · exact ld_glob (X := X.suite a ((a, oA) :: (X.pn ++ pins))) SA hg hm q hdbg
          · exact ld_blt (X := X.suite a ((a, oA) :: (X.pn ++ pins))) SA hg hm hv q hnn hdbg
        refine test (LM.here ?_)
        cases b with
        | false => exact ih (hno rfl)
        | true =>
          refine codeAny_handlers_suite_as (HandSPX.lands_againZ flA fun hB flB upB => ?_)
          have JB : Inv X pins σ1 H1 { s' with heap := hB } := J0.landed nb flB.1 ((up.trans upA).trans upB) os ag
          obtain ⟨oB, vB, eB, zB, dB⟩ := flB.there
          refine store_ok (X := X.suite a ((a, oB) :: (X.pn ++ pins))) (v := .ref a) (JB.suite eB dB na nL nF) nd hi (.inl hl) rfl (fun s5 S5 => ?_) (.inr hl)
          refine wpAny_mono ((hsu a oB cls d (X.pn ++ pins) zB ⟨_, dB⟩).run [] s5 _ H1 _ S5 (hyes rfl a na)) (fun fl s6 z => ?_) fun _ _ z => z.elim
          have close : ∀ {σ6 : L2.St} {H6 : Hp} {Q : Shared → Prop}, Inv (X.suite a ((a, oB) :: (X.pn ++ pins))) [] σ6 H6 s6 → (∀ s7, Inv X pins (σ6.set i none) H6 s7 → Q s7) → wpAny (model X.prog X.w) X.A (do bindName X.env n .none; unbindBehindTheSuite X.env n pos') (fun _ s7 => Q s7) X.xe s6 :=
            fun S6 hq => gone_ok (S6.unsuite okX) nd hi hl hq
          cases fl with
          | ret u => exact z.elim fun v6 z => z.elim fun σ6 z => z.elim fun H6 z => close z.1 fun s7 J7 => ⟨_, _, _, J7, z.2.1, z.2.2⟩
          | next => exact z.elim fun σ6 z => z.elim fun H6 z => close z.1 fun s7 J7 => ⟨_, _, J7, z.2⟩
          | brk => exact z.elim fun σ6 z => z.elim fun H6 z => close z.1 fun s7 J7 => ⟨_, _, J7, z.2⟩
          | cont => exact z.elim fun σ6 z => z.elim fun H6 z => close z.1 fun s7 J7 => ⟨_, _, J7, z.2⟩
    exact go hh w
  · cases fl with
    | next => exact z.elim fun σ2 z => z.elim fun H2 z => wpAny_execs_nil ⟨σ2, H2, z.1.ofTry okX, z.2⟩
    | brk => exact z.elim fun σ2 z => z.elim fun H2 z => ⟨σ2, H2, z.1.ofTry okX, z.2⟩
    | cont => exact z.elim fun σ2 z => z.elim fun H2 z => ⟨σ2, H2, z.1.ofTry okX, z.2⟩
    | ret u => exact z.elim fun v z => z.elim fun σ2 z => z.elim fun H2 z => ⟨v, σ2, H2, z.1.ofTry okX, z.2.1, z.2.2⟩
end
end Mx

namespace Mx
open PySem PySem.Spec PyProof.Rows L2 Mc
/-! repr of any data, and calls of defs that show something -/
inductive ShowsV (K : PySem.W.Frag) (H : Hp) : V → Str → Prop
  | non : ShowsV K H .non "None"
  | bl (b : Bool) : ShowsV K H (.bl b) (if b then "True" else "False")
  | int {i : Int} (h : i.natAbs.log2 < 1920) : ShowsV K H (.int i) (toString i)
  | str {x : Str} (h : (reprText x).length ≤ sizeLine) : ShowsV K H (.str x) (reprText x)
  | ref {a : Addr} {d : PyData} (hd : Dp K H (.ref a) d) (hs : d.showable = true) (hx : d.hasDict = false) (hp : d.depth ≤ 40) (hz : d.shown.length ≤ sizeLine) : ShowsV K H (.ref a) d.shown
theorem dp_ext {K : PySem.W.Frag} {H H' : Hp} (e : ∀ b o, H b = some o → H' b = some o) {v : V} {d : PyData} (h : Dp K H v d) : Dp K H' v d := Dp.rec (motive_1 := fun v d _ => Dp K H' v d) (motive_2 := fun vs ds _ => DpAll K H' vs ds) .non .bl .int .str
  (fun s _ ih => .lst (s.imp (fun q => q.imp (e _ _) (fun ⟨o, q⟩ => ⟨o, e _ _ q⟩)) id) ih) (fun s _ ih => .tup (s.imp (fun q => q.imp (e _ _) (fun ⟨o, q⟩ => ⟨o, e _ _ q⟩)) id) ih) .nil (fun _ _ h1 h2 => .cons h1 h2) h
theorem ShowsV.ext {K : PySem.W.Frag} {H H' : Hp} (e : ∀ b o, H b = some o → H' b = some o) {v : V} {z : Str} (h : ShowsV K H v z) : ShowsV K H' v z := by
  cases h with
  | non => exact .non
  | bl b => exact .bl b
  | int h => exact .int h
  | str h => exact .str h
  | ref hd hs hx hp hz => exact .ref (dp_ext e hd) hs hx hp hz
def rReprA (K : PySem.W.Frag) : List V → Hp → VK → Prop := fun xs H Q => ∃ (v : V) (z : Str), xs = [v] ∧ ShowsV K H v z ∧ Q (.str z) H
theorem call_reprA {X : Cx} {K : PySem.W.Frag} (hg : X.A.guards = some []) (hu : X.A.units + 64 < cLine) (hK : X.K = K) : CallR X (.builtin "repr") (rReprA K) := by
  subst hK
  intro pins s σ H xs us Q I r h
  obtain ⟨v, z, rfl, hs, q⟩ := h
  cases r with
  | cons ru rn =>
    cases rn
    cases hs with
    | non =>
      cases ru
      exact PySem.P.repr_of_none ⟨.str _, H, I.tok _, ⟨_, rfl⟩, q⟩
    | bl b =>
      cases ru
      exact PySem.P.repr_of_bool ⟨.str _, H, I.tok _, ⟨_, rfl⟩, q⟩
    | int h =>
      obtain ⟨t, rfl⟩ := ru
      exact PySem.P.repr_of_int h ⟨.str _, H, I.tok _, ⟨_, rfl⟩, q⟩
    | str h =>
      obtain ⟨t, rfl⟩ := ru
      exact PySem.P.repr_of_str ⟨.str _, H, I.tok _, ⟨_, rfl⟩, q⟩ h
    | ref hd hs hx hp hz =>
      cases ru
      obtain ⟨as, R⟩ := Dp.reads I _ _ _ hd rfl
      exact repr_of_reads' R hs (fun e => by rw [hx] at e; cases e) hg (by omega) (fun b o e => e) (fun h' u tk hk => ⟨.str _, H, I.kept hk, ⟨u, rfl⟩, q⟩) hz
theorem ix_listK {X : Cx} {K : PySem.W.Frag} (hK : X.K = K) : IxR X (rIxL K) := hK ▸ ix_list
structure CalG (P : Program) (w : World) (K : PySem.W.Frag) (mg : Str → Option Value) (base : Heap) (k : Nat) (x : Str) (sp : Sp) : Prop where
  ex : ∃ (f : Addr) (fd : FuncData) (ps : List Str), FnG P w K mg base CX0 k f fd ps sp ∧ mg x = some (.ref f) ∧ PySem.W.keepIn K (.ref f) = true ∧ Binds K fd ps []
theorem calG_of {P : Program} {w : World} {K : PySem.W.Frag} {mg : Str → Option Value} {base : Heap} {x : Str} {st : Stmt} {N ps : List Str} {k : Nat} {sp : Sp} (D : Def K mg x st ps) (S : FnScope N ps (defScope st)) (len : ∀ vs H Q E, sp vs H Q E → vs.length = ps.length)
    (hbody : ∀ (f : Addr) (cdv : Value) (A : Around) (outer : List Env) (s : Shared) (H : Hp) (vs : List V) (Q : VK) (E : XK), A.guards = some [] → Room k (A.deeper (envOfC x (defScope st) s.heap.objs.size f cdv)) → sp vs H Q E →
      ∃ t, PSs (cxOf CX0 P w K mg base N x (defScope st) f cdv A outer s H E).nox (defBody st) t ∧ t { nx := fun _ H' => Q .non H', rt := Q } (start N vs) H) : CalG P w K mg base (k + 1) x sp := by
  obtain ⟨f, fd, F, hm, b⟩ := D.ex
  exact ⟨f, fd, ps, fnG_of F S len (hbody f), hm, F.kp, b⟩
section
variable {X : Cx} {k j : Nat} {x : Str} {sp : Sp} {p pos : Pos} {e : Expr} {es : List Expr} {t : TA}
theorem pe_fG (c : CalG X.prog X.w X.K X.mg X.base k x sp) (hgd : X.A.guards = some []) (hr : Room j X.A) (hk : k ≤ j) (hg : Gl X x) (ha : PA X (e :: es) t)
    (hdb : (x == ("__debug__" : Str)) = false := by decide) (he : starEach (e :: es) X.env = (false, eval e X.env) :: starEach es X.env := by rfl) (hpl : (backTo pos (starEach es X.env)).any (·.1) = false := by rfl) :
    PE X (.Call (.Name x p) (e :: es) [] pos) (tCall sp [] E0 t) := by
  obtain ⟨f, fd, ps, G, hm, kp, b⟩ := c.ex
  refine ⟨fun pins s σ H Q I h => wpAny_Call_Name_kw (ld_glob I hg hm (PySem.W.callWith_K (h₀ := X.base) I.ok.mod.kin kp (thn (ha.run pos pins s σ H _ I h) fun us s1 ⟨vs, H1, I1, r, q⟩ => ⟨I1.kIn, ?_⟩) he hpl) hdb)⟩
  have q : sp vs H1 Q E0 := by
    have q : sp (vs ++ []) H1 Q E0 := q
    rw [List.append_nil] at q
    exact q
  have hl : us.length = ps.length := by
    rw [← r.length]
    exact G.len _ _ _ _ q
  have bb := b s1 us I1.kIn (by rw [List.append_nil]; exact hl)
  rw [List.append_nil] at bb
  refine wpAny_call (codeAny_mono (G.run X.A X.stack s1 H1 ⟨us, []⟩ us vs Q E0 hgd (hr.mono hk) I1.env0 bb r q) fun r s' z => ?_)
  cases r with
  | error e => exact False.elim z
  | ok fl =>
    cases fl with
    | ret u => exact I1.after z
    | next => exact z.elim
    | brk => exact z.elim
    | cont => exact z.elim
theorem pe_f0 (c : Cal X.prog X.w X.K X.mg X.base k x sp) (hr : Room j X.A) (hk : k ≤ j) (hg : Gl X x) (hdb : (x == ("__debug__" : Str)) = false := by decide) : PE X (.Call (.Name x p) [] [] pos) (tCall sp [] E0 tNil) := by
  obtain ⟨f, fd, ps, G, hm, kp, b⟩ := c.ex
  exact pe_call0 G (hr.mono hk) hg hm kp b .nil pass0 hdb
end
end Mx

namespace K2
open PySem PySem.Spec PyProof.Rows L2 Mc
def top (i : Nat) : Stmt := PySem.Challenge.pw_mostcalls_k06_systems_refused.main.body.getD i (.Pass ⟨0, 0, 0, 0⟩)
abbrev s_is_integer : Stmt := top 2
abbrev N_is_integer : List Str := ["value"]
theorem sc_is_integer : FnScope N_is_integer ["value"] (defScope s_is_integer) := ⟨rfl, rfl, rfl, by decide +kernel, rfl, by decide +kernel, by decide +kernel⟩
abbrev s_is_between : Stmt := top 3
abbrev N_is_between : List Str := ["value", "least", "most"]
theorem sc_is_between : FnScope N_is_between ["value", "least", "most"] (defScope s_is_between) := ⟨rfl, rfl, rfl, by decide +kernel, rfl, by decide +kernel, by decide +kernel⟩
abbrev s_is_name : Stmt := top 4
abbrev N_is_name : List Str := ["value", "sign"]
theorem sc_is_name : FnScope N_is_name ["value"] (defScope s_is_name) := ⟨rfl, rfl, rfl, by decide +kernel, rfl, by decide +kernel, by decide +kernel⟩
abbrev s_is_part : Stmt := top 8
abbrev N_is_part : List Str := ["value"]
theorem sc_is_part : FnScope N_is_part ["value"] (defScope s_is_part) := ⟨rfl, rfl, rfl, by decide +kernel, rfl, by decide +kernel, by decide +kernel⟩
abbrev s_is_call : Stmt := top 9
abbrev N_is_call : List Str := ["part"]
theorem sc_is_call : FnScope N_is_call ["part"] (defScope s_is_call) := ⟨rfl, rfl, rfl, by decide +kernel, rfl, by decide +kernel, by decide +kernel⟩
abbrev s_holds_blocks : Stmt := top 10
abbrev N_holds_blocks : List Str := ["value"]
theorem sc_holds_blocks : FnScope N_holds_blocks ["value"] (defScope s_holds_blocks) := ⟨rfl, rfl, rfl, by decide +kernel, rfl, by decide +kernel, by decide +kernel⟩
abbrev s_parts_in_order : Stmt := top 11
abbrev N_parts_in_order : List Str := ["block", "around", "found", "part", "inner"]
theorem sc_parts_in_order : FnScope N_parts_in_order ["block", "around"] (defScope s_parts_in_order) := ⟨rfl, rfl, rfl, by decide +kernel, rfl, by decide +kernel, by decide +kernel⟩
abbrev s_calls_in_order : Stmt := top 12
abbrev N_calls_in_order : List Str := ["block", "part", "_"]
theorem sc_calls_in_order : FnScope N_calls_in_order ["block"] (defScope s_calls_in_order) := ⟨rfl, rfl, rfl, by decide +kernel, rfl, by decide +kernel, by decide +kernel⟩
abbrev s_block_span : Stmt := top 13
abbrev N_block_span : List Str := ["block", "policies", "part"]
theorem sc_block_span : FnScope N_block_span ["block", "policies"] (defScope s_block_span) := ⟨rfl, rfl, rfl, by decide +kernel, rfl, by decide +kernel, by decide +kernel⟩
abbrev s_part_span : Stmt := top 14
abbrev N_part_span : List Str := ["part", "policies", "inner"]
theorem sc_part_span : FnScope N_part_span ["part", "policies"] (defScope s_part_span) := ⟨rfl, rfl, rfl, by decide +kernel, rfl, by decide +kernel, by decide +kernel⟩
abbrev s_call_span : Stmt := top 15
abbrev N_call_span : List Str := ["policy"]
theorem sc_call_span : FnScope N_call_span ["policy"] (defScope s_call_span) := ⟨rfl, rfl, rfl, by decide +kernel, rfl, by decide +kernel, by decide +kernel⟩
abbrev s_InvalidPartinit : Stmt := inClass (top 21) 0
abbrev N_InvalidPartinit : List Str := ["self", "service", "place", "__class__"]
theorem sc_InvalidPartinit : NdefX.NScope N_InvalidPartinit ["self", "service", "place"] ["__class__"] (defScope s_InvalidPartinit) := NdefX.nscope_by (by decide +kernel)
abbrev s_UnknownNameinit : Stmt := inClass (top 22) 0
abbrev N_UnknownNameinit : List Str := ["self", "value", "__class__"]
theorem sc_UnknownNameinit : NdefX.NScope N_UnknownNameinit ["self", "value"] ["__class__"] (defScope s_UnknownNameinit) := NdefX.nscope_by (by decide +kernel)
abbrev s_TooLonginit : Stmt := inClass (top 23) 0
abbrev N_TooLonginit : List Str := ["self", "service", "__class__"]
theorem sc_TooLonginit : NdefX.NScope N_TooLonginit ["self", "service"] ["__class__"] (defScope s_TooLonginit) := NdefX.nscope_by (by decide +kernel)
abbrev s_InvalidPoliciesinit : Stmt := inClass (top 19) 0
abbrev N_InvalidPoliciesinit : List Str := ["self", "number", "__class__"]
theorem sc_InvalidPoliciesinit : NdefX.NScope N_InvalidPoliciesinit ["self", "number"] ["__class__"] (defScope s_InvalidPoliciesinit) := NdefX.nscope_by (by decide +kernel)
abbrev s_InvalidServicesinit : Stmt := inClass (top 20) 0
abbrev N_InvalidServicesinit : List Str := ["self", "number", "__class__"]
theorem sc_InvalidServicesinit : NdefX.NScope N_InvalidServicesinit ["self", "number"] ["__class__"] (defScope s_InvalidServicesinit) := NdefX.nscope_by (by decide +kernel)
abbrev s_Policyinit : Stmt := inClass (top 28) 0
abbrev N_Policyinit : List Str := ["self", "name", "limit", "tries", "pauses", "early", "lossy", "ending", "field"]
theorem sc_Policyinit : FnScope N_Policyinit ["self", "name", "limit", "tries", "pauses", "early", "lossy", "ending"] (defScope s_Policyinit) := ⟨rfl, rfl, rfl, by decide +kernel, rfl, by decide +kernel, by decide +kernel⟩
abbrev s_Policy_name : Stmt := inClass (top 28) 1
abbrev N_Policy_name : List Str := ["self"]
theorem sc_Policy_name : FnScope N_Policy_name ["self"] (defScope s_Policy_name) := ⟨rfl, rfl, rfl, by decide +kernel, rfl, by decide +kernel, by decide +kernel⟩
abbrev s_Policy_limit : Stmt := inClass (top 28) 2
abbrev N_Policy_limit : List Str := ["self"]
theorem sc_Policy_limit : FnScope N_Policy_limit ["self"] (defScope s_Policy_limit) := ⟨rfl, rfl, rfl, by decide +kernel, rfl, by decide +kernel, by decide +kernel⟩
abbrev s_Policy_tries : Stmt := inClass (top 28) 3
abbrev N_Policy_tries : List Str := ["self"]
theorem sc_Policy_tries : FnScope N_Policy_tries ["self"] (defScope s_Policy_tries) := ⟨rfl, rfl, rfl, by decide +kernel, rfl, by decide +kernel, by decide +kernel⟩
abbrev s_Policy_pauses : Stmt := inClass (top 28) 4
abbrev N_Policy_pauses : List Str := ["self"]
theorem sc_Policy_pauses : FnScope N_Policy_pauses ["self"] (defScope s_Policy_pauses) := ⟨rfl, rfl, rfl, by decide +kernel, rfl, by decide +kernel, by decide +kernel⟩
abbrev s_Policy_early : Stmt := inClass (top 28) 5
abbrev N_Policy_early : List Str := ["self"]
theorem sc_Policy_early : FnScope N_Policy_early ["self"] (defScope s_Policy_early) := ⟨rfl, rfl, rfl, by decide +kernel, rfl, by decide +kernel, by decide +kernel⟩
abbrev s_accepts : Stmt := top 29
abbrev N_accepts : List Str := ["field", "value"]
theorem sc_accepts : FnScope N_accepts ["field", "value"] (defScope s_accepts) := ⟨rfl, rfl, rfl, by decide +kernel, rfl, by decide +kernel, by decide +kernel⟩
abbrev s_wrong_field : Stmt := top 30
abbrev N_wrong_field : List Str := ["limit", "tries", "pauses", "early", "lossy", "ending"]
theorem sc_wrong_field : FnScope N_wrong_field ["limit", "tries", "pauses", "early", "lossy", "ending"] (defScope s_wrong_field) := ⟨rfl, rfl, rfl, by decide +kernel, rfl, by decide +kernel, by decide +kernel⟩
abbrev s_are_pauses : Stmt := top 31
abbrev N_are_pauses : List Str := ["value", "tries", "ticks"]
theorem sc_are_pauses : FnScope N_are_pauses ["value", "tries"] (defScope s_are_pauses) := ⟨rfl, rfl, rfl, by decide +kernel, rfl, by decide +kernel, by decide +kernel⟩
abbrev s_is_ending : Stmt := top 32
abbrev N_is_ending : List Str := ["value"]
theorem sc_is_ending : FnScope N_is_ending ["value"] (defScope s_is_ending) := ⟨rfl, rfl, rfl, by decide +kernel, rfl, by decide +kernel, by decide +kernel⟩
abbrev s_all_pauses : Stmt := top 33
abbrev N_all_pauses : List Str := ["tries", "pauses", "early"]
theorem sc_all_pauses : FnScope N_all_pauses ["tries", "pauses", "early"] (defScope s_all_pauses) := ⟨rfl, rfl, rfl, by decide +kernel, rfl, by decide +kernel, by decide +kernel⟩
abbrev s_Systeminit : Stmt := inClass (top 39) 0
abbrev N_Systeminit : List Str := ["self", "policies", "services", "policy", "name", "block", "ticks"]
theorem sc_Systeminit : FnScope N_Systeminit ["self", "policies", "services"] (defScope s_Systeminit) := ⟨rfl, rfl, rfl, by decide +kernel, rfl, by decide +kernel, by decide +kernel⟩
abbrev s_System_policies : Stmt := inClass (top 39) 1
abbrev N_System_policies : List Str := ["self"]
theorem sc_System_policies : FnScope N_System_policies ["self"] (defScope s_System_policies) := ⟨rfl, rfl, rfl, by decide +kernel, rfl, by decide +kernel, by decide +kernel⟩
abbrev s_System_services : Stmt := inClass (top 39) 2
abbrev N_System_services : List Str := ["self"]
theorem sc_System_services : FnScope N_System_services ["self"] (defScope s_System_services) := ⟨rfl, rfl, rfl, by decide +kernel, rfl, by decide +kernel, by decide +kernel⟩
abbrev s_System_policy : Stmt := inClass (top 39) 3
abbrev N_System_policy : List Str := ["self", "name"]
theorem sc_System_policy : FnScope N_System_policy ["self", "name"] (defScope s_System_policy) := ⟨rfl, rfl, rfl, by decide +kernel, rfl, by decide +kernel, by decide +kernel⟩
abbrev s_System_span : Stmt := inClass (top 39) 4
abbrev N_System_span : List Str := ["self", "name"]
theorem sc_System_span : FnScope N_System_span ["self", "name"] (defScope s_System_span) := ⟨rfl, rfl, rfl, by decide +kernel, rfl, by decide +kernel, by decide +kernel⟩
abbrev s_System_callees : Stmt := inClass (top 39) 5
abbrev N_System_callees : List Str := ["self", "name", "part"]
theorem sc_System_callees : FnScope N_System_callees ["self", "name"] (defScope s_System_callees) := ⟨rfl, rfl, rfl, by decide +kernel, rfl, by decide +kernel, by decide +kernel⟩
abbrev s_System_with_policy : Stmt := inClass (top 39) 6
abbrev N_System_with_policy : List Str := ["self", "policy", "policies", "name"]
theorem sc_System_with_policy : FnScope N_System_with_policy ["self", "policy"] (defScope s_System_with_policy) := ⟨rfl, rfl, rfl, by decide +kernel, rfl, by decide +kernel, by decide +kernel⟩
abbrev s_System_with_block : Stmt := inClass (top 39) 7
abbrev N_System_with_block : List Str := ["self", "name", "block", "rows", "other"]
theorem sc_System_with_block : FnScope N_System_with_block ["self", "name", "block"] (defScope s_System_with_block) := ⟨rfl, rfl, rfl, by decide +kernel, rfl, by decide +kernel, by decide +kernel⟩
abbrev s_System_with_service : Stmt := inClass (top 39) 8
abbrev N_System_with_service : List Str := ["self", "name", "block"]
theorem sc_System_with_service : FnScope N_System_with_service ["self", "name", "block"] (defScope s_System_with_service) := ⟨rfl, rfl, rfl, by decide +kernel, rfl, by decide +kernel, by decide +kernel⟩
abbrev s_Systemgetitem : Stmt := inClass (top 39) 9
abbrev N_Systemgetitem : List Str := ["self", "at"]
theorem sc_Systemgetitem : FnScope N_Systemgetitem ["self", "at"] (defScope s_Systemgetitem) := ⟨rfl, rfl, rfl, by decide +kernel, rfl, by decide +kernel, by decide +kernel⟩
abbrev s_Systemcontains : Stmt := inClass (top 39) 10
abbrev N_Systemcontains : List Str := ["self", "x"]
theorem sc_Systemcontains : FnScope N_Systemcontains ["self", "x"] (defScope s_Systemcontains) := ⟨rfl, rfl, rfl, by decide +kernel, rfl, by decide +kernel, by decide +kernel⟩
abbrev s_System_rows : Stmt := inClass (top 39) 14
abbrev N_System_rows : List Str := ["self", "name"]
theorem sc_System_rows : FnScope N_System_rows ["self"] (defScope s_System_rows) := ⟨rfl, rfl, rfl, by decide +kernel, rfl, by decide +kernel, by decide +kernel⟩
abbrev s_check_policies : Stmt := top 40
abbrev N_check_policies : List Str := ["policies", "ahead", "number", "policy"]
theorem sc_check_policies : FnScope N_check_policies ["policies"] (defScope s_check_policies) := ⟨rfl, rfl, rfl, by decide +kernel, rfl, by decide +kernel, by decide +kernel⟩
abbrev s_check_services : Stmt := top 41
abbrev N_check_services : List Str := ["services", "ahead", "number", "row"]
theorem sc_check_services : FnScope N_check_services ["services"] (defScope s_check_services) := ⟨rfl, rfl, rfl, by decide +kernel, rfl, by decide +kernel, by decide +kernel⟩
abbrev s_is_service : Stmt := top 42
abbrev N_is_service : List Str := ["row"]
theorem sc_is_service : FnScope N_is_service ["row"] (defScope s_is_service) := ⟨rfl, rfl, rfl, by decide +kernel, rfl, by decide +kernel, by decide +kernel⟩
abbrev s_check_parts : Stmt := top 43
abbrev N_check_parts : List Str := ["service", "block", "place", "part", "around", "is_too_deep"]
theorem sc_check_parts : FnScope N_check_parts ["service", "block"] (defScope s_check_parts) := ⟨rfl, rfl, rfl, by decide +kernel, rfl, by decide +kernel, by decide +kernel⟩
abbrev s_check_names : Stmt := top 44
abbrev N_check_names : List Str := ["block", "ahead", "policies", "_", "callee", "policy"]
theorem sc_check_names : FnScope N_check_names ["block", "ahead", "policies"] (defScope s_check_names) := ⟨rfl, rfl, rfl, by decide +kernel, rfl, by decide +kernel, by decide +kernel⟩
abbrev s_law_pool : Stmt := top 46
abbrev N_law_pool : List Str := ["_law_script", "_law_k", "_law_cell", "_law_seed"]
theorem sc_law_pool : FnScope N_law_pool ["_law_script", "_law_k"] (defScope s_law_pool) := ⟨rfl, rfl, rfl, by decide +kernel, rfl, by decide +kernel, by decide +kernel⟩
abbrev s_law_draw : Stmt := top 47
abbrev N_law_draw : List Str := ["_law_pool_here", "_law_many", "_law_digit"]
theorem sc_law_draw : FnScope N_law_draw ["_law_pool_here", "_law_many"] (defScope s_law_draw) := ⟨rfl, rfl, rfl, by decide +kernel, rfl, by decide +kernel, by decide +kernel⟩
abbrev s_law_choose : Stmt := top 48
abbrev N_law_choose : List Str := ["_law_pool_here", "_law_items"]
theorem sc_law_choose : FnScope N_law_choose ["_law_pool_here", "_law_items"] (defScope s_law_choose) := ⟨rfl, rfl, rfl, by decide +kernel, rfl, by decide +kernel, by decide +kernel⟩
abbrev s_law_told : Stmt := top 49
abbrev N_law_told : List Str := ["_law_call", "e"]
theorem sc_law_told : FnScope N_law_told ["_law_call"] (defScope s_law_told) := ⟨rfl, rfl, rfl, by decide +kernel, rfl, by decide +kernel, by decide +kernel⟩
abbrev s_law_doors_right : Stmt := top 50
abbrev N_law_doors_right : List Str := ["_law_one", "_law_name", "_law_due", "_law_value"]
theorem sc_law_doors_right : FnScope N_law_doors_right ["_law_one"] (defScope s_law_doors_right) := ⟨rfl, rfl, rfl, by decide +kernel, rfl, by decide +kernel, by decide +kernel⟩
abbrev s_law_lists_right : Stmt := top 51
abbrev N_law_lists_right : List Str := ["_law_good", "_law_names", "_law_turn", "_law_many", "_law_name", "_law_bad"]
theorem sc_law_lists_right : FnScope N_law_lists_right ["_law_good"] (defScope s_law_lists_right) := ⟨rfl, rfl, rfl, by decide +kernel, rfl, by decide +kernel, by decide +kernel⟩
abbrev s_law_first_bad : Stmt := top 52
abbrev N_law_first_bad : List Str := ["_law_at", "_law_bad"]
theorem sc_law_first_bad : FnScope N_law_first_bad ["_law_at", "_law_bad"] (defScope s_law_first_bad) := ⟨rfl, rfl, rfl, by decide +kernel, rfl, by decide +kernel, by decide +kernel⟩
abbrev s_law : Stmt := top 53
abbrev N_law : List Str := ["_law_script", "_law_good", "_law_rows", "_law_k", "_law_pool_here", "_law_at", "_law_bad", "_law_late", "_law_block"]
theorem sc_law : FnScope N_law ["_law_script"] (defScope s_law) := ⟨rfl, rfl, rfl, by decide +kernel, rfl, by decide +kernel, by decide +kernel⟩

def letters : Str := "abcdefghijklmnopqrstuvwxyz"
/-- what the top has left -/
structure Txt (K : PySem.W.Frag) (mg : Str → Option Value) : Prop where
  n_isinstance : mg "isinstance" = none
  n_int : mg "int" = none
  n_bool : mg "bool" = none
  n_str : mg "str" = none
  n_tuple : mg "tuple" = none
  n_len : mg "len" = none
  n_all : mg "all" = none
  n_range : mg "range" = none
  n_repr : mg "repr" = none
  n_max : mg "max" = none
  n_min : mg "min" = none
  n_list : mg "list" = none
  n_enumerate : mg "enumerate" = none
  n_sum : mg "sum" = none
  n_sorted : mg "sorted" = none
  g_LETTERS : ∃ u, mg "LETTERS" = some u ∧ RelV (.str letters) u
  g_MOST_LIMIT : ∃ u, mg "MOST_LIMIT" = some u ∧ RelV (.int 20) u
  g_MOST_TRIES : ∃ u, mg "MOST_TRIES" = some u ∧ RelV (.int 3) u
  g_MOST_TICKS : ∃ u, mg "MOST_TICKS" = some u ∧ RelV (.int 20) u
  g_MOST_AROUND : ∃ u, mg "MOST_AROUND" = some u ∧ RelV (.int 1) u
  g_MOST_POLICIES : ∃ u, mg "MOST_POLICIES" = some u ∧ RelV (.int 8) u
  g_MOST_SERVICES : ∃ u, mg "MOST_SERVICES" = some u ∧ RelV (.int 6) u
  g_MOST_PARTS : ∃ u, mg "MOST_PARTS" = some u ∧ RelV (.int 12) u
  g_MOST_SPAN : ∃ u, mg "MOST_SPAN" = some u ∧ RelV (.int 400) u
section
variable {P : Program} {w : World} {K : PySem.W.Frag} {mg : Str → Option Value} {base : Heap}
local macro_rules | `(tactic| walk_at "rd1") => `(tactic| first
  | with_reducible refine g_seq ?_
  | with_reducible refine g_asg ?_
  | with_reducible refine g_name ?_
  | with_reducible refine g_c ?_
  | with_reducible refine g_op ?_
  | with_reducible refine g_ifS ?_
  | with_reducible refine g_if ?_
  | with_reducible refine g_test ?_
  | with_reducible refine g_B ?_
  | with_reducible refine g_bl ?_
  | with_reducible refine g_blV ?_
  | with_reducible refine g_not ?_
  | with_reducible refine g_and ?_
  | with_reducible refine g_or ?_
  | with_reducible refine g_notV ?_
  | with_reducible refine g_andV ?_
  | with_reducible refine g_orV ?_
  | with_reducible refine g_ret ?_
  | with_reducible refine g_drop ?_
  | with_reducible refine g_next ?_
  | with_reducible refine g_retN ?_
  | with_reducible refine g_call ?_
  | with_reducible refine g_cb ?_
  | with_reducible refine g_cons ?_
  | with_reducible refine g_nil ?_
  | with_reducible refine g_tup ?_
  | with_reducible refine g_lst ?_
  | with_reducible refine g_prop ?_
  | with_reducible refine g_fld ?_
  | with_reducible refine g_meth ?_
  | with_reducible refine g_chain ?_
  | with_reducible refine g_yes ?_
  | with_reducible refine g_make ?_
  | with_reducible refine g_makeK ?_
  | with_reducible refine g_gsub ?_
  | with_reducible refine g_sfld ?_
  | with_reducible refine g_un ?_
  | with_reducible refine g_bm ?_
  | with_reducible refine g_iteT ?_
  | with_reducible refine g_iteF ?_
  | with_reducible refine g_I0 ?_
  | with_reducible refine g_add ?_
  | with_reducible refine g_sub ?_
  | ((with_reducible refine' g_var ?hv ?_); (case hv => rfl))
  | ((with_reducible refine g_eq ?hv ?_); (case hv => rfl))
  | ((with_reducible refine g_ne ?hv ?_); (case hv => rfl)))
local macro_rules | `(tactic| walk_at "rd") => `(tactic| repeat (walk_at "rd1"))

local macro_rules | `(tactic| walk_at "ty") => `(tactic| first | exact .non | exact .bl _ | exact .int _ | exact .str _ | exact .lst (by assumption) | exact .tup (by assumption) | exact .dK (by assumption) | exact .kTup (by assumption) (by assumption))
local macro_rules | `(tactic| walk_at "isiF") => `(tactic| refine g_isi (by walk_at "ty") (b := false) (by decide +kernel) ?_)
local macro_rules | `(tactic| walk_at "isiT") => `(tactic| refine g_isi (by walk_at "ty") (b := true) (by decide +kernel) ?_)

theorem ok_is_integer (T : Txt K mg) (D : Def K mg "is_integer" s_is_integer ["value"]) : Cal P w K mg base 1 "is_integer" (spIsInt K) := by
  refine cal_of D sc_is_integer (fun vs H Q E h => ?_) (fun f cdv A outer s H vs Q E hr h => ?_)
  · obtain ⟨v, n, rfl, _⟩ := h
    rfl
  · obtain ⟨v, n, rfl, ty, q⟩ := h
    refine ⟨_, (pss_one (ps_ret (pe_and (pe_callB call_isi (by rfl) T.n_isinstance (by decide +kernel) (pa_cons (pv 0) (pa_cons (pe_ty "int" (by rfl) T.n_int (by decide +kernel)) pa_nil))) (pe_one (pe_not (pe_callB call_isi (by rfl) T.n_isinstance (by decide +kernel) (pa_cons (pv 0) (pa_cons (pe_ty "bool" (by rfl) T.n_bool (by decide +kernel)) pa_nil)))))))), ?_⟩
    walk_at "rd"
    refine g_isi ty (kb_int ty.mem) ?_
    walk_at "rd"
    have e : ∀ b, Q (.bl b) H → b = isI v → Q (.bl (isI v)) H := fun b q e => e ▸ q
    cases ty with
    | int i => simp; walk_at "rd"; refine g_isi (.int i) (kb_bool (by decide)) ?_; walk_at "rd"; exact q
    | bl i => simp; walk_at "rd"; refine g_isi (.bl i) (kb_bool (by decide)) ?_; walk_at "rd"; exact q
    | non => simp; exact q
    | str z => simp; exact q
    | lst z => simp; exact q
    | tup z => simp; exact q
    | dK z => simp; exact q
    | kTup z c => simp; exact q
theorem ok_is_between (T : Txt K mg) (D : Def K mg "is_between" s_is_between ["value", "least", "most"]) (c_is_integer : Cal P w K mg base 1 "is_integer" (spIsInt K)) : Cal P w K mg base 2 "is_between" (spBtw K) := by
  refine cal_of D sc_is_between (fun vs H Q E h => ?_) (fun f cdv A outer s H vs Q E hr h => ?_)
  · obtain ⟨v, n, a, b, rfl, _⟩ := h
    rfl
  · obtain ⟨v, n, a, b, rfl, ty, q⟩ := h
    refine ⟨_, (pss_one (ps_ret (pe_and (pe_f c_is_integer hr (by decide) (by rfl) (pa_cons (pv 0) pa_nil)) (pe_one (pe_chain op_le op_le (pv 1) (pv 0) (pv 2)))))), ?_⟩
    walk_at "rd"
    refine ⟨v, n, rfl, ty, ?_⟩
    walk_at "rd"
    cases ty with
    | int i =>
      show (if true = true then _ else _)
      walk_at "rd"
      refine g_ite (fun e => ?_) (fun e => ?_)
      · walk_at "rd"
        have z : btw (.int i) a b = decide (i ≤ b) := by show (decide (a ≤ i) && decide (i ≤ b)) = _; rw [e]; rfl
        rw [z] at q
        exact q
      · have z : btw (.int i) a b = false := by show (decide (a ≤ i) && decide (i ≤ b)) = _; rw [e]; rfl
        rw [z] at q
        exact q
    | bl i => exact q
    | non => exact q
    | str z => exact q
    | lst z => exact q
    | tup z => exact q
    | dK z => exact q
    | kTup z c => exact q
end
end K2

namespace K2
open PySem PySem.Spec PyProof.Rows L2 Mc
section
variable {P : Program} {w : World} {K : PySem.W.Frag} {mg : Str → Option Value} {base : Heap}
local macro_rules | `(tactic| walk_at "rd1") => `(tactic| first
  | with_reducible refine g_seq ?_
  | with_reducible refine g_asg ?_
  | with_reducible refine g_name ?_
  | with_reducible refine g_c ?_
  | with_reducible refine g_op ?_
  | with_reducible refine g_ifS ?_
  | with_reducible refine g_if ?_
  | with_reducible refine g_test ?_
  | with_reducible refine g_B ?_
  | with_reducible refine g_bl ?_
  | with_reducible refine g_blV ?_
  | with_reducible refine g_not ?_
  | with_reducible refine g_and ?_
  | with_reducible refine g_or ?_
  | with_reducible refine g_notV ?_
  | with_reducible refine g_andV ?_
  | with_reducible refine g_orV ?_
  | with_reducible refine g_ret ?_
  | with_reducible refine g_drop ?_
  | with_reducible refine g_next ?_
  | with_reducible refine g_retN ?_
  | with_reducible refine g_call ?_
  | with_reducible refine g_cb ?_
  | with_reducible refine g_cons ?_
  | with_reducible refine g_nil ?_
  | with_reducible refine g_tup ?_
  | with_reducible refine g_lst ?_
  | with_reducible refine g_prop ?_
  | with_reducible refine g_fld ?_
  | with_reducible refine g_meth ?_
  | with_reducible refine g_chain ?_
  | with_reducible refine g_yes ?_
  | with_reducible refine g_make ?_
  | with_reducible refine g_makeK ?_
  | with_reducible refine g_gsub ?_
  | with_reducible refine g_sfld ?_
  | with_reducible refine g_un ?_
  | with_reducible refine g_bm ?_
  | with_reducible refine g_iteT ?_
  | with_reducible refine g_iteF ?_
  | with_reducible refine g_I0 ?_
  | with_reducible refine g_add ?_
  | with_reducible refine g_sub ?_
  | ((with_reducible refine' g_var ?hv ?_); (case hv => rfl))
  | ((with_reducible refine g_eq ?hv ?_); (case hv => rfl))
  | ((with_reducible refine g_ne ?hv ?_); (case hv => rfl)))
local macro_rules | `(tactic| walk_at "rd") => `(tactic| repeat (walk_at "rd1"))

local macro_rules | `(tactic| walk_at "ty") => `(tactic| first | exact .non | exact .bl _ | exact .int _ | exact .str _ | exact .lst (by assumption) | exact .tup (by assumption) | exact .dK (by assumption) | exact .kTup (by assumption) (by assumption))
local macro_rules | `(tactic| walk_at "isiF") => `(tactic| refine g_isi (by walk_at "ty") (b := false) (by decide +kernel) ?_)
local macro_rules | `(tactic| walk_at "isiT") => `(tactic| refine g_isi (by walk_at "ty") (b := true) (by decide +kernel) ?_)

def sgn (c : Nat) : Bool := decide (c ∈ letters.cps.toList)
def isNm (z : Str) : Bool := decide ((1 : Int) ≤ z.length) && (decide ((z.length : Int) ≤ 8) && z.cps.toList.all sgn)
def nmV : V → Bool
  | .str z => isNm z
  | _ => false
def spName (K : PySem.W.Frag) : Sp := fun vs H Q _ => ∃ v n, vs = [v] ∧ Mc.TyB K H v n ∧ (∀ z, v = .str z → z.length ≤ 1000) ∧ ∀ H', Same H H' → Q (.bl (nmV v)) H'
theorem same_new {H : Hp} {p : Addr} {o : HO} (h : H p = none) : Same H (upd H p o) := fun b u e => by rw [upd_ne (ne_of_none e h)]; exact e
theorem sz_le {n : Nat} (h : n ≤ 1000) : n ≤ sizeLine := Nat.le_trans h (by decide)
theorem take_map {α : Type} {xs : List α} {i : Nat} {x : α} (f : α → V) (h : xs[i]? = some x) : (xs.take i).map f ++ [f x] = (xs.take (i + 1)).map f := by
  rw [List.take_add_one, h, List.map_append]
  rfl
theorem all_id {α : Type} (xs : List α) (f : α → Bool) : ((xs.map f).all id) = xs.all f := by rw [List.all_map]; rfl

theorem ok_is_name (T : Txt K mg) (D : Def K mg "is_name" s_is_name ["value"]) : Cal P w K mg base 1 "is_name" (spName K) := by
  refine cal_of D sc_is_name (fun vs H Q E h => ?_) (fun f cdv A outer s H vs Q E hr h => ?_)
  · obtain ⟨v, n, rfl, _⟩ := h
    rfl
  · obtain ⟨v, n, rfl, ty, hz, q⟩ := h
    refine ⟨_, (pss_one (ps_ret (pe_and (pe_callB call_isi (by rfl) T.n_isinstance (by decide +kernel) (pa_cons (pv 0) (pa_cons (pe_ty "str" (by rfl) T.n_str (by decide +kernel)) pa_nil))) (pe_and (pe_chain op_le op_le pe_int (pe_callB call_len_str (by rfl) T.n_len (by decide +kernel) (pa_cons (pv 0) pa_nil)) pe_int) (pe_one (pe_callB (cr_all rfl) (by rfl) T.n_all (by decide +kernel) (pa_cons (pe_lc (own := [("sign", 1)]) (g := gName 1) (by rfl) sc_is_name.nd (pi_str (pv 0)) (blkOk_by (own := [("sign", 1)]) (N := N_is_name) (sc := defScope s_is_name) (by decide +kernel)) (fun _ _ _ _ _ => pg_name (i := 1) sc_is_name.nd rfl (Or.inl rfl)) (fun _ _ _ _ _ => pts_nil) (fun _ _ _ _ _ => (pe_cmpR op_in_sign (pv 1) (pe_gx rfl T.g_LETTERS) (by rfl)))) pa_nil))))))), ?_⟩
    walk_at "rd"
    have q0 := q H (Same.refl H)
    cases ty
    case str z =>
      have hl := hz z rfl
      refine g_isi (.str z) (b := true) (by decide +kernel) ?_
      walk_at "rd"
      refine ⟨z, rfl, sz_le hl, ?_⟩
      walk_at "rd"
      refine g_ite (fun e1 => ?_) (fun e1 => ?_)
      · walk_at "rd"
        refine g_ite (fun e2 => ?_) (fun e2 => ?_)
        · walk_at "rd"
          refine ⟨_, rfl, _, rfl, fun L hL => ?_⟩
          refine lc_it walk_str (fun i H' => H' = upd H L (.lst ((z.cps.toList.take i).map fun c => .bl (sgn c)))) rfl (fun _ _ _ _ => trivial) ?_ ?_
          · rintro i x H0 H1 hi rfl ⟨rfl, c, hc, rfl⟩
            walk_at "rd"
            refine ⟨rfl, ?_⟩
            walk_at "rd"
            refine ⟨c, letters, rfl, rfl, _, upd_same, ?_, ?_⟩
            · rw [List.length_map, List.length_take]
              exact small1000 (Nat.le_trans (Nat.min_le_right _ _) (by simpa [Str.length] using hl))
            · have hc' : z.cps.toList[i]? = some c := by rw [Array.getElem?_toList]; exact hc
              rw [upd_upd]
              exact congrArg (fun l => upd H L (.lst l)) (take_map (fun c => V.bl (sgn c)) hc')
          · rintro H1 rfl
            refine ⟨L, z.cps.toList.map sgn, rfl, SqL.of ?_, ?_⟩
            · rw [upd_same, List.take_of_length_le (by simp), List.map_map]
              rfl
            · have e : nmV (.str z) = ((z.cps.toList.map sgn).all id) := by
                show (decide ((1 : Int) ≤ z.length) && (decide ((z.length : Int) ≤ 8) && z.cps.toList.all sgn)) = _
                rw [e1, e2, all_id]
                rfl
              rw [← e]
              exact q _ (same_new hL)
        · have e : nmV (.str z) = false := by
            show (decide ((1 : Int) ≤ z.length) && (decide ((z.length : Int) ≤ 8) && z.cps.toList.all sgn)) = _
            rw [e1, e2]
            rfl
          rw [e] at q0
          exact q0
      · walk_at "rd"
        have e : nmV (.str z) = false := by
          show (decide ((1 : Int) ≤ z.length) && (decide ((z.length : Int) ≤ 8) && z.cps.toList.all sgn)) = _
          rw [e1]
          rfl
        rw [e] at q0
        exact q0
    all_goals (walk_at "isiF"; walk_at "rd"; exact q0)
end
end K2

namespace K2
open PySem PySem.Spec PyProof.Rows L2 Mc
section
variable {P : Program} {w : World} {K : PySem.W.Frag} {mg : Str → Option Value} {base : Heap}
local macro_rules | `(tactic| walk_at "rd1") => `(tactic| first
  | with_reducible refine g_seq ?_
  | with_reducible refine g_asg ?_
  | with_reducible refine g_name ?_
  | with_reducible refine g_c ?_
  | with_reducible refine g_op ?_
  | with_reducible refine g_ifS ?_
  | with_reducible refine g_if ?_
  | with_reducible refine g_test ?_
  | with_reducible refine g_B ?_
  | with_reducible refine g_bl ?_
  | with_reducible refine g_blV ?_
  | with_reducible refine g_not ?_
  | with_reducible refine g_and ?_
  | with_reducible refine g_or ?_
  | with_reducible refine g_notV ?_
  | with_reducible refine g_andV ?_
  | with_reducible refine g_orV ?_
  | with_reducible refine g_ret ?_
  | with_reducible refine g_drop ?_
  | with_reducible refine g_next ?_
  | with_reducible refine g_retN ?_
  | with_reducible refine g_call ?_
  | with_reducible refine g_cb ?_
  | with_reducible refine g_cons ?_
  | with_reducible refine g_nil ?_
  | with_reducible refine g_tup ?_
  | with_reducible refine g_lst ?_
  | with_reducible refine g_prop ?_
  | with_reducible refine g_fld ?_
  | with_reducible refine g_meth ?_
  | with_reducible refine g_chain ?_
  | with_reducible refine g_yes ?_
  | with_reducible refine g_make ?_
  | with_reducible refine g_makeK ?_
  | with_reducible refine g_gsub ?_
  | with_reducible refine g_sfld ?_
  | with_reducible refine g_un ?_
  | with_reducible refine g_bm ?_
  | with_reducible refine g_iteT ?_
  | with_reducible refine g_iteF ?_
  | with_reducible refine g_I0 ?_
  | with_reducible refine g_add ?_
  | with_reducible refine g_sub ?_
  | ((with_reducible refine' g_var ?hv ?_); (case hv => rfl))
  | ((with_reducible refine g_eq ?hv ?_); (case hv => rfl))
  | ((with_reducible refine g_ne ?hv ?_); (case hv => rfl)))
local macro_rules | `(tactic| walk_at "rd") => `(tactic| repeat (walk_at "rd1"))

local macro_rules | `(tactic| walk_at "ty") => `(tactic| first | exact .non | exact .bl _ | exact .int _ | exact .str _ | exact .lst (by assumption) | exact .tup (by assumption) | exact .dK (by assumption) | exact .kTup (by assumption) (by assumption))
local macro_rules | `(tactic| walk_at "isiF") => `(tactic| refine g_isi (by walk_at "ty") (b := false) (by decide +kernel) ?_)
local macro_rules | `(tactic| walk_at "isiT") => `(tactic| refine g_isi (by walk_at "ty") (b := true) (by decide +kernel) ?_)

/-- a tuple's value: its kind, its items -/
structure TupV (K : PySem.W.Frag) (H : Hp) (a : Addr) (xs : List V) : Prop where
  ty : Mc.TyB K H (.ref a) "tuple"
  sq : SqT K H a xs
theorem TyB.ext {H H' : Hp} {v : V} {n : String} (e : Same H H') (h : Mc.TyB K H v n) : Mc.TyB K H' v n := by
  cases h with
  | non => exact .non
  | bl b => exact .bl b
  | int i => exact .int i
  | str z => exact .str z
  | lst z => exact .lst (e _ _ z)
  | tup z => exact .tup (e _ _ z)
  | dK z => exact .dK (e _ _ z)
  | kTup z c => exact .kTup z c
theorem sqT_ext {H H' : Hp} {a : Addr} {xs : List V} (e : Same H H') (h : SqT K H a xs) : SqT K H' a xs := by
  rcases h with (h | ⟨o, h⟩) | h
  · exact .inl (.inl (e _ _ h))
  · exact .inl (.inr ⟨o, e _ _ h⟩)
  · exact .inr h
theorem TupV.ext {H H' : Hp} {a : Addr} {xs : List V} (e : Same H H') (h : TupV K H a xs) : TupV K H' a xs := ⟨TyB.ext e h.ty, sqT_ext e h.sq⟩
def Typed (K : PySem.W.Frag) (H : Hp) (xs : List V) : Prop := ∀ x ∈ xs, ∃ n, Mc.TyB K H x n

def arePz (xs : List V) (t : Int) : Bool := decide (V.int (xs.length : Int) = V.int (t - 1)) && xs.all fun x => btw x 0 8
def spAre (K : PySem.W.Frag) : Sp := fun vs H Q _ => ∃ v t, vs = [v, .int t] ∧
  ((∃ n, Mc.TyB K H v n ∧ n ≠ "tuple" ∧ Q (.bl false) H) ∨ (∃ a xs, v = .ref a ∧ TupV K H a xs ∧ Typed K H xs ∧ xs.length ≤ 1000 ∧ ∀ H', Same H H' → Q (.bl (arePz xs t)) H'))

theorem ok_are_pauses (T : Txt K mg) (D : Def K mg "_are_pauses" s_are_pauses ["value", "tries"]) (c_is_between : Cal P w K mg base 2 "is_between" (spBtw K)) : Cal P w K mg base 3 "_are_pauses" (spAre K) := by
  refine cal_of D sc_are_pauses (fun vs H Q E h => ?_) (fun f cdv A outer s H vs Q E hr h => ?_)
  · obtain ⟨v, t, rfl, _⟩ := h
    rfl
  · obtain ⟨v, t, rfl, h⟩ := h
    refine ⟨_, (pss_one (ps_ret (pe_and (pe_callB call_isi (by rfl) T.n_isinstance (by decide +kernel) (pa_cons (pv 0) (pa_cons (pe_ty "tuple" (by rfl) T.n_tuple (by decide +kernel)) pa_nil))) (pe_and (pe_cmpR op_eq (pe_callB call_len_seq (by rfl) T.n_len (by decide +kernel) (pa_cons (pv 0) pa_nil)) (pe_op op_sub (pv 1) pe_int) (nomark _)) (pe_one (pe_callB (cr_all rfl) (by rfl) T.n_all (by decide +kernel) (pa_cons (pe_lc (own := [("ticks", 2)]) (g := gName 2) (by rfl) sc_are_pauses.nd (pi_tup (pv 0)) (blkOk_by (own := [("ticks", 2)]) (N := N_are_pauses) (sc := defScope s_are_pauses) (by decide +kernel)) (fun _ _ _ _ _ => pg_name (i := 2) sc_are_pauses.nd rfl (Or.inl rfl)) (fun _ _ _ _ _ => pts_nil) (fun _ _ _ _ _ => (pe_f c_is_between hr (by decide) (by rfl) (pa_cons (pv 2) (pa_cons pe_int (pa_cons pe_int pa_nil)))))) pa_nil))))))), ?_⟩
    walk_at "rd"
    rcases h with ⟨n, ty, hn, q⟩ | ⟨a, xs, rfl, tv, typ, hl, q⟩
    · refine g_isi ty (kb_tuple ty.mem) ?_
      have e : (n == "tuple") = false := by simpa using hn
      rw [e]
      walk_at "rd"
      exact q
    · refine g_isi tv.ty (b := true) (by decide +kernel) ?_
      walk_at "rd"
      refine ⟨a, xs, rfl, .inr tv.sq, ?_⟩
      walk_at "rd"
      have e0 : arePz xs t = (decide (V.int (xs.length : Int) = V.int (t - 1)) && xs.all fun x => btw x 0 8) := rfl
      refine g_ite (fun e1 => ?_) (fun e1 => ?_)
      · walk_at "rd"
        refine ⟨_, rfl, _, rfl, ⟨_, tv.sq⟩, fun L hL => ?_⟩
        refine lc_tup (K := K) (a := a) (xs := xs) (fun i H' => H' = upd H L (.lst ((xs.take i).map fun x => .bl (btw x 0 8)))) rfl (fun i H' _ e => by subst e; exact sqT_ext (same_new hL) tv.sq) ?_ ?_
        · rintro i x H0 hx rfl
          walk_at "rd"
          refine ⟨rfl, ?_⟩
          walk_at "rd"
          obtain ⟨n, tx⟩ := typ x (List.mem_of_getElem? hx)
          refine ⟨x, n, 0, 8, rfl, TyB.ext (same_new hL) tx, _, upd_same, ?_, ?_⟩
          · rw [List.length_map, List.length_take]
            exact small1000 (Nat.le_trans (Nat.min_le_right _ _) hl)
          · rw [upd_upd]
            exact congrArg (fun l => upd H L (.lst l)) (take_map (fun x => V.bl (btw x 0 8)) hx)
        · rintro H1 rfl
          refine ⟨L, xs.map fun x => btw x 0 8, rfl, SqL.of ?_, ?_⟩
          · rw [upd_same, List.take_of_length_le (Nat.le_refl _), List.map_map]
            rfl
          · have e : arePz xs t = ((xs.map fun x => btw x 0 8).all id) := by rw [e0, e1, all_id]; rfl
            rw [← e]
            exact q _ (same_new hL)
      · walk_at "rd"
        have e : arePz xs t = false := by rw [e0, e1]; rfl
        have q0 := q H (Same.refl H)
        rw [e] at q0
        exact q0

def sStop : Str := "stop"
def sGo : Str := "go"
def sDeadline : Str := "deadline"
def endOk : List V → Bool
  | .str z :: r => if z = sStop then decide (r.length = 1) && r.all (fun x => btw x 0 20) else decide (r.length = 0) && inV (.str z) [.str sGo, .str sDeadline]
  | _ => false
def spEnd (K : PySem.W.Frag) : Sp := fun vs H Q _ => ∃ v, vs = [v] ∧
  ((∃ n, Mc.TyB K H v n ∧ n ≠ "tuple" ∧ Q (.bl false) H) ∨ (∃ a xs, v = .ref a ∧ TupV K H a xs ∧ Typed K H xs ∧ xs.length ≤ 1000 ∧ ∀ H', Same H H' → Q (.bl (endOk xs)) H'))
theorem ok_is_ending (T : Txt K mg) (D : Def K mg "_is_ending" s_is_ending ["value"]) (c_is_between : Cal P w K mg base 2 "is_between" (spBtw K)) : Cal P w K mg base 3 "_is_ending" (spEnd K) := by
  refine cal_of D sc_is_ending (fun vs H Q E h => ?_) (fun f cdv A outer s H vs Q E hr h => ?_)
  · obtain ⟨v, rfl, _⟩ := h
    rfl
  · obtain ⟨v, rfl, h⟩ := h
    refine ⟨_, (pss_cons (ps_if (PW.pt (pw_or (pt_not (pt_val (pe_callB call_isi (by rfl) T.n_isinstance (by decide +kernel) (pa_cons (pv 0) (pa_cons (pe_ty "tuple" (by rfl) T.n_tuple (by decide +kernel)) pa_nil))))) (pw_or (pt_cmpR op_eq (pe_callB call_len_seq (by rfl) T.n_len (by decide +kernel) (pa_cons (pv 0) pa_nil)) pe_int (nomark _)) (pw_or1 (pt_not (pt_val (pe_callB call_isi (by rfl) T.n_isinstance (by decide +kernel) (pa_cons (pe_ix ix_tup (pv 0) pe_int (fun _ _ => rfl)) (pa_cons (pe_ty "str" (by rfl) T.n_str (by decide +kernel)) pa_nil))))))))) (pss_one (ps_ret pe_bl)) pss_nil)
      (pss_cons (ps_if (pt_cmpR op_eq (pe_ix ix_tup (pv 0) pe_int (fun _ _ => rfl)) pe_str (nomark _)) (pss_one (ps_ret (pe_and (pe_cmpR op_eq (pe_callB call_len_seq (by rfl) T.n_len (by decide +kernel) (pa_cons (pv 0) pa_nil)) pe_int (nomark _)) (pe_one (pe_f c_is_between hr (by decide) (by rfl) (pa_cons (pe_ix ix_tup (pv 0) pe_int (fun _ _ => rfl)) (pa_cons pe_int (pa_cons pe_int pa_nil)))))))) pss_nil)
      (pss_one (ps_ret (pe_and (pe_cmpR op_eq (pe_callB call_len_seq (by rfl) T.n_len (by decide +kernel) (pa_cons (pv 0) pa_nil)) pe_int (nomark _)) (pe_one (pe_cmpR op_in_seq (pe_ix ix_tup (pv 0) pe_int (fun _ _ => rfl)) (pe_tup (pa_cons pe_str (pa_cons pe_str pa_nil))) (by rfl)))))))), ?_⟩
    walk_at "rd"
    rcases h with ⟨n, ty, hn, q⟩ | ⟨a, xs, rfl, tv, typ, hl, q⟩
    · refine g_isi ty (kb_tuple ty.mem) ?_
      have e : (n == "tuple") = false := by simpa using hn
      rw [e]
      walk_at "rd"
      exact q
    · refine g_isi tv.ty (b := true) (by decide +kernel) ?_
      walk_at "rd"
      show (if false = true then _ else _)
      walk_at "rd"
      refine ⟨a, xs, rfl, .inr tv.sq, ?_⟩
      walk_at "rd"
      have q0 := q H (Same.refl H)
      match xs, q, tv, typ, hl, q0 with
      | [], q, tv, typ, hl, q0 =>
        show (if true = true then _ else _)
        walk_at "rd"
        exact q0
      | x :: r, q, tv, typ, hl, q0 =>
        have e1 : decide (V.int (((x :: r).length : Nat) : Int) = V.int 0) = false := decide_eq_false (by intro z; injection z with z; simp at z; omega)
        rw [e1]
        walk_at "rd"
        refine g_ixT tv.sq (v := x) (atI_nat (j := 0) rfl) ?_
        walk_at "rd"
        obtain ⟨n, tx⟩ := typ x (List.mem_cons_self ..)
        refine g_isi tx (kb_str tx.mem) ?_
        walk_at "rd"
        cases tx
        case str z =>
          show (if false = true then _ else _)
          walk_at "rd"
          refine g_ixT tv.sq (v := .str z) (atI_nat (j := 0) rfl) ?_
          walk_at "rd"
          refine g_ite (fun e => ?_) (fun e => ?_)
          · have ez : z = sStop := by injection (of_decide_eq_true e)
            have eq : endOk (.str z :: r) = (decide (r.length = 1) && r.all (fun x => btw x 0 20)) := by
              show (if z = sStop then _ else _) = _
              rw [if_pos ez]
            walk_at "rd"
            refine ⟨a, _, rfl, .inr tv.sq, ?_⟩
            walk_at "rd"
            match r, q, tv, typ, eq, q0 with
            | [], q, tv, typ, eq, q0 =>
              show (if false = true then _ else _)
              walk_at "rd"
              rw [eq] at q0
              exact q0
            | [y], q, tv, typ, eq, q0 =>
              show (if true = true then _ else _)
              walk_at "rd"
              refine g_ixT tv.sq (v := y) (atI_nat (j := 1) rfl) ?_
              walk_at "rd"
              obtain ⟨m, ty⟩ := typ y (List.mem_cons_of_mem _ (List.mem_cons_self ..))
              refine ⟨y, m, 0, 20, rfl, ty, ?_⟩
              have e3 : endOk [.str z, y] = btw y 0 20 := by
                rw [eq]
                show (true && (btw y 0 20 && true)) = _
                rw [Bool.and_true]
                rfl
              rw [e3] at q0
              exact q0
            | y :: y2 :: r, q, tv, typ, eq, q0 =>
              have e4 : decide (V.int (((V.str z :: y :: y2 :: r).length : Nat) : Int) = V.int 2) = false := decide_eq_false (by intro k; injection k with k; simp at k; omega)
              rw [e4]
              walk_at "rd"
              have e5 : endOk (.str z :: y :: y2 :: r) = false := by
                rw [eq, decide_eq_false (by simp)]
                rfl
              rw [e5] at q0
              exact q0
          · have ez : z ≠ sStop := fun k => absurd e (by rw [k]; decide)
            have eq : endOk (.str z :: r) = (decide (r.length = 0) && inV (.str z) [.str sGo, .str sDeadline]) := by
              show (if z = sStop then _ else _) = _
              rw [if_neg ez]
            walk_at "rd"
            refine ⟨a, _, rfl, .inr tv.sq, ?_⟩
            walk_at "rd"
            refine g_ite (fun e6 => ?_) (fun e6 => ?_)
            · walk_at "rd"
              refine g_ixT tv.sq (v := .str z) (atI_nat (j := 0) rfl) ?_
              walk_at "rd"
              refine ⟨(by show 2 ≤ sizeLine; decide), fun p hp => ?_⟩
              refine ⟨p, _, rfl, .inr (SqT.of upd_same), rfl, rfl, ?_⟩
              have e7 : decide (r.length = 0) = true := by
                have k := of_decide_eq_true e6
                injection k with k
                simp at k
                exact decide_eq_true (by omega)
              rw [e7, Bool.true_and] at eq
              rw [eq] at q
              exact q _ (same_new hp)
            · have e7 : decide (r.length = 0) = false := decide_eq_false (fun k => absurd e6 (by simp [k]))
              rw [eq, e7] at q0
              walk_at "rd"
              exact q0
        all_goals
          show (if true = true then _ else _)
          walk_at "rd"
          exact q0
end
end K2

namespace K2
open PySem PySem.Spec PyProof.Rows L2 Mc
section
variable {P : Program} {w : World} {K : PySem.W.Frag} {mg : Str → Option Value} {base : Heap}
local macro_rules | `(tactic| walk_at "rd1") => `(tactic| first
  | with_reducible refine g_seq ?_
  | with_reducible refine g_asg ?_
  | with_reducible refine g_name ?_
  | with_reducible refine g_c ?_
  | with_reducible refine g_op ?_
  | with_reducible refine g_ifS ?_
  | with_reducible refine g_if ?_
  | with_reducible refine g_test ?_
  | with_reducible refine g_B ?_
  | with_reducible refine g_bl ?_
  | with_reducible refine g_blV ?_
  | with_reducible refine g_not ?_
  | with_reducible refine g_and ?_
  | with_reducible refine g_or ?_
  | with_reducible refine g_notV ?_
  | with_reducible refine g_andV ?_
  | with_reducible refine g_orV ?_
  | with_reducible refine g_ret ?_
  | with_reducible refine g_drop ?_
  | with_reducible refine g_next ?_
  | with_reducible refine g_retN ?_
  | with_reducible refine g_call ?_
  | with_reducible refine g_cb ?_
  | with_reducible refine g_cons ?_
  | with_reducible refine g_nil ?_
  | with_reducible refine g_tup ?_
  | with_reducible refine g_lst ?_
  | with_reducible refine g_prop ?_
  | with_reducible refine g_fld ?_
  | with_reducible refine g_meth ?_
  | with_reducible refine g_chain ?_
  | with_reducible refine g_yes ?_
  | with_reducible refine g_make ?_
  | with_reducible refine g_makeK ?_
  | with_reducible refine g_gsub ?_
  | with_reducible refine g_sfld ?_
  | with_reducible refine g_un ?_
  | with_reducible refine g_bm ?_
  | with_reducible refine g_iteT ?_
  | with_reducible refine g_iteF ?_
  | with_reducible refine g_I0 ?_
  | with_reducible refine g_add ?_
  | with_reducible refine g_sub ?_
  | ((with_reducible refine' g_var ?hv ?_); (case hv => rfl))
  | ((with_reducible refine g_eq ?hv ?_); (case hv => rfl))
  | ((with_reducible refine g_ne ?hv ?_); (case hv => rfl)))
local macro_rules | `(tactic| walk_at "rd") => `(tactic| repeat (walk_at "rd1"))

local macro_rules | `(tactic| walk_at "ty") => `(tactic| first | exact .non | exact .bl _ | exact .int _ | exact .str _ | exact .lst (by assumption) | exact .tup (by assumption) | exact .dK (by assumption) | exact .kTup (by assumption) (by assumption))
local macro_rules | `(tactic| walk_at "isiF") => `(tactic| refine g_isi (by walk_at "ty") (b := false) (by decide +kernel) ?_)
local macro_rules | `(tactic| walk_at "isiT") => `(tactic| refine g_isi (by walk_at "ty") (b := true) (by decide +kernel) ?_)

def spAll (K : PySem.W.Frag) : Sp := fun vs H Q _ => ∃ t p e, vs = [.int t, p, e] ∧ 1 ≤ t ∧ t ≤ 1000 ∧
  (e ≠ .non → ∀ q H', Same H H' → H' q = some (.tup []) → Q (.ref q) H') ∧
  (e = .non → p = .non → ∀ q H', Same H H' → H' q = some (.tup (List.replicate (t - 1).toNat (.int 0))) → Q (.ref q) H') ∧
  (e = .non → p ≠ .non → Q p H)
theorem ok_all_pauses (T : Txt K mg) (D : Def K mg "_all_pauses" s_all_pauses ["tries", "pauses", "early"]) : Cal P w K mg base 1 "_all_pauses" (spAll K) := by
  refine cal_of D sc_all_pauses (fun vs H Q E h => ?_) (fun f cdv A outer s H vs Q E hr h => ?_)
  · obtain ⟨t, p, e, rfl, _⟩ := h
    rfl
  · obtain ⟨t, p, e, rfl, t1, t2, q1, q2, q3⟩ := h
    refine ⟨_, (pss_cons (ps_if (pt_cmpR op_notN (pv 2) pe_non (nomark _)) (pss_one (ps_ret (pe_tup pa_nil))) pss_nil)
      (pss_cons (ps_if (pt_cmpR op_isN (pv 1) pe_non (nomark _)) (pss_one (ps_ret (pe_op op_repS (pe_tup (pa_cons pe_int pa_nil)) (pe_op op_sub (pv 0) pe_int)))) pss_nil)
      (pss_one (ps_ret (pv 1))))), ?_⟩
    walk_at "rd"
    refine ⟨rfl, ?_⟩
    walk_at "rd"
    by_cases he : e = .non
    · subst he
      show (if false = true then _ else _)
      walk_at "rd"
      refine ⟨rfl, ?_⟩
      walk_at "rd"
      by_cases hp : p = .non
      · subst hp
        show (if true = true then _ else _)
        walk_at "rd"
        refine ⟨(by show 1 ≤ sizeLine; decide), fun a ha => ?_⟩
        walk_at "rd"
        refine ⟨a, t - 1, .int 0, rfl, rfl, SqT.of upd_same, by omega, by omega, fun e => ?_, fun e b hb => ?_⟩
        · refine q2 rfl rfl _ _ (same_new ha) ?_
          rw [upd_same, e]
          rfl
        · refine q2 rfl rfl _ _ (Same.trans (same_new ha) (same_new hb)) ?_
          rw [upd_same]
      · rw [decide_eq_false hp]
        walk_at "rd"
        exact q3 rfl hp
    · rw [decide_eq_false he]
      show (if true = true then _ else _)
      walk_at "rd"
      refine ⟨(by show 0 ≤ sizeLine; decide), fun a ha => ?_⟩
      exact q1 he _ _ (same_new ha) upd_same

def isB : V → Bool
  | .bl _ => true
  | _ => false
def gt1 : V → Bool
  | .int i => decide (1 < i)
  | _ => false
def wfV (l t p e y : V) (pb gb : Bool) : V :=
  if btw l 1 20 then if btw t 1 3 then
    if !decide (p = .non) && !(decide (e = .non) && pb) then .str "pauses" else
    if !decide (e = .non) && !(gt1 t && btw e 1 20) then .str "early" else
    if isB y then (if gb then .non else .str "ending") else .str "lossy"
  else .str "tries" else .str "limit"
def SeqR (K : PySem.W.Frag) (H : Hp) (v : V) (f : List V → Bool) (b : Bool) : Prop :=
  (∃ n, Mc.TyB K H v n ∧ n ≠ "tuple" ∧ b = false) ∨ (∃ a xs, v = .ref a ∧ TupV K H a xs ∧ Typed K H xs ∧ xs.length ≤ 1000 ∧ b = f xs)
theorem Typed.ext {H H' : Hp} {xs : List V} (e : Same H H') (h : Typed K H xs) : Typed K H' xs := fun x hx => (h x hx).elim fun n t => ⟨n, TyB.ext e t⟩
theorem SeqR.ext {H H' : Hp} {v : V} {f : List V → Bool} {b : Bool} (e : Same H H') (h : SeqR K H v f b) : SeqR K H' v f b := by
  rcases h with ⟨n, t, hn, hb⟩ | ⟨a, xs, ev, tv, ty, hl, hb⟩
  · exact .inl ⟨n, TyB.ext e t, hn, hb⟩
  · exact .inr ⟨a, xs, ev, TupV.ext e tv, Typed.ext e ty, hl, hb⟩
theorem SeqR.are {H : Hp} {Q : VK} {E : XK} {v : V} {t : Int} {b : Bool} (h : SeqR K H v (fun xs => arePz xs t) b) (q : ∀ H', Same H H' → Q (.bl b) H') : spAre K [v, .int t] H Q E := by
  refine ⟨v, t, rfl, ?_⟩
  rcases h with ⟨n, ty, hn, rfl⟩ | ⟨a, xs, ev, tv, ty, hl, rfl⟩
  · exact .inl ⟨n, ty, hn, q H (Same.refl H)⟩
  · exact .inr ⟨a, xs, ev, tv, ty, hl, q⟩
theorem SeqR.en {H : Hp} {Q : VK} {E : XK} {v : V} {b : Bool} (h : SeqR K H v endOk b) (q : ∀ H', Same H H' → Q (.bl b) H') : spEnd K [v] H Q E := by
  refine ⟨v, rfl, ?_⟩
  rcases h with ⟨n, ty, hn, rfl⟩ | ⟨a, xs, ev, tv, ty, hl, rfl⟩
  · exact .inl ⟨n, ty, hn, q H (Same.refl H)⟩
  · exact .inr ⟨a, xs, ev, tv, ty, hl, q⟩
def spWrong (K : PySem.W.Frag) : Sp := fun vs H Q _ => ∃ l t p e y g n1 n2 n3 n4 pb gb, vs = [l, t, p, e, y, g] ∧ Mc.TyB K H l n1 ∧ Mc.TyB K H t n2 ∧ Mc.TyB K H e n3 ∧ Mc.TyB K H y n4 ∧
  (∀ i, t = .int i → SeqR K H p (fun xs => arePz xs i) pb) ∧ SeqR K H g endOk gb ∧ ∀ H', Same H H' → Q (wfV l t p e y pb gb) H'
theorem btw_int {v : V} {a b : Int} (h : btw v a b = true) : ∃ i, v = .int i := by
  cases v <;> first | exact ⟨_, rfl⟩ | exact Bool.noConfusion h
theorem isB_ty {H : Hp} {v : V} {n : String} (h : Mc.TyB K H v n) : isB v = (n == "bool") := by
  cases h <;> rfl

def spAcc (K : PySem.W.Frag) : Sp := fun vs H Q _ => ∃ f v, vs = [.str f, v] ∧ ((f = "limit" ∧ ∃ n, Mc.TyB K H v n ∧ Q (.bl (btw v 1 20)) H) ∨ (f = "tries" ∧ ∃ n, Mc.TyB K H v n ∧ Q (.bl (btw v 1 3)) H) ∨
  (f = "ending" ∧ ∃ gb, SeqR K H v endOk gb ∧ ∀ H', Same H H' → Q (.bl gb) H'))
theorem ok_accepts (T : Txt K mg) (D : Def K mg "accepts" s_accepts ["field", "value"]) (c_is_between : Cal P w K mg base 2 "is_between" (spBtw K))
    (c_is_ending : Cal P w K mg base 3 "_is_ending" (spEnd K)) : Cal P w K mg base 4 "accepts" (spAcc K) := by
  refine cal_of D sc_accepts (fun vs H Q E h => ?_) (fun f cdv A outer s H vs Q E hr h => ?_)
  · obtain ⟨f, v, rfl, _⟩ := h
    rfl
  · obtain ⟨f, v, rfl, h⟩ := h
    refine ⟨_, (pss_cons (ps_if (pt_cmpR op_eq (pv 0) pe_str (nomark _)) (pss_one (ps_ret (pe_f c_is_between hr (by decide) (by rfl) (pa_cons (pv 1) (pa_cons pe_int (pa_cons (pe_gx rfl T.g_MOST_LIMIT) pa_nil)))))) pss_nil)
      (pss_cons (ps_if (pt_cmpR op_eq (pv 0) pe_str (nomark _)) (pss_one (ps_ret (pe_f c_is_between hr (by decide) (by rfl) (pa_cons (pv 1) (pa_cons pe_int (pa_cons (pe_gx rfl T.g_MOST_TRIES) pa_nil)))))) pss_nil)
      (pss_one (ps_ret (pe_and (pe_cmpR op_eq (pv 0) pe_str (nomark _)) (pe_one (pe_f c_is_ending hr (by decide) (by rfl) (pa_cons (pv 1) pa_nil)))))))), ?_⟩
    have n1 : decide (V.str "tries" = V.str "limit") = false := decide_eq_false (fun z => absurd (V.str.inj z) (by decide))
    have n2 : decide (V.str "ending" = V.str "limit") = false := decide_eq_false (fun z => absurd (V.str.inj z) (by decide))
    have n3 : decide (V.str "ending" = V.str "tries") = false := decide_eq_false (fun z => absurd (V.str.inj z) (by decide))
    rcases h with ⟨rfl, n, ty, q⟩ | ⟨rfl, n, ty, q⟩ | ⟨rfl, gb, sq, q⟩
    · walk_at "rd"
      rw [decide_eq_true (Eq.refl (V.str "limit"))]
      walk_at "rd"
      refine ⟨v, n, 1, 20, rfl, ty, ?_⟩
      walk_at "rd"
      exact q
    · walk_at "rd"
      rw [n1]
      walk_at "rd"
      rw [decide_eq_true (Eq.refl (V.str "tries"))]
      walk_at "rd"
      refine ⟨v, n, 1, 3, rfl, ty, ?_⟩
      walk_at "rd"
      exact q
    · walk_at "rd"
      rw [n2]
      walk_at "rd"
      rw [n3]
      walk_at "rd"
      rw [decide_eq_true (Eq.refl (V.str "ending"))]
      walk_at "rd"
      refine SeqR.en sq fun H2 S2 => ?_
      walk_at "rd"
      exact q _ S2
theorem ok_wrong_field (T : Txt K mg) (D : Def K mg "_wrong_field" s_wrong_field ["limit", "tries", "pauses", "early", "lossy", "ending"]) (c_is_between : Cal P w K mg base 2 "is_between" (spBtw K))
    (c_are_pauses : Cal P w K mg base 3 "_are_pauses" (spAre K)) (c_accepts : Cal P w K mg base 4 "accepts" (spAcc K)) : Cal P w K mg base 5 "_wrong_field" (spWrong K) := by
  refine cal_of D sc_wrong_field (fun vs H Q E h => ?_) (fun f cdv A outer s H vs Q E hr h => ?_)
  · obtain ⟨l, t, p, e, y, g, _, _, _, _, _, _, rfl, _⟩ := h
    rfl
  · obtain ⟨l, t, p, e, y, g, n1, n2, n3, n4, pb, gb, rfl, t1, t2, t3, t4, hp, hg, q⟩ := h
    refine ⟨_, (pss_cons (ps_if (pt_not (pt_val (pe_f c_accepts hr (by decide) (by rfl) (pa_cons pe_str (pa_cons (pv 0) pa_nil))))) (pss_one (ps_ret pe_str)) pss_nil)
      (pss_cons (ps_if (pt_not (pt_val (pe_f c_accepts hr (by decide) (by rfl) (pa_cons pe_str (pa_cons (pv 1) pa_nil))))) (pss_one (ps_ret pe_str)) pss_nil)
      (pss_cons (ps_if (PW.pt (pw_and (pt_cmpR op_notN (pv 2) pe_non (nomark _)) (pw_and1 (pt_not (PW.pt (pw_and (pt_cmpR op_isN (pv 3) pe_non (nomark _)) (pw_and1 (pt_val (pe_f c_are_pauses hr (by decide) (by rfl) (pa_cons (pv 2) (pa_cons (pv 1) pa_nil))))))))))) (pss_one (ps_ret pe_str)) pss_nil)
      (pss_cons (ps_if (PW.pt (pw_and (pt_cmpR op_notN (pv 3) pe_non (nomark _)) (pw_and1 (pt_not (PW.pt (pw_and (pt_cmpR op_gt (pv 1) pe_int (nomark _)) (pw_and1 (pt_val (pe_f c_is_between hr (by decide) (by rfl) (pa_cons (pv 3) (pa_cons pe_int (pa_cons pe_int pa_nil)))))))))))) (pss_one (ps_ret pe_str)) pss_nil)
      (pss_cons (ps_if (pt_not (pt_val (pe_callB call_isi (by rfl) T.n_isinstance (by decide +kernel) (pa_cons (pv 4) (pa_cons (pe_ty "bool" (by rfl) T.n_bool (by decide +kernel)) pa_nil))))) (pss_one (ps_ret pe_str)) pss_nil)
      (pss_cons (ps_if (pt_not (pt_val (pe_f c_accepts hr (by decide) (by rfl) (pa_cons pe_str (pa_cons (pv 5) pa_nil))))) (pss_one (ps_ret pe_str)) pss_nil)
      (pss_one (ps_ret pe_non)))))))), ?_⟩
    walk_at "rd"
    refine ⟨_, l, rfl, .inl ⟨rfl, n1, t1, ?_⟩⟩
    walk_at "rd"
    unfold wfV at q
    cases e1 : btw l 1 20
    · rw [e1] at q
      show (if true = true then _ else _)
      walk_at "rd"
      exact q H (Same.refl H)
    rw [e1] at q
    show (if false = true then _ else _)
    walk_at "rd"
    refine ⟨_, t, rfl, .inr (.inl ⟨rfl, n2, t2, ?_⟩)⟩
    walk_at "rd"
    cases e2 : btw t 1 3
    · rw [e2] at q
      show (if true = true then _ else _)
      walk_at "rd"
      exact q H (Same.refl H)
    rw [e2] at q
    obtain ⟨i, rfl⟩ := btw_int e2
    have hp := hp i rfl
    show (if false = true then _ else _)
    walk_at "rd"
    refine ⟨rfl, ?_⟩
    walk_at "rd"
    have S := Same.refl H
    by_cases hen : e = .non
    · subst hen
      by_cases hpn : p = .non
      · subst hpn
        show (if false = true then _ else _)
        walk_at "rd"
        refine ⟨rfl, ?_⟩
        walk_at "rd"
        show (if false = true then _ else _)
        walk_at "rd"
        refine g_isi (TyB.ext S t4) (kb_bool t4.mem) ?_
        rw [isB_ty t4] at q
        walk_at "rd"
        cases ey : (n4 == "bool")
        · rw [ey] at q
          show (if true = true then _ else _)
          walk_at "rd"
          exact q _ S
        · rw [ey] at q
          show (if false = true then _ else _)
          walk_at "rd"
          refine ⟨_, g, rfl, .inr (.inr ⟨rfl, gb, SeqR.ext S hg, fun H2 S2 => ?_⟩)⟩
          walk_at "rd"
          cases gb
          · show (if true = true then _ else _)
            walk_at "rd"
            exact q _ (Same.trans S S2)
          · show (if false = true then _ else _)
            walk_at "rd"
            exact q _ (Same.trans S S2)
      · rw [decide_eq_false hpn]
        rw [decide_eq_false hpn] at q
        show (if true = true then _ else _)
        walk_at "rd"
        refine ⟨rfl, ?_⟩
        walk_at "rd"
        show (if true = true then _ else _)
        walk_at "rd"
        refine hp.are fun H1 S1 => ?_
        walk_at "rd"
        cases pb
        · show (if true = true then _ else _)
          walk_at "rd"
          exact q H1 S1
        · show (if false = true then _ else _)
          walk_at "rd"
          refine ⟨rfl, ?_⟩
          walk_at "rd"
          show (if false = true then _ else _)
          walk_at "rd"
          have S := S1
          refine g_isi (TyB.ext S t4) (kb_bool t4.mem) ?_
          rw [isB_ty t4] at q
          walk_at "rd"
          cases ey : (n4 == "bool")
          · rw [ey] at q
            show (if true = true then _ else _)
            walk_at "rd"
            exact q _ S
          · rw [ey] at q
            show (if false = true then _ else _)
            walk_at "rd"
            refine ⟨_, g, rfl, .inr (.inr ⟨rfl, gb, SeqR.ext S hg, fun H2 S2 => ?_⟩)⟩
            walk_at "rd"
            cases gb
            · show (if true = true then _ else _)
              walk_at "rd"
              exact q _ (Same.trans S S2)
            · show (if false = true then _ else _)
              walk_at "rd"
              exact q _ (Same.trans S S2)
    · rw [decide_eq_false hen] at q
      by_cases hpn : p = .non
      · subst hpn
        show (if false = true then _ else _)
        walk_at "rd"
        refine ⟨rfl, ?_⟩
        walk_at "rd"
        rw [decide_eq_false hen]
        show (if true = true then _ else _)
        walk_at "rd"
        have eg : gt1 (.int i) = decide (1 < i) := rfl
        rw [eg] at q
        refine g_ite (fun e3 => ?_) (fun e3 => ?_)
        · walk_at "rd"
          refine ⟨e, n3, 1, 20, rfl, t3, ?_⟩
          walk_at "rd"
          rw [e3] at q
          cases e4 : btw e 1 20
          · rw [e4] at q
            show (if true = true then _ else _)
            walk_at "rd"
            exact q H S
          · rw [e4] at q
            show (if false = true then _ else _)
            walk_at "rd"
            refine g_isi (TyB.ext S t4) (kb_bool t4.mem) ?_
            rw [isB_ty t4] at q
            walk_at "rd"
            cases ey : (n4 == "bool")
            · rw [ey] at q
              show (if true = true then _ else _)
              walk_at "rd"
              exact q _ S
            · rw [ey] at q
              show (if false = true then _ else _)
              walk_at "rd"
              refine ⟨_, g, rfl, .inr (.inr ⟨rfl, gb, SeqR.ext S hg, fun H2 S2 => ?_⟩)⟩
              walk_at "rd"
              cases gb
              · show (if true = true then _ else _)
                walk_at "rd"
                exact q _ (Same.trans S S2)
              · show (if false = true then _ else _)
                walk_at "rd"
                exact q _ (Same.trans S S2)
        · rw [e3] at q
          walk_at "rd"
          show (if true = true then _ else _)
          walk_at "rd"
          exact q H S
      · rw [decide_eq_false hpn]
        rw [decide_eq_false hpn] at q
        show (if true = true then _ else _)
        walk_at "rd"
        refine ⟨rfl, ?_⟩
        walk_at "rd"
        rw [decide_eq_false hen]
        show (if false = true then _ else _)
        walk_at "rd"
        show (if true = true then _ else _)
        walk_at "rd"
        exact q H S
end
end K2

namespace K2
open PySem PySem.Spec PyProof.Rows L2 Mc
/-! ### a policy as data -/
inductive En where
  | go | deadline | stop (d : Int)
def En.vs : En → List V
  | .go => [.str sGo]
  | .deadline => [.str sDeadline]
  | .stop d => [.str sStop, .int d]
def En.ds : En → List PyData
  | .go => [.str sGo]
  | .deadline => [.str sDeadline]
  | .stop d => [.str sStop, .int d]
def En.ok : En → Prop
  | .stop d => 0 ≤ d ∧ d ≤ 20
  | _ => True
structure Pol where
  z : Str
  l : Int
  t : Int
  ps : List Int
  e : Option Int
  b : Bool
  g : En
def eV : Option Int → V
  | none => .non
  | some i => .int i
def eD : Option Int → PyData
  | none => .none
  | some i => .int i
def Pol.ds (q : Pol) : List PyData := [.str q.z, .int q.l, .int q.t, .tuple (q.ps.map .int), eD q.e, .bool q.b, .tuple q.g.ds]
def Pol.vs (q : Pol) (pa ga : Addr) : List V := [.str q.z, .int q.l, .int q.t, .ref pa, eV q.e, .bl q.b, .ref ga]
structure Pol.ok (q : Pol) : Prop where
  nm : isNm q.z = true
  nl : q.z.length ≤ 1000
  l1 : 1 ≤ q.l
  l2 : q.l ≤ 20
  t1 : 1 ≤ q.t
  t2 : q.t ≤ 3
  e1 : ∀ i, q.e = some i → 2 ≤ q.t ∧ 1 ≤ i ∧ i ≤ 20 ∧ q.ps = []
  e0 : q.e = none → (q.ps.length : Int) = q.t - 1 ∧ ∀ i ∈ q.ps, 0 ≤ i ∧ i ≤ 8
  g1 : q.g.ok
def pfs (n l t p e y g : V) : List (Str × V) := [("_name", n), ("_limit", l), ("_tries", t), ("_pauses", p), ("_early", e), ("_lossy", y), ("_ending", g)]
def Pol.fs (q : Pol) (pa ga : Addr) : List (Str × V) := pfs (.str q.z) (.int q.l) (.int q.t) (.ref pa) (eV q.e) (.bl q.b) (.ref ga)
structure Tups (K : PySem.W.Frag) (H : Hp) (q : Pol) (pa ga : Addr) : Prop where
  p : TupV K H pa (q.ps.map V.int)
  g : TupV K H ga q.g.vs
theorem Tups.ext {K : PySem.W.Frag} {H H' : Hp} {q : Pol} {pa ga : Addr} (e : Same H H') (h : Tups K H q pa ga) : Tups K H' q pa ga := ⟨TupV.ext e h.p, TupV.ext e h.g⟩
def PolAt (K : PySem.W.Frag) (C : Addr) (H : Hp) (a : Addr) (q : Pol) : Prop := ∃ dx pa ga, H a = some (.ins C dx (q.fs pa ga)) ∧ Tups K H q pa ga
theorem PolAt.ext {K : PySem.W.Frag} {C : Addr} {H H' : Hp} {a : Addr} {q : Pol} (e : Same H H') (h : PolAt K C H a q) : PolAt K C H' a q := by
  obtain ⟨dx, pa, ga, h1, h2⟩ := h
  exact ⟨dx, pa, ga, e _ _ h1, h2.ext e⟩

theorem endOk_ok {g : En} (h : g.ok) : endOk g.vs = true := by
  cases g with
  | go => decide +kernel
  | deadline => decide +kernel
  | stop d =>
    have h1 : 0 ≤ d := h.1
    have h2 : d ≤ 20 := h.2
    simp [En.vs, endOk, btw, h1, h2]
theorem typed_en {K : PySem.W.Frag} {H : Hp} {g : En} : Typed K H g.vs := by
  intro x hx
  cases g <;> simp [En.vs] at hx
  · subst hx; exact ⟨_, .str _⟩
  · subst hx; exact ⟨_, .str _⟩
  · rcases hx with rfl | rfl
    · exact ⟨_, .str _⟩
    · exact ⟨_, .int _⟩
theorem en_len {g : En} : g.vs.length ≤ 1000 := by cases g <;> simp [En.vs]
theorem typed_ints {K : PySem.W.Frag} {H : Hp} {ns : List Int} : Typed K H (ns.map V.int) := by
  intro x hx
  obtain ⟨i, _, rfl⟩ := List.mem_map.mp hx
  exact ⟨_, .int i⟩
theorem dp_ints {K : PySem.W.Frag} {H : Hp} : ∀ ns : List Int, DpAll K H (ns.map V.int) (ns.map PyData.int)
  | [] => .nil
  | i :: r => .cons (.int i) (dp_ints r)
theorem dp_en {K : PySem.W.Frag} {H : Hp} {g : En} : DpAll K H g.vs g.ds := by
  cases g with
  | go => exact .cons (.str _) .nil
  | deadline => exact .cons (.str _) .nil
  | stop d => exact .cons (.str _) (.cons (.int _) .nil)
theorem dp_e {K : PySem.W.Frag} {H : Hp} {e : Option Int} : Dp K H (eV e) (eD e) := by
  cases e with
  | none => exact .non
  | some i => exact .int i
theorem dp_pol {K : PySem.W.Frag} {H : Hp} {q : Pol} {pa ga : Addr} (h : Tups K H q pa ga) : DpAll K H (q.vs pa ga) q.ds :=
  .cons (.str _) (.cons (.int _) (.cons (.int _) (.cons (.tup h.p.sq (dp_ints _)) (.cons dp_e (.cons (.bl _) (.cons (.tup h.g.sq dp_en) .nil))))))

section
variable {P : Program} {w : World} {K : PySem.W.Frag} {mg : Str → Option Value} {base : Heap}
local macro_rules | `(tactic| walk_at "rd1") => `(tactic| first
  | with_reducible refine g_seq ?_
  | with_reducible refine g_asg ?_
  | with_reducible refine g_name ?_
  | with_reducible refine g_c ?_
  | with_reducible refine g_op ?_
  | with_reducible refine g_ifS ?_
  | with_reducible refine g_if ?_
  | with_reducible refine g_test ?_
  | with_reducible refine g_B ?_
  | with_reducible refine g_bl ?_
  | with_reducible refine g_blV ?_
  | with_reducible refine g_not ?_
  | with_reducible refine g_and ?_
  | with_reducible refine g_or ?_
  | with_reducible refine g_notV ?_
  | with_reducible refine g_andV ?_
  | with_reducible refine g_orV ?_
  | with_reducible refine g_ret ?_
  | with_reducible refine g_drop ?_
  | with_reducible refine g_next ?_
  | with_reducible refine g_retN ?_
  | with_reducible refine g_call ?_
  | with_reducible refine g_cb ?_
  | with_reducible refine g_cons ?_
  | with_reducible refine g_nil ?_
  | with_reducible refine g_tup ?_
  | with_reducible refine g_lst ?_
  | with_reducible refine g_prop ?_
  | with_reducible refine g_fld ?_
  | with_reducible refine g_meth ?_
  | with_reducible refine g_chain ?_
  | with_reducible refine g_yes ?_
  | with_reducible refine g_make ?_
  | with_reducible refine g_makeK ?_
  | with_reducible refine g_gsub ?_
  | with_reducible refine g_sfld ?_
  | with_reducible refine g_un ?_
  | with_reducible refine g_bm ?_
  | with_reducible refine g_iteT ?_
  | with_reducible refine g_iteF ?_
  | with_reducible refine g_I0 ?_
  | with_reducible refine g_add ?_
  | with_reducible refine g_sub ?_
  | ((with_reducible refine' g_var ?hv ?_); (case hv => rfl))
  | ((with_reducible refine g_eq ?hv ?_); (case hv => rfl))
  | ((with_reducible refine g_ne ?hv ?_); (case hv => rfl)))
local macro_rules | `(tactic| walk_at "rd") => `(tactic| repeat (walk_at "rd1"))

local macro_rules | `(tactic| walk_at "ty") => `(tactic| first | exact .non | exact .bl _ | exact .int _ | exact .str _ | exact .lst (by assumption) | exact .tup (by assumption) | exact .dK (by assumption) | exact .kTup (by assumption) (by assumption))
local macro_rules | `(tactic| walk_at "isiF") => `(tactic| refine g_isi (by walk_at "ty") (b := false) (by decide +kernel) ?_)
local macro_rules | `(tactic| walk_at "isiT") => `(tactic| refine g_isi (by walk_at "ty") (b := true) (by decide +kernel) ?_)

structure CTxt (K : PySem.W.Frag) (C : Addr) : Prop where
  cl : Cls K C
  n1 : NoAttr K C "_name"
  n2 : NoAttr K C "_limit"
  n3 : NoAttr K C "_tries"
  n4 : NoAttr K C "_pauses"
  n5 : NoAttr K C "_early"
  n6 : NoAttr K C "_lossy"
  n7 : NoAttr K C "_ending"
theorem pf_skip {f h : Str} {v x : V} {r : List (Str × V)} (n : ¬ h = f) : putF f v ((h, x) :: r) = (h, x) :: putF f v r := if_neg n
theorem pf_nil {f : Str} {v : V} : putF f v [] = [(f, v)] := rfl
theorem pf_all {n l t p e y g : V} : putF "_ending" g (putF "_lossy" y (putF "_early" e (putF "_pauses" p (putF "_tries" t (putF "_limit" l (putF "_name" n [])))))) = pfs n l t p e y g := by
  unfold pfs
  rw [pf_nil]
  rw [pf_skip (f := "_limit") (h := "_name") (by decide +kernel)]
  rw [pf_nil]
  rw [pf_skip (f := "_tries") (h := "_name") (by decide +kernel)]
  rw [pf_skip (f := "_tries") (h := "_limit") (by decide +kernel)]
  rw [pf_nil]
  rw [pf_skip (f := "_pauses") (h := "_name") (by decide +kernel)]
  rw [pf_skip (f := "_pauses") (h := "_limit") (by decide +kernel)]
  rw [pf_skip (f := "_pauses") (h := "_tries") (by decide +kernel)]
  rw [pf_nil]
  rw [pf_skip (f := "_early") (h := "_name") (by decide +kernel)]
  rw [pf_skip (f := "_early") (h := "_limit") (by decide +kernel)]
  rw [pf_skip (f := "_early") (h := "_tries") (by decide +kernel)]
  rw [pf_skip (f := "_early") (h := "_pauses") (by decide +kernel)]
  rw [pf_nil]
  rw [pf_skip (f := "_lossy") (h := "_name") (by decide +kernel)]
  rw [pf_skip (f := "_lossy") (h := "_limit") (by decide +kernel)]
  rw [pf_skip (f := "_lossy") (h := "_tries") (by decide +kernel)]
  rw [pf_skip (f := "_lossy") (h := "_pauses") (by decide +kernel)]
  rw [pf_skip (f := "_lossy") (h := "_early") (by decide +kernel)]
  rw [pf_nil]
  rw [pf_skip (f := "_ending") (h := "_name") (by decide +kernel)]
  rw [pf_skip (f := "_ending") (h := "_limit") (by decide +kernel)]
  rw [pf_skip (f := "_ending") (h := "_tries") (by decide +kernel)]
  rw [pf_skip (f := "_ending") (h := "_pauses") (by decide +kernel)]
  rw [pf_skip (f := "_ending") (h := "_early") (by decide +kernel)]
  rw [pf_skip (f := "_ending") (h := "_lossy") (by decide +kernel)]
  rw [pf_nil]
def spInit (K : PySem.W.Frag) (C : Addr) : Sp := fun vs H Q _ => ∃ x dx q p ga, vs = [.ref x, .str q.z, .int q.l, .int q.t, p, eV q.e, .bl q.b, .ref ga] ∧ q.ok ∧ H x = some (.ins C dx []) ∧ TupV K H ga q.g.vs ∧
  ((p = .non ∧ (q.e = none → q.ps = List.replicate (q.t - 1).toNat 0)) ∨ (q.e = none ∧ ∃ pa, p = .ref pa ∧ TupV K H pa (q.ps.map V.int))) ∧
  ∀ H', PolAt K C H' x q → (∀ b o, H b = some o → b ≠ x → H' b = some o) → Q .non H'
theorem all_btw {ns : List Int} (h : ∀ i ∈ ns, 0 ≤ i ∧ i ≤ 8) : (ns.map V.int).all (fun x => btw x 0 8) = true := by
  rw [List.all_map, List.all_eq_true]
  intro i hi
  show (decide (0 ≤ i) && decide (i ≤ 8)) = true
  rw [decide_eq_true (h i hi).1, decide_eq_true (h i hi).2]
  rfl
theorem wf_ok {q : Pol} {p : V} (ok : q.ok) (hp : p = .non ∨ q.e = none) : wfV (.int q.l) (.int q.t) p (eV q.e) (.bl q.b) true true = .non := by
  unfold wfV
  have a1 : btw (.int q.l) 1 20 = true := by show (decide _ && decide _) = true; rw [decide_eq_true ok.l1, decide_eq_true ok.l2]; rfl
  have a2 : btw (.int q.t) 1 3 = true := by show (decide _ && decide _) = true; rw [decide_eq_true ok.t1, decide_eq_true ok.t2]; rfl
  rw [a1, a2, if_pos rfl, if_pos rfl]
  have a3 : (!decide (p = .non) && !(decide (eV q.e = .non) && true)) = false := by
    rcases hp with rfl | h
    · simp
    · rw [h]
      simp [eV]
  have a4 : (!decide (eV q.e = .non) && !(gt1 (.int q.t) && btw (eV q.e) 1 20)) = false := by
    cases he : q.e with
    | none => simp [eV]
    | some i =>
      obtain ⟨h1, h2, h3, _⟩ := ok.e1 i he
      have b1 : gt1 (.int q.t) = true := decide_eq_true (by omega)
      have b2 : btw (eV (some i)) 1 20 = true := by show (decide _ && decide _) = true; rw [decide_eq_true h2, decide_eq_true h3]; rfl
      rw [b1, b2]
      simp
  rw [a3, a4]
  rfl
theorem lenP {k : Nat} {f : Str} {v : V} : ∀ {fs : List (Str × V)}, fs.length ≤ k → (putF f v fs).length ≤ k + 1
  | [], _ => by show 1 ≤ k + 1; omega
  | (h, x) :: r, hk => by
    by_cases e : h = f
    · have q : putF f v ((h, x) :: r) = (h, v) :: r := if_pos e
      rw [q]
      simp at hk ⊢
      omega
    · rw [pf_skip e]
      cases k with
      | zero => simp at hk
      | succ k =>
        have := lenP (k := k) (f := f) (v := v) (fs := r) (by simpa using hk)
        simp
        exact this
theorem ltP (k : Nat) {fs : List (Str × V)} (h : fs.length ≤ k) (hk : k < 1000) : fs.length < 1000 := Nat.lt_of_le_of_lt h hk
theorem TupV.put {H : Hp} {x C dx a : Addr} {fs : List (Str × V)} {xs : List V} {o : HO} (hx : H x = some (.ins C dx fs)) (h : TupV K H a xs) : TupV K (upd H x o) a xs := by
  have off : ∀ {b : Addr} {u : HO}, H b = some u → (∀ C' d' f', u ≠ .ins C' d' f') → upd H x o b = some u := fun {b u} hb hu => by
    rw [upd_ne (fun e => by rw [e, hx] at hb; exact hu _ _ _ (Option.some.inj hb).symm)]
    exact hb
  obtain ⟨ty, sq⟩ := h
  constructor
  · generalize hn : "tuple" = n at ty
    cases ty with
    | tup e => exact .tup (off e (by intro _ _ _ z; cases z))
    | kTup e c => exact .kTup e c
    | lst e => exact absurd hn (by decide)
    | dK e => exact absurd hn (by decide)
  · rcases sq with (h | ⟨ob, h⟩) | h
    · exact .inl (.inl (off h (by intro _ _ _ z; cases z)))
    · exact .inl (.inr ⟨ob, off h (by intro _ _ _ z; cases z)⟩)
    · exact .inr h

abbrev kwsP (go : Addr) : List (Str × V) := [("tries", .int 1), ("pauses", .non), ("early", .non), ("lossy", .bl false), ("ending", .ref go)]
abbrev psP : List Str := ["self", "name", "limit", "tries", "pauses", "early", "lossy", "ending"]
theorem ok_init {f C go : Addr} {fd : FuncData} (F : FunD K "__init__" "Policy.__init__" (defArgs s_Policyinit) (defBody s_Policyinit) (defScope s_Policyinit) [] (kwsP go) f fd) (T : Txt K mg) (TC : CTxt K C)
    (c_is_name : Cal P w K mg base 1 "is_name" (spName K)) (c_wrong_field : Cal P w K mg base 5 "_wrong_field" (spWrong K)) (c_all_pauses : Cal P w K mg base 1 "_all_pauses" (spAll K)) :
    FnOk P w K mg base CX0 6 f fd psP (spInit K C) := by
  refine F.ok sc_Policyinit (fun vs H Q E h => ?_) (fun cdv A outer s H vs Q E hr h => ?_)
  · obtain ⟨x, dx, q, p, ga, rfl, _⟩ := h
    rfl
  · obtain ⟨x, dx, q, p, ga, rfl, ok, hx, tg, hp, k⟩ := h
    refine ⟨_, (pss_cons (ps_if (pt_not (pt_val (pe_f c_is_name hr (by decide) (by rfl) (pa_cons (pv 1) pa_nil)))) (pss_one ps_never) pss_nil)
      (pss_cons (ps_set (i := 8) sc_Policyinit.nd rfl (Or.inl rfl) (pe_f c_wrong_field hr (by decide) (by rfl) (pa_cons (pv 2) (pa_cons (pv 3) (pa_cons (pv 4) (pa_cons (pv 5) (pa_cons (pv 6) (pa_cons (pv 7) pa_nil))))))))
      (pss_cons (ps_if (pt_cmpR op_notN (pv 8) pe_non (nomark _)) (pss_one ps_never) pss_nil)
      (pss_cons (ps_fld (pv 0) (pv 1) rfl)
      (pss_cons (ps_fld (pv 0) (pv 2) rfl)
      (pss_cons (ps_fld (pv 0) (pv 3) rfl)
      (pss_cons (ps_fld (pv 0) (pe_f c_all_pauses hr (by decide) (by rfl) (pa_cons (pv 3) (pa_cons (pv 4) (pa_cons (pv 5) pa_nil)))) rfl)
      (pss_cons (ps_fld (pv 0) (pv 5) rfl)
      (pss_cons (ps_fld (pv 0) (pv 6) rfl)
      (pss_one (ps_fld (pv 0) (pv 7) rfl))))))))))), ?_⟩
    walk_at "rd"
    refine ⟨.str q.z, _, rfl, .str _, fun z e => by injection e with e; rw [← e]; exact ok.nl, fun H1 S1 => ?_⟩
    walk_at "rd"
    have e1 : nmV (.str q.z) = true := ok.nm
    rw [e1]
    show (if false = true then _ else _)
    walk_at "rd"
    have te : ∃ n, Mc.TyB K H1 (eV q.e) n := by
      cases q.e with
      | none => exact ⟨_, .non⟩
      | some i => exact ⟨_, .int i⟩
    obtain ⟨ne, te⟩ := te
    have hpp : p = .non ∨ q.e = none := hp.elim (fun h => .inl h.1) (fun h => .inr h.1)
    -- what the pauses are
    have sp : ∃ pb, (∀ i, V.int q.t = V.int i → SeqR K H1 p (fun xs => arePz xs i) pb) ∧ wfV (.int q.l) (.int q.t) p (eV q.e) (.bl q.b) pb true = .non := by
      rcases hp with ⟨rfl, _⟩ | ⟨he, pa, rfl, tp⟩
      · refine ⟨false, fun i _ => .inl ⟨_, .non, by decide, rfl⟩, ?_⟩
        have := wf_ok (p := .non) ok (.inl rfl)
        unfold wfV at this ⊢
        simpa using this
      · refine ⟨true, fun i hi => ?_, wf_ok ok (.inr he)⟩
        injection hi with hi
        subst hi
        obtain ⟨hl, hb⟩ := ok.e0 he
        refine .inr ⟨pa, _, rfl, TupV.ext S1 tp, typed_ints, ?_, ?_⟩
        · rw [List.length_map]
          have := ok.t2
          omega
        · show true = (decide (V.int (((q.ps.map V.int).length : Nat) : Int) = V.int (q.t - 1)) && (q.ps.map V.int).all fun x => btw x 0 8)
          rw [all_btw hb, List.length_map, hl]
          simp
    obtain ⟨pb, sp, hw⟩ := sp
    refine ⟨_, _, p, _, _, _, "int", "int", ne, "bool", pb, true, rfl, .int _, .int _, te, .bl _, sp, .inr ⟨ga, _, rfl, TupV.ext S1 tg, typed_en, en_len, (endOk_ok ok.g1).symm⟩, fun H2 S2 => ?_⟩
    rw [hw]
    walk_at "rd"
    refine ⟨rfl, ?_⟩
    walk_at "rd"
    show (if false = true then _ else _)
    walk_at "rd"
    have S := Same.trans S1 S2
    refine ⟨x, C, dx, _, rfl, S _ _ hx, TC.cl, TC.n1, (by show 0 < 1000; decide), ?_⟩
    walk_at "rd"
    refine ⟨x, C, dx, _, rfl, upd_same, TC.cl, TC.n2, (by show 1 < 1000; decide), ?_⟩
    walk_at "rd"
    refine ⟨x, C, dx, _, rfl, upd_same, TC.cl, TC.n3, ltP 2 (lenP (lenP (Nat.zero_le _))) (by decide), ?_⟩
    walk_at "rd"
    have hx2 := S _ _ hx
    refine ⟨q.t, p, eV q.e, rfl, ok.t1, (by have := ok.t2; omega), fun he b H3 S3 hb => ?_, fun he hp0 b H3 S3 hb => ?_, fun he hp0 => ?_⟩
    · have eps : q.ps = [] := by
        cases e : q.e with
        | none => rw [e] at he; exact absurd rfl he
        | some i => exact (ok.e1 i e).2.2.2
      have tb : TupV K H3 b (q.ps.map V.int) := by rw [eps]; exact ⟨.tup hb, SqT.of hb⟩
      have tga : TupV K H3 ga q.g.vs := TupV.ext S3 (TupV.put upd_same (TupV.put upd_same (TupV.put hx2 (TupV.ext S tg))))
      walk_at "rd"
      refine ⟨x, C, dx, _, rfl, S3 _ _ upd_same, TC.cl, TC.n4, ltP 3 (lenP (lenP (lenP (Nat.zero_le _)))) (by decide), ?_⟩
      walk_at "rd"
      refine ⟨x, C, dx, _, rfl, upd_same, TC.cl, TC.n5, ltP 4 (lenP (lenP (lenP (lenP (Nat.zero_le _))))) (by decide), ?_⟩
      walk_at "rd"
      refine ⟨x, C, dx, _, rfl, upd_same, TC.cl, TC.n6, ltP 5 (lenP (lenP (lenP (lenP (lenP (Nat.zero_le _)))))) (by decide), ?_⟩
      walk_at "rd"
      refine ⟨x, C, dx, _, rfl, upd_same, TC.cl, TC.n7, ltP 6 (lenP (lenP (lenP (lenP (lenP (lenP (Nat.zero_le _))))))) (by decide), ?_⟩
      rw [pf_all]
      refine k _ ⟨dx, b, ga, upd_same, ?_⟩ (fun c o hc hn => ?_)
      · exact ⟨TupV.put upd_same (TupV.put upd_same (TupV.put upd_same (TupV.put (S3 _ _ upd_same) tb))), TupV.put upd_same (TupV.put upd_same (TupV.put upd_same (TupV.put (S3 _ _ upd_same) tga)))⟩
      · rw [upd_ne hn, upd_ne hn, upd_ne hn, upd_ne hn]
        refine S3 _ _ ?_
        rw [upd_ne hn, upd_ne hn, upd_ne hn]
        exact S _ _ hc
    · have eps : q.ps = List.replicate (q.t - 1).toNat 0 := by
        rcases hp with ⟨_, h⟩ | ⟨_, pa, h, _⟩
        · refine h ?_
          cases e : q.e with
          | none => rfl
          | some i => rw [e] at he; exact absurd he (by intro z; cases z)
        · rw [hp0] at h
          cases h
      have hb' : H3 b = some (.tup (q.ps.map V.int)) := by rw [hb, eps, List.map_replicate]
      have tb : TupV K H3 b (q.ps.map V.int) := ⟨.tup hb', SqT.of hb'⟩
      have tga : TupV K H3 ga q.g.vs := TupV.ext S3 (TupV.put upd_same (TupV.put upd_same (TupV.put hx2 (TupV.ext S tg))))
      walk_at "rd"
      refine ⟨x, C, dx, _, rfl, S3 _ _ upd_same, TC.cl, TC.n4, ltP 3 (lenP (lenP (lenP (Nat.zero_le _)))) (by decide), ?_⟩
      walk_at "rd"
      refine ⟨x, C, dx, _, rfl, upd_same, TC.cl, TC.n5, ltP 4 (lenP (lenP (lenP (lenP (Nat.zero_le _))))) (by decide), ?_⟩
      walk_at "rd"
      refine ⟨x, C, dx, _, rfl, upd_same, TC.cl, TC.n6, ltP 5 (lenP (lenP (lenP (lenP (lenP (Nat.zero_le _)))))) (by decide), ?_⟩
      walk_at "rd"
      refine ⟨x, C, dx, _, rfl, upd_same, TC.cl, TC.n7, ltP 6 (lenP (lenP (lenP (lenP (lenP (lenP (Nat.zero_le _))))))) (by decide), ?_⟩
      rw [pf_all]
      refine k _ ⟨dx, b, ga, upd_same, ?_⟩ (fun c o hc hn => ?_)
      · exact ⟨TupV.put upd_same (TupV.put upd_same (TupV.put upd_same (TupV.put (S3 _ _ upd_same) tb))), TupV.put upd_same (TupV.put upd_same (TupV.put upd_same (TupV.put (S3 _ _ upd_same) tga)))⟩
      · rw [upd_ne hn, upd_ne hn, upd_ne hn, upd_ne hn]
        refine S3 _ _ ?_
        rw [upd_ne hn, upd_ne hn, upd_ne hn]
        exact S _ _ hc
    · rcases hp with ⟨h, _⟩ | ⟨_, b, h, tp⟩
      · exact absurd h hp0
      · subst h
        have tb0 := (TupV.put (o := (.ins C dx (putF "_tries" (.int q.t) (putF "_limit" (.int q.l) (putF "_name" (.str q.z) []))))) upd_same (TupV.put (o := (.ins C dx (putF "_limit" (.int q.l) (putF "_name" (.str q.z) [])))) upd_same (TupV.put (o := (.ins C dx (putF "_name" (.str q.z) []))) hx2 (TupV.ext S tp))))
        obtain ⟨H3, hH3⟩ : ∃ H3, H3 = (upd (upd (upd H2 x (.ins C dx (putF "_name" (.str q.z) []))) x (.ins C dx (putF "_limit" (.int q.l) (putF "_name" (.str q.z) [])))) x (.ins C dx (putF "_tries" (.int q.t) (putF "_limit" (.int q.l) (putF "_name" (.str q.z) []))))) := ⟨_, rfl⟩
        have S3 : Same (upd (upd (upd H2 x (.ins C dx (putF "_name" (.str q.z) []))) x (.ins C dx (putF "_limit" (.int q.l) (putF "_name" (.str q.z) [])))) x (.ins C dx (putF "_tries" (.int q.t) (putF "_limit" (.int q.l) (putF "_name" (.str q.z) []))))) H3 := by rw [hH3]; exact Same.refl _
        rw [← hH3] at tb0 ⊢
        have tb := tb0
        have tga : TupV K H3 ga q.g.vs := TupV.ext S3 (TupV.put upd_same (TupV.put upd_same (TupV.put hx2 (TupV.ext S tg))))
        walk_at "rd"
        refine ⟨x, C, dx, _, rfl, S3 _ _ upd_same, TC.cl, TC.n4, ltP 3 (lenP (lenP (lenP (Nat.zero_le _)))) (by decide), ?_⟩
        walk_at "rd"
        refine ⟨x, C, dx, _, rfl, upd_same, TC.cl, TC.n5, ltP 4 (lenP (lenP (lenP (lenP (Nat.zero_le _))))) (by decide), ?_⟩
        walk_at "rd"
        refine ⟨x, C, dx, _, rfl, upd_same, TC.cl, TC.n6, ltP 5 (lenP (lenP (lenP (lenP (lenP (Nat.zero_le _)))))) (by decide), ?_⟩
        walk_at "rd"
        refine ⟨x, C, dx, _, rfl, upd_same, TC.cl, TC.n7, ltP 6 (lenP (lenP (lenP (lenP (lenP (lenP (Nat.zero_le _))))))) (by decide), ?_⟩
        rw [pf_all]
        refine k _ ⟨dx, b, ga, upd_same, ?_⟩ (fun c o hc hn => ?_)
        · exact ⟨TupV.put upd_same (TupV.put upd_same (TupV.put upd_same (TupV.put (S3 _ _ upd_same) tb))), TupV.put upd_same (TupV.put upd_same (TupV.put upd_same (TupV.put (S3 _ _ upd_same) tga)))⟩
        · rw [upd_ne hn, upd_ne hn, upd_ne hn, upd_ne hn]
          refine S3 _ _ ?_
          rw [upd_ne hn, upd_ne hn, upd_ne hn]
          exact S _ _ hc
end
end K2

namespace K2
open PySem PySem.Spec PyProof.Rows L2 Mc
section
variable {P : Program} {w : World} {K : PySem.W.Frag} {mg : Str → Option Value} {base : Heap}
local macro_rules | `(tactic| walk_at "rd1") => `(tactic| first
  | with_reducible refine g_seq ?_
  | with_reducible refine g_asg ?_
  | with_reducible refine g_name ?_
  | with_reducible refine g_c ?_
  | with_reducible refine g_op ?_
  | with_reducible refine g_ifS ?_
  | with_reducible refine g_if ?_
  | with_reducible refine g_test ?_
  | with_reducible refine g_B ?_
  | with_reducible refine g_bl ?_
  | with_reducible refine g_blV ?_
  | with_reducible refine g_not ?_
  | with_reducible refine g_and ?_
  | with_reducible refine g_or ?_
  | with_reducible refine g_notV ?_
  | with_reducible refine g_andV ?_
  | with_reducible refine g_orV ?_
  | with_reducible refine g_ret ?_
  | with_reducible refine g_drop ?_
  | with_reducible refine g_next ?_
  | with_reducible refine g_retN ?_
  | with_reducible refine g_call ?_
  | with_reducible refine g_cb ?_
  | with_reducible refine g_cons ?_
  | with_reducible refine g_nil ?_
  | with_reducible refine g_tup ?_
  | with_reducible refine g_lst ?_
  | with_reducible refine g_prop ?_
  | with_reducible refine g_fld ?_
  | with_reducible refine g_meth ?_
  | with_reducible refine g_chain ?_
  | with_reducible refine g_yes ?_
  | with_reducible refine g_make ?_
  | with_reducible refine g_makeK ?_
  | with_reducible refine g_gsub ?_
  | with_reducible refine g_sfld ?_
  | with_reducible refine g_un ?_
  | with_reducible refine g_bm ?_
  | with_reducible refine g_iteT ?_
  | with_reducible refine g_iteF ?_
  | with_reducible refine g_I0 ?_
  | with_reducible refine g_add ?_
  | with_reducible refine g_sub ?_
  | ((with_reducible refine' g_var ?hv ?_); (case hv => rfl))
  | ((with_reducible refine g_eq ?hv ?_); (case hv => rfl))
  | ((with_reducible refine g_ne ?hv ?_); (case hv => rfl)))
local macro_rules | `(tactic| walk_at "rd") => `(tactic| repeat (walk_at "rd1"))

local macro_rules | `(tactic| walk_at "ty") => `(tactic| first | exact .non | exact .bl _ | exact .int _ | exact .str _ | exact .lst (by assumption) | exact .tup (by assumption) | exact .dK (by assumption) | exact .kTup (by assumption) (by assumption))
local macro_rules | `(tactic| walk_at "isiF") => `(tactic| refine g_isi (by walk_at "ty") (b := false) (by decide +kernel) ?_)
local macro_rules | `(tactic| walk_at "isiT") => `(tactic| refine g_isi (by walk_at "ty") (b := true) (by decide +kernel) ?_)

/-! ### properties and methods -/
structure Prp (P : Program) (w : World) (K : PySem.W.Frag) (mg : Str → Option Value) (base : Heap) (k : Nat) (C : Addr) (f : Str) (sp : Sp) : Prop where
  ex : ∃ (p g : Addr) (fd : FuncData) (ps : List Str), Cls K C ∧ PropOf K C f p g ∧ FnOk P w K mg base CX0 k g fd ps sp ∧ Binds K fd ps []
theorem pe_pr {X : Cx} {k j : Nat} {C : Addr} {f : Str} {sp : Sp} {e : Expr} {ta : TE} {pos : Pos} (c : Prp X.prog X.w X.K X.mg X.base k C f sp) (hr : Room j X.A) (hk : k + 1 ≤ j) (he : PE X e ta)
    (hab : attributeBase e f X.env (eval e X.env) = eval e X.env := by rfl) : PE X (.Attribute e f pos) (tProp C sp [] E0 ta) := by
  obtain ⟨p, g, fd, ps, cl, po, G, b⟩ := c.ex
  exact pe_prop he cl po G (hr.mono hk) b .nil pass0 hab
structure Mth (P : Program) (w : World) (K : PySem.W.Frag) (mg : Str → Option Value) (base : Heap) (k : Nat) (C : Addr) (m : Str) (sp : Sp) : Prop where
  ex : ∃ (f : Addr) (fd : FuncData) (ps : List Str), Cls K C ∧ Meth K C m f ∧ FnOk P w K mg base CX0 k f fd ps sp ∧ Binds K fd ps []
theorem pe_m0 {X : Cx} {k j : Nat} {C : Addr} {m : Str} {sp : Sp} {o : Expr} {ta : TE} {pos apos : Pos} {pl : Sem Bool} (c : Mth X.prog X.w X.K X.mg X.base k C m sp) (hr : Room j X.A) (hk : k ≤ j) (he : PE X o ta)
    (ht : eval (.Call (.Attribute o m apos) [] [] pos) X.env = (do
      let u ← eval o X.env
      standAt apos.atName
      let (g, first) ← holding [u] (getMethod u m pl)
      callWith pos g first (backTo pos (starEach [] X.env)) (backToKw pos (keywordEach [] X.env))) := by rfl) : PE X (.Call (.Attribute o m apos) [] [] pos) (tMeth C m sp [] E0 ta tNil) := by
  obtain ⟨f, fd, ps, cl, me, G, b⟩ := c.ex
  exact pe_meth0 (pl := pl) he cl me G (hr.mono hk) b .nil pass0 ht
theorem lk1 {n l t p e y g : V} : (pfs n l t p e y g).lookup ("_name" : Str) = some n := rfl
theorem lk2 {n l t p e y g : V} : (pfs n l t p e y g).lookup ("_limit" : Str) = some l := rfl
theorem lk3 {n l t p e y g : V} : (pfs n l t p e y g).lookup ("_tries" : Str) = some t := rfl
theorem lk4 {n l t p e y g : V} : (pfs n l t p e y g).lookup ("_pauses" : Str) = some p := rfl
theorem lk5 {n l t p e y g : V} : (pfs n l t p e y g).lookup ("_early" : Str) = some e := rfl
theorem lk6 {n l t p e y g : V} : (pfs n l t p e y g).lookup ("_lossy" : Str) = some y := rfl
theorem lk7 {n l t p e y g : V} : (pfs n l t p e y g).lookup ("_ending" : Str) = some g := rfl
theorem lk0 {n l t p e y g : V} : (pfs n l t p e y g).lookup ("_fields" : Str) = none := rfl

theorem prp_of {C p g : Addr} {x fld qual : Str} {st : Stmt} {fd : FuncData} {p1 p2 p3 : Pos} (F : Fun K x qual st g fd) (po : PropOf K C x p g) (S : FnScope ["self"] ["self"] (defScope st))
    (hb : defBody st = [.Return (some (.Attribute (.Name "self" p1) fld p2)) p3]) (c : Cls K C) (n : NoAttr K C fld) (b : Binds K fd ["self"] []) : Prp P w K mg base 1 C x (getSp C fld) := by
  have F' := F
  obtain ⟨oc, od, kV, doc, pm, an, cdv, ct, osl, rfl, lk, hcd⟩ := F'.ex
  exact ⟨p, g, _, _, c, po, fn_getter lk hcd S rfl hb c n, b⟩

end
end K2

namespace K2
open PySem PySem.Spec PyProof.Rows L2 Mc
section
variable {P : Program} {w : World} {K : PySem.W.Frag} {mg : Str → Option Value} {base : Heap}
local macro_rules | `(tactic| walk_at "rd1") => `(tactic| first
  | with_reducible refine g_seq ?_
  | with_reducible refine g_asg ?_
  | with_reducible refine g_name ?_
  | with_reducible refine g_c ?_
  | with_reducible refine g_op ?_
  | with_reducible refine g_ifS ?_
  | with_reducible refine g_if ?_
  | with_reducible refine g_test ?_
  | with_reducible refine g_B ?_
  | with_reducible refine g_bl ?_
  | with_reducible refine g_blV ?_
  | with_reducible refine g_not ?_
  | with_reducible refine g_and ?_
  | with_reducible refine g_or ?_
  | with_reducible refine g_notV ?_
  | with_reducible refine g_andV ?_
  | with_reducible refine g_orV ?_
  | with_reducible refine g_ret ?_
  | with_reducible refine g_drop ?_
  | with_reducible refine g_next ?_
  | with_reducible refine g_retN ?_
  | with_reducible refine g_call ?_
  | with_reducible refine g_cb ?_
  | with_reducible refine g_cons ?_
  | with_reducible refine g_nil ?_
  | with_reducible refine g_tup ?_
  | with_reducible refine g_lst ?_
  | with_reducible refine g_prop ?_
  | with_reducible refine g_fld ?_
  | with_reducible refine g_meth ?_
  | with_reducible refine g_chain ?_
  | with_reducible refine g_yes ?_
  | with_reducible refine g_make ?_
  | with_reducible refine g_makeK ?_
  | with_reducible refine g_gsub ?_
  | with_reducible refine g_sfld ?_
  | with_reducible refine g_un ?_
  | with_reducible refine g_bm ?_
  | with_reducible refine g_iteT ?_
  | with_reducible refine g_iteF ?_
  | with_reducible refine g_I0 ?_
  | with_reducible refine g_add ?_
  | with_reducible refine g_sub ?_
  | ((with_reducible refine' g_var ?hv ?_); (case hv => rfl))
  | ((with_reducible refine g_eq ?hv ?_); (case hv => rfl))
  | ((with_reducible refine g_ne ?hv ?_); (case hv => rfl)))
local macro_rules | `(tactic| walk_at "rd") => `(tactic| repeat (walk_at "rd1"))

local macro_rules | `(tactic| walk_at "ty") => `(tactic| first | exact .non | exact .bl _ | exact .int _ | exact .str _ | exact .lst (by assumption) | exact .tup (by assumption) | exact .dK (by assumption) | exact .kTup (by assumption) (by assumption))
local macro_rules | `(tactic| walk_at "isiF") => `(tactic| refine g_isi (by walk_at "ty") (b := false) (by decide +kernel) ?_)
local macro_rules | `(tactic| walk_at "isiT") => `(tactic| refine g_isi (by walk_at "ty") (b := true) (by decide +kernel) ?_)

/-! ### parts: is_call, holds_blocks, is_part -/
/-- values and their kinds -/
def KL (K : PySem.W.Frag) (H : Hp) (l : List (V × String)) : Prop := ∀ p ∈ l, Mc.TyB K H p.1 p.2
theorem KL.ext {H H' : Hp} {l : List (V × String)} (e : Same H H') (h : KL K H l) : KL K H' l := fun p hp => TyB.ext e (h p hp)
def sMaybe : Str := "maybe"
def sBoth : Str := "both"
def sRun : Str := "run"
def sRisk : Str := "risk"
def sCall : Str := "call"
def sWant : Str := "want"
def holdsB : List (V × String) → Bool
  | (.str z, _) :: r => if z = sMaybe then (match r with | [x] => x.2 == "tuple" | _ => false) else decide (z = sBoth) && (match r with | [x, y] => x.2 == "tuple" && y.2 == "tuple" | _ => false)
  | _ => false
def spHolds (K : PySem.W.Frag) : Sp := fun vs H Q _ => ∃ v, vs = [v] ∧ ((∃ n, Mc.TyB K H v n ∧ n ≠ "tuple" ∧ Q (.bl false) H) ∨ (∃ a l, v = .ref a ∧ TupV K H a (l.map (·.1)) ∧ KL K H l ∧ Q (.bl (holdsB l)) H))
theorem str_ne {a b : Str} (h : decide (V.str a = V.str b) = false) : a ≠ b := fun e => by
  rw [e] at h
  exact absurd rfl (of_decide_eq_false h)
theorem str_eq {a b : Str} (h : decide (V.str a = V.str b) = true) : a = b := by injection (of_decide_eq_true h)
theorem not_str {H : Hp} {v : V} {n : String} (h : Mc.TyB K H v n) : (∃ z, v = .str z ∧ n = "str") ∨ ((n == "str") = false ∧ ∀ z, v ≠ .str z) := by
  cases h <;> first | exact .inl ⟨_, rfl, rfl⟩ | exact .inr ⟨by decide, fun z => by intro k; cases k⟩
theorem g_andC {c : Bool} {A B : Prop} (h : c = true) (q : A) : if c = true then A else B := by rw [if_pos h]; exact q
theorem g_andC0 {c : Bool} {A B : Prop} (h : c = false) (q : B) : if c = true then A else B := by rw [if_neg (by rw [h]; exact Bool.false_ne_true)]; exact q
theorem len_no {n : Nat} {k : Int} (h : (n : Int) ≠ k) : decide (V.int (n : Int) = V.int k) = false := decide_eq_false (by intro z; injection z with z; exact h z)
theorem len_yes {n : Nat} {k : Int} (h : (n : Int) = k) : decide (V.int (n : Int) = V.int k) = true := decide_eq_true (by rw [h])
theorem ok_holds_blocks (T : Txt K mg) (D : Def K mg "holds_blocks" s_holds_blocks ["value"]) : Cal P w K mg base 1 "holds_blocks" (spHolds K) := by
  refine cal_of D sc_holds_blocks (fun vs H Q E h => ?_) (fun f cdv A outer s H vs Q E hr h => ?_)
  · obtain ⟨v, rfl, _⟩ := h
    rfl
  · obtain ⟨v, rfl, h⟩ := h
    refine ⟨_, (pss_cons (ps_if (PW.pt (pw_or (pt_not (pt_val (pe_callB call_isi (by rfl) T.n_isinstance (by decide +kernel) (pa_cons (pv 0) (pa_cons (pe_ty "tuple" (by rfl) T.n_tuple (by decide +kernel)) pa_nil))))) (pw_or (pt_cmpR op_eq (pe_callB call_len_seq (by rfl) T.n_len (by decide +kernel) (pa_cons (pv 0) pa_nil)) pe_int (nomark _)) (pw_or1 (pt_not (pt_val (pe_callB call_isi (by rfl) T.n_isinstance (by decide +kernel) (pa_cons (pe_ix ix_tup (pv 0) pe_int (fun _ _ => rfl)) (pa_cons (pe_ty "str" (by rfl) T.n_str (by decide +kernel)) pa_nil))))))))) (pss_one (ps_ret pe_bl)) pss_nil)
      (pss_cons (ps_if (pt_cmpR op_eq (pe_ix ix_tup (pv 0) pe_int (fun _ _ => rfl)) pe_str (nomark _)) (pss_one (ps_ret (pe_and (pe_cmpR op_eq (pe_callB call_len_seq (by rfl) T.n_len (by decide +kernel) (pa_cons (pv 0) pa_nil)) pe_int (nomark _)) (pe_one (pe_callB call_isi (by rfl) T.n_isinstance (by decide +kernel) (pa_cons (pe_ix ix_tup (pv 0) pe_int (fun _ _ => rfl)) (pa_cons (pe_ty "tuple" (by rfl) T.n_tuple (by decide +kernel)) pa_nil))))))) pss_nil)
      (pss_one (ps_ret (pe_and (pe_cmpR op_eq (pe_ix ix_tup (pv 0) pe_int (fun _ _ => rfl)) pe_str (nomark _)) (pe_and (pe_cmpR op_eq (pe_callB call_len_seq (by rfl) T.n_len (by decide +kernel) (pa_cons (pv 0) pa_nil)) pe_int (nomark _)) (pe_and (pe_callB call_isi (by rfl) T.n_isinstance (by decide +kernel) (pa_cons (pe_ix ix_tup (pv 0) pe_int (fun _ _ => rfl)) (pa_cons (pe_ty "tuple" (by rfl) T.n_tuple (by decide +kernel)) pa_nil))) (pe_one (pe_callB call_isi (by rfl) T.n_isinstance (by decide +kernel) (pa_cons (pe_ix ix_tup (pv 0) pe_int (fun _ _ => rfl)) (pa_cons (pe_ty "tuple" (by rfl) T.n_tuple (by decide +kernel)) pa_nil))))))))))), ?_⟩
    walk_at "rd"
    rcases h with ⟨n, ty, hn, q⟩ | ⟨a, l, rfl, tv, kl, q⟩
    · refine g_isi ty (kb_tuple ty.mem) ?_
      have e : (n == "tuple") = false := by simpa using hn
      rw [e]
      walk_at "rd"
      exact q
    · refine g_isi tv.ty (b := true) (by decide +kernel) ?_
      walk_at "rd"
      show (if false = true then _ else _)
      walk_at "rd"
      refine ⟨a, _, rfl, .inr tv.sq, ?_⟩
      walk_at "rd"
      match l, tv, kl, q with
      | [], tv, kl, q =>
        show (if true = true then _ else _)
        walk_at "rd"
        exact q
      | (x, n) :: r, tv, kl, q =>
        have e1 : decide (V.int ((((x, n) :: r).map (·.1)).length : Int) = V.int 0) = false := decide_eq_false (by intro z; injection z with z; simp at z; omega)
        rw [e1]
        walk_at "rd"
        refine g_ixT tv.sq (v := x) (atI_nat (j := 0) rfl) ?_
        walk_at "rd"
        have tx : Mc.TyB K H x n := kl _ (List.mem_cons_self ..)
        refine g_isi tx (kb_str tx.mem) ?_
        walk_at "rd"
        rcases not_str tx with ⟨z, rfl, rfl⟩ | ⟨ns, nz⟩
        · show (if false = true then _ else _)
          walk_at "rd"
          refine g_ixT tv.sq (v := .str z) (atI_nat (j := 0) rfl) ?_
          walk_at "rd"
          refine g_ite (fun e => ?_) (fun e => ?_)
          · have ez : z = sMaybe := str_eq e
            have eq : holdsB ((.str z, "str") :: r) = (match r with | [x] => x.2 == "tuple" | _ => false) := by
              show (if z = sMaybe then _ else _) = _
              rw [if_pos ez]
            rw [eq] at q
            walk_at "rd"
            refine ⟨a, _, rfl, .inr tv.sq, ?_⟩
            walk_at "rd"
            match r, tv, kl, q with
            | [], tv, kl, q =>
              show (if false = true then _ else _)
              walk_at "rd"
              exact q
            | [(y, m)], tv, kl, q =>
              show (if true = true then _ else _)
              walk_at "rd"
              refine g_ixT tv.sq (v := y) (atI_nat (j := 1) rfl) ?_
              walk_at "rd"
              have ty : Mc.TyB K H y m := kl (y, m) (by simp)
              refine g_isi ty (kb_tuple ty.mem) ?_
              exact q
            | p1 :: p2 :: r', tv, kl, q =>
              refine g_andC0 (len_no (by simp; try omega)) ?_
              walk_at "rd"
              exact q
          · have ez : z ≠ sMaybe := str_ne e
            have eq : holdsB ((.str z, "str") :: r) = (decide (z = sBoth) && (match r with | [x, y] => x.2 == "tuple" && y.2 == "tuple" | _ => false)) := by
              show (if z = sMaybe then _ else _) = _
              rw [if_neg ez]
            rw [eq] at q
            walk_at "rd"
            refine g_ixT tv.sq (v := .str z) (atI_nat (j := 0) rfl) ?_
            walk_at "rd"
            by_cases eb : z = sBoth
            · have d1 : decide (V.str z = V.str sBoth) = true := decide_eq_true (by rw [eb])
              have d2 : decide (z = sBoth) = true := decide_eq_true eb
              rw [d2, Bool.true_and] at q
              refine g_andC d1 ?_
              walk_at "rd"
              refine ⟨a, _, rfl, .inr tv.sq, ?_⟩
              walk_at "rd"
              match r, tv, kl, q with
              | [], tv, kl, q =>
                refine g_andC0 (len_no (by simp; try omega)) ?_
                walk_at "rd"
                exact q
              | [p1], tv, kl, q =>
                refine g_andC0 (len_no (by simp; try omega)) ?_
                walk_at "rd"
                exact q
              | [(y, m), (y', m')], tv, kl, q =>
                refine g_andC (len_yes (by simp)) ?_
                walk_at "rd"
                refine g_ixT tv.sq (v := y) (atI_nat (j := 1) rfl) ?_
                walk_at "rd"
                have ty : Mc.TyB K H y m := kl (y, m) (by simp)
                have ty' : Mc.TyB K H y' m' := kl (y', m') (by simp)
                refine g_isi ty (kb_tuple ty.mem) ?_
                walk_at "rd"
                have q : Q (.bl (m == "tuple" && m' == "tuple")) H := q
                cases em : (m == "tuple")
                · rw [em] at q
                  walk_at "rd"
                  exact q
                · rw [em] at q
                  walk_at "rd"
                  refine g_ixT tv.sq (v := y') (atI_nat (j := 2) rfl) ?_
                  walk_at "rd"
                  refine g_isi ty' (kb_tuple ty'.mem) ?_
                  exact q
              | p1 :: p2 :: p3 :: r', tv, kl, q =>
                refine g_andC0 (len_no (by simp; try omega)) ?_
                walk_at "rd"
                exact q
            · have d1 : decide (V.str z = V.str sBoth) = false := decide_eq_false (fun k => eb (V.str.inj k))
              have d2 : decide (z = sBoth) = false := decide_eq_false eb
              rw [d2, Bool.false_and] at q
              refine g_andC0 d1 ?_
              exact q
        · rw [ns]
          walk_at "rd"
          have eq : holdsB ((x, n) :: r) = false := by
            cases x <;> first | rfl | exact absurd rfl (nz _)
          rw [eq] at q
          exact q
end
end K2

namespace K2
open PySem PySem.Spec PyProof.Rows L2 Mc
section
variable {P : Program} {w : World} {K : PySem.W.Frag} {mg : Str → Option Value} {base : Heap}
local macro_rules | `(tactic| walk_at "rd1") => `(tactic| first
  | with_reducible refine g_seq ?_
  | with_reducible refine g_asg ?_
  | with_reducible refine g_name ?_
  | with_reducible refine g_c ?_
  | with_reducible refine g_op ?_
  | with_reducible refine g_ifS ?_
  | with_reducible refine g_if ?_
  | with_reducible refine g_test ?_
  | with_reducible refine g_B ?_
  | with_reducible refine g_bl ?_
  | with_reducible refine g_blV ?_
  | with_reducible refine g_not ?_
  | with_reducible refine g_and ?_
  | with_reducible refine g_or ?_
  | with_reducible refine g_notV ?_
  | with_reducible refine g_andV ?_
  | with_reducible refine g_orV ?_
  | with_reducible refine g_ret ?_
  | with_reducible refine g_drop ?_
  | with_reducible refine g_next ?_
  | with_reducible refine g_retN ?_
  | with_reducible refine g_call ?_
  | with_reducible refine g_cb ?_
  | with_reducible refine g_cons ?_
  | with_reducible refine g_nil ?_
  | with_reducible refine g_tup ?_
  | with_reducible refine g_lst ?_
  | with_reducible refine g_prop ?_
  | with_reducible refine g_fld ?_
  | with_reducible refine g_meth ?_
  | with_reducible refine g_chain ?_
  | with_reducible refine g_yes ?_
  | with_reducible refine g_make ?_
  | with_reducible refine g_makeK ?_
  | with_reducible refine g_gsub ?_
  | with_reducible refine g_sfld ?_
  | with_reducible refine g_un ?_
  | with_reducible refine g_bm ?_
  | with_reducible refine g_iteT ?_
  | with_reducible refine g_iteF ?_
  | with_reducible refine g_I0 ?_
  | with_reducible refine g_add ?_
  | with_reducible refine g_sub ?_
  | ((with_reducible refine' g_var ?hv ?_); (case hv => rfl))
  | ((with_reducible refine g_eq ?hv ?_); (case hv => rfl))
  | ((with_reducible refine g_ne ?hv ?_); (case hv => rfl)))
local macro_rules | `(tactic| walk_at "rd") => `(tactic| repeat (walk_at "rd1"))

local macro_rules | `(tactic| walk_at "ty") => `(tactic| first | exact .non | exact .bl _ | exact .int _ | exact .str _ | exact .lst (by assumption) | exact .tup (by assumption) | exact .dK (by assumption) | exact .kTup (by assumption) (by assumption))
local macro_rules | `(tactic| walk_at "isiF") => `(tactic| refine g_isi (by walk_at "ty") (b := false) (by decide +kernel) ?_)
local macro_rules | `(tactic| walk_at "isiT") => `(tactic| refine g_isi (by walk_at "ty") (b := true) (by decide +kernel) ?_)

def callW (z : Str) : Bool := inV (.str z) [.str sCall, .str sWant]
def spIsCall (K : PySem.W.Frag) : Sp := fun vs H Q _ => ∃ a z xs, vs = [.ref a] ∧ TupV K H a (.str z :: xs) ∧ ∀ H', Same H H' → Q (.bl (callW z)) H'
theorem tupG_same {H : Hp} {xs : List V} {Q : VK} (hl : xs.length ≤ 1000) (k : ∀ a H', H a = none → Same H H' → H' a = some (.tup xs) → Q (.ref a) H') : TupG Q xs H :=
  ⟨sz_le hl, fun p hp => k p _ hp (same_new hp) upd_same⟩
theorem ok_is_call (T : Txt K mg) (D : Def K mg "is_call" s_is_call ["part"]) : Cal P w K mg base 1 "is_call" (spIsCall K) := by
  refine cal_of D sc_is_call (fun vs H Q E h => ?_) (fun f cdv A outer s H vs Q E hr h => ?_)
  · obtain ⟨a, z, xs, rfl, _⟩ := h
    rfl
  · obtain ⟨a, z, xs, rfl, tv, q⟩ := h
    refine ⟨_, (pss_one (ps_ret (pe_cmpR op_in_seq (pe_ix ix_tup (pv 0) pe_int (fun _ _ => rfl)) (pe_tup (pa_cons pe_str (pa_cons pe_str pa_nil))) (by rfl)))), ?_⟩
    walk_at "rd"
    refine g_ixT tv.sq (v := .str z) (atI_nat (j := 0) rfl) ?_
    walk_at "rd"
    refine tupG_same (by decide) fun p H1 _ S1 hp => ?_
    exact ⟨p, _, rfl, .inr (SqT.of hp), rfl, rfl, q _ S1⟩
def runB : List (V × String) → Bool
  | [(.int i, _), (y, _)] => btw (.int i) 0 20 && btw y i 20
  | _ => false
def twoN : List (V × String) → Bool
  | [x, y] => nmV x.1 && nmV y.1
  | _ => false
def partB : List (V × String) → Bool
  | (.str z, k) :: r => if z = sRun then runB r else if z = sRisk then r.isEmpty else if callW z = true then twoN r else holdsB ((.str z, k) :: r)
  | _ => false
def Short (l : List (V × String)) : Prop := ∀ p ∈ l, ∀ z, p.1 = .str z → z.length ≤ 1000
def spPart (K : PySem.W.Frag) : Sp := fun vs H Q _ => ∃ v, vs = [v] ∧ ((∃ n, Mc.TyB K H v n ∧ n ≠ "tuple" ∧ Q (.bl false) H) ∨ (∃ a l, v = .ref a ∧ TupV K H a (l.map (·.1)) ∧ KL K H l ∧ Short l ∧ ∀ H', Same H H' → Q (.bl (partB l)) H'))
theorem runB_not {x y : V} {n m : String} (h : isI x = false) : runB [(x, n), (y, m)] = false := by
  cases x <;> first | rfl | exact Bool.noConfusion h
theorem runB_btw {x y : V} {n m : String} (h : btw x 0 20 = false) : runB [(x, n), (y, m)] = false := by
  cases x with
  | int i => show (btw (.int i) 0 20 && _) = false; rw [h]; rfl
  | _ => rfl
theorem ok_is_part (T : Txt K mg) (D : Def K mg "is_part" s_is_part ["value"]) (c_is_between : Cal P w K mg base 2 "is_between" (spBtw K)) (c_is_name : Cal P w K mg base 1 "is_name" (spName K))
    (c_is_call : Cal P w K mg base 1 "is_call" (spIsCall K)) (c_holds_blocks : Cal P w K mg base 1 "holds_blocks" (spHolds K)) : Cal P w K mg base 3 "is_part" (spPart K) := by
  refine cal_of D sc_is_part (fun vs H Q E h => ?_) (fun f cdv A outer s H vs Q E hr h => ?_)
  · obtain ⟨v, rfl, _⟩ := h
    rfl
  · obtain ⟨v, rfl, h⟩ := h
    refine ⟨_, (pss_cons (ps_if (PW.pt (pw_or (pt_not (pt_val (pe_callB call_isi (by rfl) T.n_isinstance (by decide +kernel) (pa_cons (pv 0) (pa_cons (pe_ty "tuple" (by rfl) T.n_tuple (by decide +kernel)) pa_nil))))) (pw_or (pt_cmpR op_eq (pe_callB call_len_seq (by rfl) T.n_len (by decide +kernel) (pa_cons (pv 0) pa_nil)) pe_int (nomark _)) (pw_or1 (pt_not (pt_val (pe_callB call_isi (by rfl) T.n_isinstance (by decide +kernel) (pa_cons (pe_ix ix_tup (pv 0) pe_int (fun _ _ => rfl)) (pa_cons (pe_ty "str" (by rfl) T.n_str (by decide +kernel)) pa_nil))))))))) (pss_one (ps_ret pe_bl)) pss_nil)
      (pss_cons (ps_if (pt_cmpR op_eq (pe_ix ix_tup (pv 0) pe_int (fun _ _ => rfl)) pe_str (nomark _)) (pss_one (ps_ret (pe_and (pe_cmpR op_eq (pe_callB call_len_seq (by rfl) T.n_len (by decide +kernel) (pa_cons (pv 0) pa_nil)) pe_int (nomark _)) (pe_and (pe_f c_is_between hr (by decide) (by rfl) (pa_cons (pe_ix ix_tup (pv 0) pe_int (fun _ _ => rfl)) (pa_cons pe_int (pa_cons (pe_gx rfl T.g_MOST_TICKS) pa_nil)))) (pe_one (pe_f c_is_between hr (by decide) (by rfl) (pa_cons (pe_ix ix_tup (pv 0) pe_int (fun _ _ => rfl)) (pa_cons (pe_ix ix_tup (pv 0) pe_int (fun _ _ => rfl)) (pa_cons (pe_gx rfl T.g_MOST_TICKS) pa_nil))))))))) pss_nil)
      (pss_cons (ps_if (pt_cmpR op_eq (pe_ix ix_tup (pv 0) pe_int (fun _ _ => rfl)) pe_str (nomark _)) (pss_one (ps_ret (pe_cmpR op_eq (pe_callB call_len_seq (by rfl) T.n_len (by decide +kernel) (pa_cons (pv 0) pa_nil)) pe_int (nomark _)))) pss_nil)
      (pss_cons (ps_if (pt_val (pe_f c_is_call hr (by decide) (by rfl) (pa_cons (pv 0) pa_nil))) (pss_one (ps_ret (pe_and (pe_cmpR op_eq (pe_callB call_len_seq (by rfl) T.n_len (by decide +kernel) (pa_cons (pv 0) pa_nil)) pe_int (nomark _)) (pe_and (pe_f c_is_name hr (by decide) (by rfl) (pa_cons (pe_ix ix_tup (pv 0) pe_int (fun _ _ => rfl)) pa_nil)) (pe_one (pe_f c_is_name hr (by decide) (by rfl) (pa_cons (pe_ix ix_tup (pv 0) pe_int (fun _ _ => rfl)) pa_nil))))))) pss_nil)
      (pss_one (ps_ret (pe_f c_holds_blocks hr (by decide) (by rfl) (pa_cons (pv 0) pa_nil)))))))), ?_⟩
    walk_at "rd"
    rcases h with ⟨n, ty, hn, q⟩ | ⟨a, l, rfl, tv, kl, sh, q⟩
    · refine g_isi ty (kb_tuple ty.mem) ?_
      have e : (n == "tuple") = false := by simpa using hn
      rw [e]
      walk_at "rd"
      exact q
    · have q0 := q H (Same.refl H)
      refine g_isi tv.ty (b := true) (by decide +kernel) ?_
      walk_at "rd"
      show (if false = true then _ else _)
      walk_at "rd"
      refine ⟨a, _, rfl, .inr tv.sq, ?_⟩
      walk_at "rd"
      match l, tv, kl, sh, q, q0 with
      | [], tv, kl, sh, q, q0 =>
        show (if true = true then _ else _)
        walk_at "rd"
        exact q0
      | (x, n) :: r, tv, kl, sh, q, q0 =>
        refine g_andC0 (len_no (by simp; try omega)) ?_
        walk_at "rd"
        refine g_ixT tv.sq (v := x) (atI_nat (j := 0) rfl) ?_
        walk_at "rd"
        have tx : Mc.TyB K H x n := kl _ (List.mem_cons_self ..)
        refine g_isi tx (kb_str tx.mem) ?_
        walk_at "rd"
        rcases not_str tx with ⟨z, rfl, rfl⟩ | ⟨ns, nz⟩
        · show (if false = true then _ else _)
          walk_at "rd"
          refine g_ixT tv.sq (v := .str z) (atI_nat (j := 0) rfl) ?_
          walk_at "rd"
          by_cases e1 : z = sRun
          · have pb : partB ((.str z, "str") :: r) = runB r := if_pos e1
            rw [pb] at q q0
            refine g_andC (decide_eq_true (congrArg V.str e1)) ?_
            walk_at "rd"
            refine ⟨a, _, rfl, .inr tv.sq, ?_⟩
            walk_at "rd"
            match r, tv, kl, sh, q, q0 with
            | [], tv, kl, sh, q, q0 =>
              refine g_andC0 (len_no (by simp; try omega)) ?_
              exact q0
            | [p1], tv, kl, sh, q, q0 =>
              refine g_andC0 (len_no (by simp; try omega)) ?_
              have : runB [p1] = false := by obtain ⟨y, m⟩ := p1; cases y <;> rfl
              rw [this] at q0
              exact q0
            | [(x1, n1), (x2, n2)], tv, kl, sh, q, q0 =>
              refine g_andC (len_yes (by simp)) ?_
              walk_at "rd"
              refine g_ixT tv.sq (v := x1) (atI_nat (j := 1) rfl) ?_
              walk_at "rd"
              have t1 : Mc.TyB K H x1 n1 := kl (x1, n1) (by simp)
              have t2 : Mc.TyB K H x2 n2 := kl (x2, n2) (by simp)
              refine ⟨x1, n1, 0, 20, rfl, t1, ?_⟩
              walk_at "rd"
              cases eb : btw x1 0 20
              · rw [runB_btw eb] at q0
                walk_at "rd"
                exact q0
              · obtain ⟨i, rfl⟩ := btw_int eb
                walk_at "rd"
                refine g_ixT tv.sq (v := x2) (atI_nat (j := 2) rfl) ?_
                walk_at "rd"
                refine g_ixT tv.sq (v := .int i) (atI_nat (j := 1) rfl) ?_
                walk_at "rd"
                refine ⟨x2, n2, i, 20, rfl, t2, ?_⟩
                have : runB [(.int i, n1), (x2, n2)] = btw x2 i 20 := by
                  show (btw (.int i) 0 20 && btw x2 i 20) = _
                  rw [eb]; rfl
                rw [this] at q0
                exact q0
            | p1 :: p2 :: p3 :: r', tv, kl, sh, q, q0 =>
              refine g_andC0 (len_no (by simp; try omega)) ?_
              have : runB (p1 :: p2 :: p3 :: r') = false := by obtain ⟨y, m⟩ := p1; cases y <;> rfl
              rw [this] at q0
              exact q0
          refine g_andC0 (decide_eq_false (fun k => e1 (V.str.inj k))) ?_
          walk_at "rd"
          refine g_ixT tv.sq (v := .str z) (atI_nat (j := 0) rfl) ?_
          walk_at "rd"
          by_cases e2 : z = sRisk
          · have pb : partB ((.str z, "str") :: r) = r.isEmpty := by
              show (if z = sRun then _ else _) = _
              rw [if_neg e1, if_pos e2]
            rw [pb] at q q0
            refine g_andC (decide_eq_true (congrArg V.str e2)) ?_
            walk_at "rd"
            refine ⟨a, _, rfl, .inr tv.sq, ?_⟩
            walk_at "rd"
            cases r with
            | nil => exact q0
            | cons p r =>
              rw [show decide (V.int ((((V.str z, "str") :: p :: r).map (·.1)).length : Int) = V.int 1) = false from len_no (by simp; try omega)]
              exact q0
          refine g_andC0 (decide_eq_false (fun k => e2 (V.str.inj k))) ?_
          walk_at "rd"
          refine ⟨a, z, _, rfl, tv, fun H1 S1 => ?_⟩
          walk_at "rd"
          have tv := TupV.ext S1 tv
          have kl := KL.ext S1 kl
          cases ec : callW z
          · have pb : partB ((.str z, "str") :: r) = holdsB ((.str z, "str") :: r) := by
              show (if z = sRun then _ else if z = sRisk then _ else if callW z = true then _ else _) = _
              rw [if_neg e1, if_neg e2, ec]
              exact if_neg Bool.false_ne_true
            rw [pb] at q
            walk_at "rd"
            exact ⟨.ref a, rfl, .inr ⟨a, (.str z, "str") :: r, rfl, tv, kl, q _ S1⟩⟩
          · walk_at "rd"
            refine ⟨a, _, rfl, .inr tv.sq, ?_⟩
            walk_at "rd"
            have pb : partB ((.str z, "str") :: r) = twoN r := by
              show (if z = sRun then _ else if z = sRisk then _ else if callW z = true then _ else _) = _
              rw [if_neg e1, if_neg e2, if_pos ec]
            rw [pb] at q
            match r, tv, kl, sh, q with
            | [], tv, kl, sh, q =>
              refine g_andC0 (len_no (by simp; try omega)) ?_
              exact q _ S1
            | [p1], tv, kl, sh, q =>
              refine g_andC0 (len_no (by simp; try omega)) ?_
              exact q _ S1
            | [(x1, n1), (x2, n2)], tv, kl, sh, q =>
              refine g_andC (len_yes (by simp)) ?_
              have q : ∀ H', Same H H' → Q (.bl (nmV x1 && nmV x2)) H' := q
              walk_at "rd"
              refine g_ixT tv.sq (v := x1) (atI_nat (j := 1) rfl) ?_
              walk_at "rd"
              have t1 : Mc.TyB K H1 x1 n1 := kl (x1, n1) (by simp)
              have t2 : Mc.TyB K H1 x2 n2 := kl (x2, n2) (by simp)
              refine ⟨x1, n1, rfl, t1, fun z e => sh (x1, n1) (by simp) z e, fun H2 S2 => ?_⟩
              walk_at "rd"
              cases eb : nmV x1
              · rw [eb] at q
                walk_at "rd"
                exact q _ (Same.trans S1 S2)
              · rw [eb] at q
                walk_at "rd"
                refine g_ixT (TupV.ext S2 tv).sq (v := x2) (atI_nat (j := 2) rfl) ?_
                walk_at "rd"
                exact ⟨x2, n2, rfl, TyB.ext S2 t2, fun z e => sh (x2, n2) (by simp) z e, fun H3 S3 => q _ (Same.trans S1 (Same.trans S2 S3))⟩
            | p1 :: p2 :: p3 :: r', tv, kl, sh, q =>
              refine g_andC0 (len_no (by simp; try omega)) ?_
              exact q _ S1
        · rw [ns]
          walk_at "rd"
          have eq : partB ((x, n) :: r) = false := by
            cases x <;> first | rfl | exact absurd rfl (nz _)
          rw [eq] at q0
          exact q0
end
end K2

namespace K2
open PySem PySem.Spec PyProof.Rows L2 Mc
section
variable {K : PySem.W.Frag}
/-! ### blocks as data -/
inductive Pt where
  | run (a b : Int)
  | risk
  | call (w : Bool) (z p : Str)
def Pt.ok : Pt → Prop
  | .run a b => 0 ≤ a ∧ a ≤ b ∧ b ≤ 20
  | .risk => True
  | .call _ z p => isNm z = true ∧ isNm p = true
inductive Tr where
  | leaf (l : Pt)
  | odd
  | may (b : List Tr)
  | both (b c : List Tr)
/-- lists may change their items; all else stays -/
def Kp (H H' : Hp) : Prop := ∀ b o, H b = some o → H' b = some o ∨ (∃ xs ys, o = .lst xs ∧ H' b = some (.lst ys)) ∨ ∃ ps, o = .tbl ps
theorem Kp.of {H H' : Hp} (e : Same H H') : Kp H H' := fun b o h => .inl (e b o h)
theorem Kp.refl (H : Hp) : Kp H H := Kp.of (Same.refl H)
theorem Kp.trans {H H1 H2 : Hp} (e : Kp H H1) (f : Kp H1 H2) : Kp H H2 := fun b o h => by
  rcases e b o h with h1 | ⟨xs, ys, rfl, h1⟩ | ⟨ps, rfl⟩
  · exact f b o h1
  · rcases f b _ h1 with h2 | ⟨xs', ys', _, h2⟩ | ⟨ps, z⟩
    · exact .inr (.inl ⟨xs, ys, rfl, h2⟩)
    · exact .inr (.inl ⟨xs, ys', rfl, h2⟩)
    · cases z
  · exact .inr (.inr ⟨ps, rfl⟩)
theorem Kp.upd {H : Hp} {a : Addr} {xs ys : List V} (h : H a = some (.lst xs)) : Kp H (upd H a (.lst ys)) := fun b o e => by
  by_cases hb : b = a
  · subst hb
    rw [h] at e
    cases e
    exact .inr (.inl ⟨xs, ys, rfl, upd_same⟩)
  · exact .inl (by rw [upd_ne hb]; exact e)
theorem Kp.get {H H' : Hp} {b : Addr} {o : HO} (e : Kp H H') (h : H b = some o) (n : ∀ xs, o ≠ .lst xs) (m : ∀ ps, o ≠ .tbl ps := by intro _ z; cases z) : H' b = some o := by
  rcases e b o h with q | ⟨xs, _, q, _⟩ | ⟨ps, q⟩
  · exact q
  · exact absurd q (n xs)
  · exact absurd q (m ps)
theorem TyB.kp {H H' : Hp} {v : V} {n : String} (e : Kp H H') (h : Mc.TyB K H v n) : Mc.TyB K H' v n := by
  cases h with
  | non => exact .non
  | bl b => exact .bl b
  | int i => exact .int i
  | str z => exact .str z
  | lst z =>
    rcases e _ _ z with q | ⟨_, ys, _, q⟩ | ⟨_, q⟩
    · exact .lst q
    · exact .lst q
    · cases q
  | tup z => exact .tup (e.get z (fun _ k => by cases k))
  | dK z => exact .dK (e.get z (fun _ k => by cases k))
  | kTup z c => exact .kTup z c
theorem TupV.kp {H H' : Hp} {a : Addr} {xs : List V} (e : Kp H H') (h : TupV K H a xs) : TupV K H' a xs := by
  refine ⟨TyB.kp e h.ty, ?_⟩
  rcases h.sq with (h | ⟨o, h⟩) | h
  · exact .inl (.inl (e.get h (fun _ k => by cases k)))
  · exact .inl (.inr ⟨o, e.get h (fun _ k => by cases k)⟩)
  · exact .inr h
theorem KL.kp {H H' : Hp} {l : List (V × String)} (e : Kp H H') (h : KL K H l) : KL K H' l := fun p hp => TyB.kp e (h p hp)
/-- a value that is no part -/
def OddV (K : PySem.W.Frag) (H : Hp) (v : V) : Prop := (∃ n, Mc.TyB K H v n ∧ n ≠ "tuple") ∨ (∃ a l, v = .ref a ∧ TupV K H a (l.map (·.1)) ∧ KL K H l ∧ Short l ∧ partB l = false ∧ holdsB l = false)
theorem OddV.kp {H H' : Hp} {v : V} (e : Kp H H') (h : OddV K H v) : OddV K H' v := by
  rcases h with ⟨n, t, q⟩ | ⟨a, l, ev, tv, kl, sh, p, q⟩
  · exact .inl ⟨n, TyB.kp e t, q⟩
  · exact .inr ⟨a, l, ev, tv.kp e, kl.kp e, sh, p, q⟩
def wordC (w : Bool) : Str := if w = true then sWant else sCall
def leafL : Pt → List (V × String)
  | .run a b => [(.str sRun, "str"), (.int a, "int"), (.int b, "int")]
  | .risk => [(.str sRisk, "str")]
  | .call w z p => [(.str (wordC w), "str"), (.str z, "str"), (.str p, "str")]
mutual
def RepT (K : PySem.W.Frag) (H : Hp) : Tr → V → Prop
  | .leaf i, v => i.ok ∧ ∃ a, v = .ref a ∧ TupV K H a ((leafL i).map (·.1))
  | .odd, v => OddV K H v
  | .may b, v => ∃ a c xs, v = .ref a ∧ TupV K H a [.str sMaybe, .ref c] ∧ TupV K H c xs ∧ RepB K H b xs
  | .both b c, v => ∃ a p q xs ys, v = .ref a ∧ TupV K H a [.str sBoth, .ref p, .ref q] ∧ TupV K H p xs ∧ RepB K H b xs ∧ TupV K H q ys ∧ RepB K H c ys
def RepB (K : PySem.W.Frag) (H : Hp) : List Tr → List V → Prop
  | [], xs => xs = []
  | t :: b, xs => ∃ v ys, xs = v :: ys ∧ RepT K H t v ∧ RepB K H b ys
end
mutual
theorem RepT.kp {H H' : Hp} (e : Kp H H') : ∀ (t : Tr) (v : V), RepT K H t v → RepT K H' t v
  | .leaf i, v, h => by
    unfold RepT at h ⊢
    obtain ⟨ok, a, ev, tv⟩ := h
    exact ⟨ok, a, ev, tv.kp e⟩
  | .odd, v, h => by
    unfold RepT at h ⊢
    exact OddV.kp e h
  | .may b, v, h => by
    unfold RepT at h ⊢
    obtain ⟨a, c, xs, ev, tv, tc, rb⟩ := h
    exact ⟨a, c, xs, ev, tv.kp e, tc.kp e, RepB.kp e b xs rb⟩
  | .both b c, v, h => by
    unfold RepT at h ⊢
    obtain ⟨a, p, q, xs, ys, ev, tv, tp, rb, tq, rc⟩ := h
    exact ⟨a, p, q, xs, ys, ev, tv.kp e, tp.kp e, RepB.kp e b xs rb, tq.kp e, RepB.kp e c ys rc⟩
theorem RepB.kp {H H' : Hp} (e : Kp H H') : ∀ (b : List Tr) (xs : List V), RepB K H b xs → RepB K H' b xs
  | [], xs, h => by
    unfold RepB at h ⊢
    exact h
  | t :: b, xs, h => by
    unfold RepB at h ⊢
    obtain ⟨v, ys, ex, rt, rb⟩ := h
    exact ⟨v, ys, ex, RepT.kp e t v rt, RepB.kp e b ys rb⟩
end
theorem RepB.len {H : Hp} : ∀ {b : List Tr} {xs : List V}, RepB K H b xs → b.length = xs.length
  | [], xs, h => by
    unfold RepB at h
    rw [h]
    rfl
  | t :: b, xs, h => by
    unfold RepB at h
    obtain ⟨v, ys, rfl, _, rb⟩ := h
    exact congrArg (· + 1) (RepB.len rb)
theorem RepB.get {H : Hp} : ∀ {b : List Tr} {xs : List V} {i : Nat} {v : V}, RepB K H b xs → xs[i]? = some v → ∃ t, b[i]? = some t ∧ RepT K H t v
  | [], xs, i, v, h, e => by
    unfold RepB at h
    subst h
    cases e
  | t :: b, xs, i, v, h, e => by
    unfold RepB at h
    obtain ⟨u, ys, rfl, rt, rb⟩ := h
    cases i with
    | zero => cases e; exact ⟨t, rfl, rt⟩
    | succ i => exact RepB.get (b := b) (i := i) rb e
theorem RepB.app {H : Hp} : ∀ {b c : List Tr} {xs ys : List V}, RepB K H b xs → RepB K H c ys → RepB K H (b ++ c) (xs ++ ys)
  | [], c, xs, ys, h, h' => by
    unfold RepB at h
    subst h
    exact h'
  | t :: b, c, xs, ys, h, h' => by
    unfold RepB at h
    obtain ⟨v, zs, rfl, rt, rb⟩ := h
    show RepB K H (t :: (b ++ c)) (v :: (zs ++ ys))
    unfold RepB
    exact ⟨v, _, rfl, rt, RepB.app rb h'⟩
theorem RepB.one {H : Hp} {t : Tr} {v : V} (h : RepT K H t v) : RepB K H [t] [v] := by
  unfold RepB
  exact ⟨v, [], rfl, h, by unfold RepB; rfl⟩
def isPartT : Tr → Bool
  | .odd => false
  | _ => true
def holdsT : Tr → Bool
  | .may _ => true
  | .both _ _ => true
  | _ => false
def blocks : Tr → List (List Tr)
  | .may b => [b]
  | .both b c => [b, c]
  | _ => []
theorem nm_short {z : Str} (h : isNm z = true) : z.length ≤ 1000 := by
  unfold isNm at h
  rw [Bool.and_eq_true, Bool.and_eq_true, decide_eq_true_eq, decide_eq_true_eq] at h
  omega
theorem leaf_part (i : Pt) (ok : i.ok) : partB (leafL i) = true ∧ holdsB (leafL i) = false ∧ Short (leafL i) ∧ ∀ p ∈ leafL i, ∃ n, p.2 = n ∧ ((∃ z, p.1 = .str z ∧ n = "str") ∨ (∃ j, p.1 = .int j ∧ n = "int")) := by
  cases i with
  | run a b =>
    obtain ⟨h1, h2, h3⟩ := ok
    refine ⟨?_, by show holdsB [(.str sRun, "str"), (.int a, "int"), (.int b, "int")] = false; rfl, fun p hp z e => ?_, fun p hp => ?_⟩
    · show (decide (0 ≤ a) && decide (a ≤ 20) && (decide (a ≤ b) && decide (b ≤ 20))) = true
      simp only [Bool.and_eq_true, decide_eq_true_eq]
      omega
    · simp only [leafL, List.mem_cons, List.not_mem_nil, or_false] at hp
      rcases hp with rfl | rfl | rfl <;> cases e
      decide
    · simp only [leafL, List.mem_cons, List.not_mem_nil, or_false] at hp
      rcases hp with rfl | rfl | rfl <;> simp
  | risk => exact ⟨by decide +kernel, by decide +kernel, fun p hp z e => by simp only [leafL, List.mem_cons, List.not_mem_nil, or_false] at hp; rcases hp with rfl <;> cases e <;> decide, fun p hp => by simp only [leafL, List.mem_cons, List.not_mem_nil, or_false] at hp; rcases hp with rfl <;> simp⟩
  | call w z p =>
    obtain ⟨h1, h2⟩ := ok
    refine ⟨?_, by cases w <;> rfl, fun q hq y e => ?_, fun q hq => ?_⟩
    · have e : partB (leafL (.call w z p)) = (isNm z && isNm p) := by cases w <;> rfl
      rw [e, h1, h2]
      rfl
    · simp only [leafL, List.mem_cons, List.not_mem_nil, or_false] at hq
      rcases hq with rfl | rfl | rfl <;> cases e
      · cases w <;> decide
      · exact nm_short h1
      · exact nm_short h2
    · simp only [leafL, List.mem_cons, List.not_mem_nil, or_false] at hq
      rcases hq with rfl | rfl | rfl <;> simp
/-- what the readers of parts see of one -/
theorem RepT.desc {H : Hp} {t : Tr} {v : V} (h : RepT K H t v) : (∃ n, Mc.TyB K H v n ∧ n ≠ "tuple" ∧ isPartT t = false ∧ holdsT t = false) ∨
    (∃ a l, v = .ref a ∧ TupV K H a (l.map (·.1)) ∧ KL K H l ∧ Short l ∧ partB l = isPartT t ∧ holdsB l = holdsT t) := by
  cases t with
  | leaf i =>
    unfold RepT at h
    obtain ⟨ok, a, ev, tv⟩ := h
    obtain ⟨h1, h2, h3, h4⟩ := leaf_part i ok
    refine .inr ⟨a, leafL i, ev, tv, fun p hp => ?_, h3, h1, h2⟩
    obtain ⟨n, en, q⟩ := h4 p hp
    obtain ⟨x, m⟩ := p
    cases en
    rcases q with ⟨z, e1, e2⟩ | ⟨j, e1, e2⟩
    · cases e1; cases e2; exact .str z
    · cases e1; cases e2; exact .int j
  | odd =>
    unfold RepT at h
    rcases h with ⟨n, ty, hn⟩ | ⟨a, l, ev, tv, kl, sh, p, q⟩
    · exact .inl ⟨n, ty, hn, rfl, rfl⟩
    · exact .inr ⟨a, l, ev, tv, kl, sh, p, q⟩
  | may b =>
    unfold RepT at h
    obtain ⟨a, c, xs, ev, tv, tc, rb⟩ := h
    refine .inr ⟨a, [(.str sMaybe, "str"), (.ref c, "tuple")], ev, tv, fun p hp => ?_, fun p hp z e => ?_, by show holdsB [(.str sMaybe, "str"), (.ref c, "tuple")] = true; rfl, rfl⟩
    · simp only [List.mem_cons, List.not_mem_nil, or_false] at hp
      rcases hp with rfl | rfl
      · exact .str _
      · exact tc.ty
    · simp only [List.mem_cons, List.not_mem_nil, or_false] at hp
      rcases hp with rfl | rfl <;> cases e
      decide
  | both b c =>
    unfold RepT at h
    obtain ⟨a, p, q, xs, ys, ev, tv, tp, rb, tq, rc⟩ := h
    refine .inr ⟨a, [(.str sBoth, "str"), (.ref p, "tuple"), (.ref q, "tuple")], ev, tv, fun x hx => ?_, fun x hx z e => ?_, by show holdsB [(.str sBoth, "str"), (.ref p, "tuple"), (.ref q, "tuple")] = true; rfl, rfl⟩
    · simp only [List.mem_cons, List.not_mem_nil, or_false] at hx
      rcases hx with rfl | rfl | rfl
      · exact .str _
      · exact tp.ty
      · exact tq.ty
    · simp only [List.mem_cons, List.not_mem_nil, or_false] at hx
      rcases hx with rfl | rfl | rfl <;> cases e
      decide
/-- a part that holds blocks: its tuple -/
theorem RepT.held {H : Hp} {t : Tr} {v : V} (h : RepT K H t v) (ht : holdsT t = true) : ∃ (a : Addr) (w : Str) (cs : List Addr), v = .ref a ∧ TupV K H a (.str w :: cs.map V.ref) ∧ (w = sMaybe ∨ w = sBoth) ∧ cs.length = (blocks t).length ∧
    ∀ (j : Nat) (c : Addr), cs[j]? = some c → ∃ b xs, (blocks t)[j]? = some b ∧ TupV K H c xs ∧ RepB K H b xs := by
  cases t with
  | leaf i => cases ht
  | odd => cases ht
  | may b =>
    unfold RepT at h
    obtain ⟨a, c, xs, ev, tv, tc, rb⟩ := h
    refine ⟨a, sMaybe, [c], ev, tv, .inl rfl, rfl, fun j d hd => ?_⟩
    match j, hd with
    | 0, hd => cases hd; exact ⟨b, xs, rfl, tc, rb⟩
    | j + 1, hd => simp at hd
  | both b c =>
    unfold RepT at h
    obtain ⟨a, p, q, xs, ys, ev, tv, tp, rb, tq, rc⟩ := h
    refine ⟨a, sBoth, [p, q], ev, tv, .inr rfl, rfl, fun j d hd => ?_⟩
    match j, hd with
    | 0, hd => cases hd; exact ⟨b, xs, rfl, tp, rb⟩
    | 1, hd => cases hd; exact ⟨c, ys, rfl, tq, rc⟩
    | j + 2, hd => simp at hd
mutual
def kids : Tr → Nat → List (Tr × Nat)
  | .may b, n => pio b n
  | .both b c, n => pio b n ++ pio c n
  | _, _ => []
def pio : List Tr → Nat → List (Tr × Nat)
  | [], _ => []
  | t :: b, n => ((t, n) :: (if n ≤ 1 then kids t (n + 1) else [])) ++ pio b n
end
def one (t : Tr) (n : Nat) : List (Tr × Nat) := (t, n) :: (if n ≤ 1 then kids t (n + 1) else [])
theorem pio_nil {n : Nat} : pio [] n = [] := by unfold pio; rfl
theorem pio_cons {t : Tr} {b : List Tr} {n : Nat} : pio (t :: b) n = one t n ++ pio b n := by (conv => lhs; unfold pio); rfl
theorem pio_app : ∀ (b c : List Tr) (n : Nat), pio (b ++ c) n = pio b n ++ pio c n
  | [], c, n => by rw [pio_nil]; rfl
  | t :: b, c, n => by
    rw [pio_cons, List.cons_append, pio_cons, pio_app b c n, List.append_assoc]
theorem pio_take {b : List Tr} {t : Tr} {i n : Nat} (h : b[i]? = some t) : pio (b.take (i + 1)) n = pio (b.take i) n ++ one t n := by
  rw [List.take_succ, h, pio_app]
  show _ ++ pio [t] n = _
  rw [pio_cons, pio_nil, List.append_nil]
theorem kids_blocks (t : Tr) (n : Nat) : kids t n = (blocks t).flatMap fun b => pio b n := by
  cases t with
  | leaf i => unfold kids; rfl
  | odd => unfold kids; rfl
  | may b => unfold kids; simp [blocks]
  | both b c => unfold kids; simp [blocks]
def Prs (K : PySem.W.Frag) (H : Hp) : List (Tr × Nat) → List V → Prop
  | [], ys => ys = []
  | (t, n) :: l, ys => ∃ p v zs, ys = .ref p :: zs ∧ TupV K H p [v, .int n] ∧ RepT K H t v ∧ Prs K H l zs
theorem Prs.kp {H H' : Hp} (e : Kp H H') : ∀ {l : List (Tr × Nat)} {ys : List V}, Prs K H l ys → Prs K H' l ys
  | [], _, h => h
  | (t, n) :: l, ys, ⟨p, v, zs, e1, tv, rt, h⟩ => ⟨p, v, zs, e1, tv.kp e, RepT.kp e t v rt, Prs.kp e h⟩
theorem Prs.app {H : Hp} : ∀ {l m : List (Tr × Nat)} {ys zs : List V}, Prs K H l ys → Prs K H m zs → Prs K H (l ++ m) (ys ++ zs)
  | [], m, ys, zs, h, h' => by
    have h : ys = [] := h
    subst h
    exact h'
  | (t, n) :: l, m, ys, zs, ⟨p, v, us, e1, tv, rt, h⟩, h' => by
    subst e1
    exact ⟨p, v, us ++ zs, rfl, tv, rt, Prs.app h h'⟩
theorem Prs.len {H : Hp} : ∀ {l : List (Tr × Nat)} {ys : List V}, Prs K H l ys → ys.length = l.length
  | [], ys, h => by
    have h : ys = [] := h
    rw [h]
    rfl
  | (t, n) :: l, ys, ⟨p, v, us, e1, tv, rt, h⟩ => by
    subst e1
    exact congrArg (· + 1) (Prs.len h)
theorem Prs.get {H : Hp} : ∀ {l : List (Tr × Nat)} {ys : List V} {i : Nat} {x : V}, Prs K H l ys → ys[i]? = some x → ∃ t n p v, l[i]? = some (t, n) ∧ x = .ref p ∧ TupV K H p [v, .int (n : Int)] ∧ RepT K H t v
  | [], ys, i, x, h, e => by
    have h : ys = [] := h
    subst h
    cases e
  | (t, n) :: l, ys, i, x, ⟨p, v, us, e1, tv, rt, h⟩, e => by
    subst e1
    cases i with
    | zero => cases e; exact ⟨t, n, p, v, rfl, rfl, tv, rt⟩
    | succ i => exact Prs.get (l := l) (i := i) h e
end
end K2

namespace K2
open PySem PySem.Spec PyProof.Rows L2 Mc
section
variable {P : Program} {w : World} {K : PySem.W.Frag} {mg : Str → Option Value} {base : Heap}
local macro_rules | `(tactic| walk_at "rd1") => `(tactic| first
  | with_reducible refine g_seq ?_
  | with_reducible refine g_asg ?_
  | with_reducible refine g_name ?_
  | with_reducible refine g_c ?_
  | with_reducible refine g_op ?_
  | with_reducible refine g_ifS ?_
  | with_reducible refine g_if ?_
  | with_reducible refine g_test ?_
  | with_reducible refine g_B ?_
  | with_reducible refine g_bl ?_
  | with_reducible refine g_blV ?_
  | with_reducible refine g_not ?_
  | with_reducible refine g_and ?_
  | with_reducible refine g_or ?_
  | with_reducible refine g_notV ?_
  | with_reducible refine g_andV ?_
  | with_reducible refine g_orV ?_
  | with_reducible refine g_ret ?_
  | with_reducible refine g_drop ?_
  | with_reducible refine g_next ?_
  | with_reducible refine g_retN ?_
  | with_reducible refine g_call ?_
  | with_reducible refine g_cb ?_
  | with_reducible refine g_cons ?_
  | with_reducible refine g_nil ?_
  | with_reducible refine g_tup ?_
  | with_reducible refine g_lst ?_
  | with_reducible refine g_prop ?_
  | with_reducible refine g_fld ?_
  | with_reducible refine g_meth ?_
  | with_reducible refine g_chain ?_
  | with_reducible refine g_yes ?_
  | with_reducible refine g_make ?_
  | with_reducible refine g_makeK ?_
  | with_reducible refine g_gsub ?_
  | with_reducible refine g_sfld ?_
  | with_reducible refine g_un ?_
  | with_reducible refine g_bm ?_
  | with_reducible refine g_iteT ?_
  | with_reducible refine g_iteF ?_
  | with_reducible refine g_I0 ?_
  | with_reducible refine g_add ?_
  | with_reducible refine g_sub ?_
  | ((with_reducible refine' g_var ?hv ?_); (case hv => rfl))
  | ((with_reducible refine g_eq ?hv ?_); (case hv => rfl))
  | ((with_reducible refine g_ne ?hv ?_); (case hv => rfl)))
local macro_rules | `(tactic| walk_at "rd") => `(tactic| repeat (walk_at "rd1"))

local macro_rules | `(tactic| walk_at "ty") => `(tactic| first | exact .non | exact .bl _ | exact .int _ | exact .str _ | exact .lst (by assumption) | exact .tup (by assumption) | exact .dK (by assumption) | exact .kTup (by assumption) (by assumption))
local macro_rules | `(tactic| walk_at "isiF") => `(tactic| refine g_isi (by walk_at "ty") (b := false) (by decide +kernel) ?_)
local macro_rules | `(tactic| walk_at "isiT") => `(tactic| refine g_isi (by walk_at "ty") (b := true) (by decide +kernel) ?_)

/-- a def called with its default -/
structure CalD (P : Program) (w : World) (K : PySem.W.Frag) (mg : Str → Option Value) (base : Heap) (k : Nat) (x : Str) (sp : Sp) (dvs : List V) : Prop where
  ex : ∃ (f : Addr) (fd : FuncData) (ps : List Str) (ds : List Value), FnOk P w K mg base CX0 k f fd ps sp ∧ mg x = some (.ref f) ∧ PySem.W.keepIn K (.ref f) = true ∧ Binds K fd ps ds ∧ Vals dvs ds
theorem pe_fD {X : Cx} {k j : Nat} {x : Str} {sp : Sp} {dvs : List V} {p pos : Pos} {e : Expr} {es : List Expr} {t : TA} (c : CalD X.prog X.w X.K X.mg X.base k x sp dvs) (hr : Room j X.A) (hk : k ≤ j) (hg : Gl X x) (ha : PA X (e :: es) t)
    (hdb : (x == ("__debug__" : Str)) = false := by decide) (he : starEach (e :: es) X.env = (false, eval e X.env) :: starEach es X.env := by rfl) (hpl : (backTo pos (starEach es X.env)).any (·.1) = false := by rfl) :
    PE X (.Call (.Name x p) (e :: es) [] pos) (tCall sp dvs E0 t) := by
  obtain ⟨f, fd, ps, ds, G, hm, kp, b, v⟩ := c.ex
  exact pe_call G (hr.mono hk) hg hm kp b v pass0 ha hdb he hpl
def ForW (g : TG) (tb : TS) (D : Ends) (σ : L2.St) (J : It) (H1 : Hp) : Prop := ∃ W : Nat → Nat → L2.St → Hp → Prop, (∃ m, W 0 m σ H1) ∧ ∀ i m σ H, W i m σ H →
  (J.stop i H ∧ D.nx σ H) ∨ (J.go i H ∧ ∃ N : L2.St → Hp → Prop, (∀ σ' H', N σ' H' → ∃ m', m' < m ∧ W (i + 1) m' σ' H') ∧ ∀ x H', J.yld i H x H' → g x σ H' fun σ2 H2 => tb { D with nx := N, ct := N, bk := D.nx } σ2 H2)
theorem g_for {wi : TI} {g : TG} {tb : TS} {D : Ends} {σ : L2.St} {H : Hp} (q : wi σ H fun J H1 => ForW g tb D σ J H1) : tFor wi g tb D σ H := q
theorem g_ienum {ta : TA} {σ : L2.St} {H : Hp} {R : It → Hp → Prop} (q : ta σ H fun vs H1 => ∃ a xs, vs = [.ref a] ∧ SqL K H1 a xs ∧ R (Ite K a) H1) : iEnum K ta σ H R := q
theorem g_irng {ta : TA} {σ : L2.St} {H : Hp} {R : It → Hp → Prop} (q : ta σ H fun vs H1 => ∃ j : Int, vs = [.int j] ∧ -(2 ^ 62) ≤ j ∧ j < 2 ^ 62 ∧ R (Itr 0 j.toNat) H1) : iRng1 ta σ H R := q
theorem g_itup {te : TE} {σ : L2.St} {H : Hp} {R : It → Hp → Prop} (q : te σ H fun v H1 => ∃ a, v = .ref a ∧ (∃ xs, SqT K H1 a xs) ∧ R (Itt K a) H1) : iTup K te σ H R := q
theorem six1 {n : Nat} : HT.sIx (n + 1) 0 (some 1) = 1 := by
  show (if (1 : Int) < 0 then ((1 : Int) + ((n + 1 : Nat) : Int)).toNat else min (1 : Int).toNat (n + 1)) = 1
  rw [if_neg (by decide)]
  show min 1 (n + 1) = 1
  omega
theorem cut1 (x : V) (l : List V) : cutV (x :: l) (some 1) none = l := by
  show ((x :: l).drop (HT.sIx (l.length + 1) 0 (some 1))).take ((l.length + 1) - HT.sIx (l.length + 1) 0 (some 1)) = l
  rw [six1]
  show l.take (l.length + 1 - 1) = l
  simp
theorem g_sl1 {r : V → Option Int → Option Int → Hp → VK → Prop} {te : TE} {i : Int} {σ : L2.St} {H : Hp} {Q : VK} (q : te σ H fun x H1 => r x (some i) none H1 Q) : tSl r te (tPart (tC (.int i))) tNoPart σ H Q :=
  (show te σ H (fun x H1 => ∃ i', V.int i = .int i' ∧ r x (some i') none H1 Q) from (by
    have e : (fun x H1 => ∃ i', V.int i = V.int i' ∧ r x (some i') none H1 Q) = fun x H1 => r x (some i) none H1 Q := by
      funext x H1
      exact propext ⟨fun ⟨_, e, h⟩ => by cases e; exact h, fun h => ⟨_, rfl, h⟩⟩
    rw [e]
    exact q))
theorem g_aug {i : Nat} {te : TE} {ti : TIp} {D : Ends} {σ : L2.St} {H : Hp} {x : V} (h : σ[i]? = some (some x)) (q : te σ H fun y H1 => ti x y H1 fun z H2 => D.nx (σ.set i (some z)) H2) : tAug i te ti D σ H := ⟨x, h, q⟩
/-- parts_in_order, of a block that stands so many blocks in -/
def spPio (K : PySem.W.Frag) (m : Nat) : Sp := fun vs H Q _ => ∃ (a : Addr) (n : Nat) (b : List Tr) (xs : List V), vs = [.ref a, .int n] ∧ 2 ≤ n + m ∧ TupV K H a xs ∧ RepB K H b xs ∧ (pio b n).length ≤ 1000 ∧
  ∀ l ys H', Same H H' → H l = none → H' l = some (.lst ys) → Prs K H' (pio b n) ys → Q (.ref l) H'
def spNo : Sp := fun _ _ _ _ => False
structure DefP (K : PySem.W.Frag) (mg : Str → Option Value) : Prop where
  ex : ∃ (f : Addr) (fd : FuncData), FunD K "parts_in_order" "parts_in_order" (defArgs s_parts_in_order) (defBody s_parts_in_order) (defScope s_parts_in_order) [.int 0] [] f fd ∧ mg "parts_in_order" = some (.ref f)
theorem DefP.cal {k : Nat} {sp : Sp} (D : DefP K mg) (len : ∀ vs H Q E, sp vs H Q E → vs.length = 2)
    (hbody : ∀ (f : Addr) (cdv : Value) (A : Around) (outer : List Env) (s : Shared) (H : Hp) (vs : List V) (Q : VK) (E : XK), Room k (A.deeper (envOfC "parts_in_order" (defScope s_parts_in_order) s.heap.objs.size f cdv)) → sp vs H Q E →
      ∃ t, PSs (cxOf CX0 P w K mg base N_parts_in_order "parts_in_order" (defScope s_parts_in_order) f cdv A outer s H E).nox (defBody s_parts_in_order) t ∧ t { nx := fun _ H' => Q .non H', rt := Q } (start N_parts_in_order vs) H) :
    Cal P w K mg base (k + 1) "parts_in_order" sp ∧ CalD P w K mg base (k + 1) "parts_in_order" sp [.int 0] := by
  obtain ⟨f, fd, F, hm⟩ := D.ex
  have G : FnOk P w K mg base CX0 (k + 1) f fd ["block", "around"] sp := F.ok sc_parts_in_order len (fun cdv A outer s H vs Q E hr h => by
    obtain ⟨t, h1, h2⟩ := hbody f cdv A outer s H vs Q E hr h
    exact ⟨t, h1.nox, h2⟩)
  obtain ⟨ds0, v0, b0⟩ := F.binds1 (ps := ["block", "around"]) 2 1 (by simp) rfl (fun T kV doc pm an cdv ct us its hu hi => match us, its, hu, hi with
    | [u, u'], [i], _, _ => ⟨_, rfl, rfl⟩)
  obtain ⟨ds1, v1, b1⟩ := F.binds1 (ps := ["block", "around"]) 1 0 (by simp) rfl (fun T kV doc pm an cdv ct us its hu hi => match us, its, hu, hi with
    | [u], [i], _, _ => ⟨_, rfl, rfl⟩)
  cases v0
  exact ⟨⟨f, fd, _, G, hm, F.kp, b0⟩, ⟨f, fd, _, ds1, G, hm, F.kp, b1, v1⟩⟩
theorem pio_no (D : DefP K mg) : Cal P w K mg base 1 "parts_in_order" spNo := (D.cal (k := 0) (sp := spNo) (fun _ _ _ _ h => h.elim) (fun _ _ _ _ _ _ _ _ _ _ h => h.elim)).1
theorem fm_take {bs : List (List Tr)} {b : List Tr} {j n : Nat} (h : bs[j]? = some b) : (bs.take (j + 1)).flatMap (pio · n) = (bs.take j).flatMap (pio · n) ++ pio b n := by
  rw [List.take_succ, h, List.flatMap_append]
  simp
theorem fm_le {bs : List (List Tr)} {j n : Nat} : ((bs.take j).flatMap (pio · n)).length ≤ (bs.flatMap (pio · n)).length := by
  conv => rhs; rw [← List.take_append_drop j bs, List.flatMap_append, List.length_append]
  omega
theorem blocks_no {t : Tr} (h : holdsT t = false) : blocks t = [] := by
  cases t <;> first | rfl | cases h
theorem pio_step {k m : Nat} {spS : Sp} (hk : 1 ≤ k) (T : Txt K mg) (D : DefP K mg) (c_holds_blocks : Cal P w K mg base 1 "holds_blocks" (spHolds K)) (c_parts_in_order : Cal P w K mg base k "parts_in_order" spS)
    (hS : m = 0 ∨ spS = spPio K (m - 1)) : Cal P w K mg base (k + 1) "parts_in_order" (spPio K m) ∧ CalD P w K mg base (k + 1) "parts_in_order" (spPio K m) [.int 0] := by
  refine D.cal (fun vs H Q E h => ?_) (fun f cdv A outer s H vs Q E hr h => ?_)
  · obtain ⟨a, n, b, xs, rfl, _⟩ := h
    rfl
  · obtain ⟨a, n, b, xs, rfl, hnm, tv, rb, hl, q⟩ := h
    have hr1 : Room 1 (A.deeper (envOfC "parts_in_order" (defScope s_parts_in_order) s.heap.objs.size f cdv)) := hr.mono hk
    refine ⟨_, (pss_cons (ps_set (i := 2) sc_parts_in_order.nd rfl (Or.inl rfl) (pe_lst pa_nil))
      (pss_cons (ps_for PassesOwn.never rfl (pi_tup (pv 0)) (pg_name (i := 3) sc_parts_in_order.nd rfl (Or.inl rfl)) (pss_cons (ps_expr (pe_bm PySem.F.plainAttrs_list PySem.F.slot_list_append PySem.F.type_list_append mt_append (pv 2) (pa_cons (pe_tup (pa_cons (pv 3) (pa_cons (pv 1) pa_nil))) pa_nil)))
      (pss_one (ps_if (PW.pt (pw_and (pt_cmpR op_le (pv 1) (pe_gx rfl T.g_MOST_AROUND) (nomark _)) (pw_and1 (pt_val (pe_f c_holds_blocks hr1 (by decide) (by rfl) (pa_cons (pv 3) pa_nil)))))) (pss_one (ps_for PassesOwn.never rfl (pi_tup (pe_slice sl_tup (pv 3) (po_some pe_int) po_none)) (pg_name (i := 4) sc_parts_in_order.nd rfl (Or.inl rfl)) (pss_one (ps_aug (i := 2) sc_parts_in_order.nd rfl (Or.inl rfl) (pe_f c_parts_in_order hr (Nat.le_refl _) (by rfl) (pa_cons (pv 4) (pa_cons (pe_op op_add (pv 1) pe_int) pa_nil))) iop_ext)))) pss_nil))))
      (pss_one (ps_ret (pv 2))))), ?_⟩
    walk_at "rd"
    refine ⟨(by show 0 ≤ sizeLine; decide), fun L hL => ?_⟩
    walk_at "rd"
    have S0 : Same H (upd H L (.lst [])) := same_new hL
    refine g_for (g_itup ?_)
    walk_at "rd"
    refine ⟨a, rfl, ⟨xs, TupV.sq (TupV.ext S0 tv)⟩, ?_⟩
    refine for_tup (K := K) (a := a) (xs := xs) (fun i σ H' => ∃ o3 o4 : Option V, ∃ ys, σ = [some (.ref a), some (.int n), some (.ref L), o3, o4] ∧ Same H H' ∧ H' L = some (.lst ys) ∧ Prs K H' (pio (b.take i) n) ys) ⟨_, _, [], rfl, S0, upd_same, by rw [List.take_zero, pio_nil]; rfl⟩ (fun i σ H' _ ⟨_, _, _, _, e, _⟩ => (TupV.ext e tv).sq) ?_ ?_
    · rintro i x σ H1 hx ⟨o3, o4, ys, rfl, S1, hL1, pr⟩
      obtain ⟨t, ht, rt⟩ := rb.get hx
      have hlen : (pio (b.take (i + 1)) n).length ≤ 1000 := by
        refine Nat.le_trans ?_ hl
        conv => rhs; rw [← List.take_append_drop (i + 1) b, pio_app, List.length_append]
        omega
      rw [pio_take ht, List.length_append] at hlen
      have hys := pr.len
      walk_at "rd"
      refine ⟨.inl ⟨rfl, _, SqL.of hL1⟩, ?_⟩
      walk_at "rd"
      refine ⟨(by show 2 ≤ sizeLine; decide), fun p hp => ?_⟩
      walk_at "rd"
      have npL : p ≠ L := fun e => by rw [e, hL1] at hp; cases hp
      have hL2 : (upd H1 p (.tup [x, .int n])) L = some (.lst ys) := by rw [upd_ne (Ne.symm npL)]; exact hL1
      refine ⟨L, ys, .ref p, rfl, rfl, hL2, small1000 (by omega), ?_⟩
      obtain ⟨H3, eH3⟩ : ∃ H3, H3 = upd (upd H1 p (.tup [x, .int n])) L (.lst (ys ++ [.ref p])) := ⟨_, rfl⟩
      have K3 : Kp H1 H3 := by rw [eH3]; exact (Kp.of (same_new hp)).trans (Kp.upd hL2)
      have S3 : Same H H3 := fun c o hc => by
        rw [eH3, upd_ne (fun e => by rw [e, hL] at hc; cases hc)]
        exact same_new hp _ _ (S1 _ _ hc)
      have hL3 : H3 L = some (.lst (ys ++ [.ref p])) := by rw [eH3]; exact upd_same
      have tp3 : TupV K H3 p [x, .int n] := by
        have : H3 p = some (.tup [x, .int n]) := by rw [eH3, upd_ne npL]; exact upd_same
        exact ⟨.tup this, SqT.of this⟩
      have rt3 : RepT K H3 t x := RepT.kp ((Kp.of S1).trans K3) t x rt
      have pr3 : Prs K H3 (pio (b.take i) n ++ [(t, n)]) (ys ++ [.ref p]) := (pr.kp K3).app ⟨p, x, [], rfl, tp3, rt3, rfl⟩
      rw [← eH3]
      clear eH3
      walk_at "rd"
      refine g_ite (fun e => ?_) (fun e => ?_)
      · have hn : n ≤ 1 := by have := of_decide_eq_true e; omega
        have em : spS = spPio K (m - 1) := hS.resolve_left (by omega)
        have e1 : one t n = (t, n) :: (blocks t).flatMap (pio · (n + 1)) := by
          unfold one
          rw [if_pos hn, kids_blocks]
        walk_at "rd"
        have no : holdsT t = false → ∃ u3 u4 : Option V, ∃ zs : List V, [some (V.ref a), some (V.int n), some (V.ref L), o3, o4].set 3 (some x) = [some (V.ref a), some (V.int n), some (V.ref L), u3, u4] ∧ Same H H3 ∧ H3 L = some (.lst zs) ∧ Prs K H3 (pio (b.take (i + 1)) n) zs := fun hf =>
          ⟨_, _, _, rfl, S3, hL3, by rw [pio_take ht, e1, blocks_no hf]; exact pr3⟩
        rcases rt3.desc with ⟨nn, ty, hne, _, hb⟩ | ⟨pa, l, rfl, tvl, kl, sh, _, hb⟩
        · refine ⟨x, rfl, .inl ⟨nn, ty, hne, ?_⟩⟩
          walk_at "rd"
          exact no hb
        · refine ⟨_, rfl, .inr ⟨pa, l, rfl, tvl, kl, ?_⟩⟩
          rw [hb]
          cases eb : holdsT t
          · walk_at "rd"
            exact no eb
          · walk_at "rd"
            obtain ⟨a', wd, cs, ea, tva, _, hcl, hcs⟩ := rt3.held eb
            cases ea
            have hc0 : cs ≠ [] := fun z => by
              subst z
              cases t <;> first | (cases eb; done) | exact absurd hcl (by simp [blocks])
            refine g_for (g_itup ?_)
            walk_at "rd"
            refine g_sl1 ?_
            walk_at "rd"
            refine ⟨pa, _, rfl, tva.sq, ?_, fun u hu => ?_⟩
            · intro z
              have z1 := z.1
              rw [show (V.str wd :: cs.map V.ref).length = (cs.map V.ref).length + 1 from rfl, six1] at z1
              cases z1
            refine ⟨u, rfl, ⟨cs.map V.ref, SqT.of (by rw [upd_same, cut1])⟩, ?_⟩
            obtain ⟨H4, eH4⟩ : ∃ H4, H4 = upd H3 u (.tup (cutV (.str wd :: cs.map V.ref) (some 1) none)) := ⟨_, rfl⟩
            rw [← eH4]
            have S4 : Same H3 H4 := by rw [eH4]; exact same_new hu
            have hu4 : H4 u = some (.tup (cs.map V.ref)) := by rw [eH4, upd_same, cut1]
            refine for_tup (K := K) (a := u) (xs := cs.map V.ref) (fun j σ H' => ∃ o4 : Option V, ∃ zs, σ = [some (.ref a), some (.int n), some (.ref L), some (.ref pa), o4] ∧ Same H H' ∧ Kp H4 H' ∧ H' L = some (.lst zs) ∧ Prs K H' (pio (b.take i) n ++ (t, n) :: ((blocks t).take j).flatMap (pio · (n + 1))) zs)
              ⟨_, _, rfl, Same.trans S3 S4, Kp.refl _, S4 _ _ hL3, pr3.kp (Kp.of S4)⟩ (fun i σ H' _ ⟨_, _, _, _, e, _⟩ => (SqT.of (e.get hu4 (fun _ z => by cases z)))) ?_ ?_
            · rintro j y σ H5 hy ⟨u4, zs, rfl, S5, K5, hL5, pr5⟩
              rw [List.getElem?_map] at hy
              obtain ⟨c, hc, rfl⟩ := Option.map_eq_some_iff.mp hy
              obtain ⟨b', xs', hb', tc, rc⟩ := hcs j c hc
              have K35 := (Kp.of S4).trans K5
              have hz := pr5.len
              rw [e1] at hlen
              have hle := fm_le (bs := blocks t) (j := j + 1) (n := n + 1)
              rw [fm_take hb'] at hle
              simp only [List.length_append, List.length_cons] at hle hlen hz
              walk_at "rd"
              rw [em]
              refine g_aug rfl ?_
              walk_at "rd"
              refine ⟨c, n + 1, b', xs', rfl, by omega, tc.kp K35, RepB.kp K35 _ _ rc, by omega, fun l2 zs2 H6 S6 hl2 hz2 pr6 => ?_⟩
              have hz3 := pr6.len
              have hL6 := S6 _ _ hL5
              refine ⟨L, l2, zs, zs2, rfl, rfl, hL6, hz2, sz_le (by omega), ?_⟩
              refine ⟨_, _, rfl, fun d o hd => ?_, (K5.trans (Kp.of S6)).trans (Kp.upd hL6), upd_same, ?_⟩
              · rw [upd_ne (fun z => by rw [z, hL] at hd; cases hd)]
                exact S6 _ _ (S5 _ _ hd)
              · rw [fm_take hb']
                have := (pr5.kp ((Kp.of S6).trans (Kp.upd hL6))).app (pr6.kp (Kp.upd (ys := zs ++ zs2) hL6))
                rw [List.append_assoc, List.cons_append] at this
                exact this
            · rintro σ H5 ⟨u4, zs, rfl, S5, K5, hL5, pr5⟩
              rw [List.length_map, hcl, List.take_length] at pr5
              exact ⟨_, _, _, rfl, S5, hL5, by rw [pio_take ht, e1]; exact pr5⟩
      · have hn : ¬ n ≤ 1 := by have := of_decide_eq_false e; omega
        walk_at "rd"
        have e1 : one t n = [(t, n)] := by unfold one; rw [if_neg hn]
        exact ⟨_, _, _, rfl, S3, hL3, by rw [pio_take ht, e1]; exact pr3⟩
    · rintro σ H1 ⟨o3, o4, ys, rfl, S1, hL1, pr⟩
      walk_at "rd"
      rw [← rb.len, List.take_length] at pr
      exact q L ys H1 S1 hL hL1 pr
end
end K2

namespace K2
open PySem PySem.Spec PyProof.Rows L2 Mc
/-! ### sum(..) of a tuple of whole numbers -/
theorem sum_tupG {prog : Program} {w : World} {A : Around} {E : Value → Shared → Prop} {s : Shared} {l : Addr} {xs : Array (Int × Tok)} {Q : Value → Shared → Prop} (hh : A.handled = none)
    (hl : IsTup s.heap l (intItems xs)) (h : ∀ (h' : Heap) (tk : Nat) (t' : Tok), (∀ (b : Addr) (o : Obj), s.heap.get? b = some o → h'.get? b = some o) → Q (.int (preSum (numAt xs) xs.size) t') { heap := h', gens := s.gens, drawn := s.drawn, toks := tk, os := s.os }) :
    wpAny (model prog w) A (call (.builtin "sum") [.ref l]) Q E s := by
  have hlt : l < s.heap.objs.size := by
    obtain ⟨o, ho, _⟩ := hl
    exact PySem.Heap.lt_size ho
  have hne : l ≠ s.heap.objs.size := Nat.ne_of_lt hlt
  refine PySem.call_sum_walkG (PyProof.Rows.iter_tuple hl ⟨s.heap.objs.size, [s.heap.objs.size, l], [s.heap.objs.size], (intItems xs).size, fun i v => (intItems xs)[i]? = some v, fun i h => h.IsTupleIter s.heap.objs.size l i ∧ h.IsTuple l (intItems xs), numAt xs, rfl, (PySem.Walks.tuple (A := A.in1) hh s.heap.objs.size l hne (intItems xs) : _), ⟨?_, ?_⟩, ?_, fun _ _ => PySem.intItems_at, fun h' tk t' hk => ?_⟩)
  · exact ⟨_, PySem.Heap.get?_push_size _ rfl, rfl, rfl⟩
  · exact PySem.Heap.IsTuple.push hl _
  · intro b hb
    simp only [List.mem_cons, List.not_mem_nil, or_false] at hb
    rw [PySem.Heap.size_push]
    rcases hb with rfl | rfl
    · exact Nat.lt_succ_self _
    · exact Nat.lt_succ_of_lt hlt
  · have e : (intItems xs).size = xs.size := Array.size_map ..
    rw [e]
    refine h h' tk t' (fun b o hb => hk b o ?_ ?_)
    · intro hm
      simp only [List.mem_cons, List.not_mem_nil, or_false] at hm
      exact absurd hm (Nat.ne_of_lt (PySem.Heap.lt_size hb))
    · exact PySem.Heap.get?_push_of_some _ hb
theorem sum_rawT {prog : Program} {w : World} {A : Around} {E : Value → Shared → Prop} {s : Shared} {l : Addr} {its : List Value} {ns : List Int} {Q : Value → Shared → Prop} (hh : A.handled = none)
    (hl : IsTup s.heap l its.toArray) (hi : IntsAre its ns) (h : ∀ (h' : Heap) (tk : Nat) (t' : Tok), (∀ (b : Addr) (o : Obj), s.heap.get? b = some o → h'.get? b = some o) → Q (.int ns.sum t') { heap := h', gens := s.gens, drawn := s.drawn, toks := tk, os := s.os }) :
    wpAny (model prog w) A (call (.builtin "sum") [.ref l]) Q E s := by
  obtain ⟨xs, e⟩ := PySem.AllInts.items (IntsAre.allInts hi)
  have hn : PySem.numsOf (intItems xs).toList = ns := by rw [← e]; exact IntsAre.numsOf hi
  rw [e] at hl
  refine sum_tupG hh hl (fun h' tk t' hk => ?_)
  have := h h' tk t' hk
  rw [PySem.preSum_eq xs xs.size, List.take_of_length_le (by simp)]
  rw [PySem.nums_intItems] at hn
  rw [hn]
  exact this
def rSumT (K : PySem.W.Frag) : List V → Hp → VK → Prop := fun vs H Q => ∃ (a : Addr) (ns : List Int), vs = [V.ref a] ∧ SqT K H a (ns.map V.int) ∧ Q (.int ns.sum) H
theorem cr_sumT {X : Cx} (hc : X.calm = true) : CallR X (.builtin "sum") (rSumT X.K) := by
  intro pins s σ H vs us Q I r h
  obtain ⟨a, ns, rfl, hs, q⟩ := h
  obtain ⟨its, rv, hl, _⟩ := Inv.tuple I hs
  rw [Vals.ref1 r]
  exact sum_rawT (I.ok.hd hc) hl (Vals.ints rv) fun h' tk t' hk => ⟨V.int ns.sum, H, Inv.kept I hk, ⟨t', rfl⟩, q⟩
end K2

namespace K2
open PySem PySem.Spec PyProof.Rows L2 Mc
section
variable {P : Program} {w : World} {K : PySem.W.Frag} {mg : Str → Option Value} {base : Heap}
local macro_rules | `(tactic| walk_at "rd1") => `(tactic| first
  | with_reducible refine g_seq ?_
  | with_reducible refine g_asg ?_
  | with_reducible refine g_name ?_
  | with_reducible refine g_c ?_
  | with_reducible refine g_op ?_
  | with_reducible refine g_ifS ?_
  | with_reducible refine g_if ?_
  | with_reducible refine g_test ?_
  | with_reducible refine g_B ?_
  | with_reducible refine g_bl ?_
  | with_reducible refine g_blV ?_
  | with_reducible refine g_not ?_
  | with_reducible refine g_and ?_
  | with_reducible refine g_or ?_
  | with_reducible refine g_notV ?_
  | with_reducible refine g_andV ?_
  | with_reducible refine g_orV ?_
  | with_reducible refine g_ret ?_
  | with_reducible refine g_drop ?_
  | with_reducible refine g_next ?_
  | with_reducible refine g_retN ?_
  | with_reducible refine g_call ?_
  | with_reducible refine g_cb ?_
  | with_reducible refine g_cons ?_
  | with_reducible refine g_nil ?_
  | with_reducible refine g_tup ?_
  | with_reducible refine g_lst ?_
  | with_reducible refine g_prop ?_
  | with_reducible refine g_fld ?_
  | with_reducible refine g_meth ?_
  | with_reducible refine g_chain ?_
  | with_reducible refine g_yes ?_
  | with_reducible refine g_make ?_
  | with_reducible refine g_makeK ?_
  | with_reducible refine g_gsub ?_
  | with_reducible refine g_sfld ?_
  | with_reducible refine g_un ?_
  | with_reducible refine g_bm ?_
  | with_reducible refine g_iteT ?_
  | with_reducible refine g_iteF ?_
  | with_reducible refine g_I0 ?_
  | with_reducible refine g_add ?_
  | with_reducible refine g_sub ?_
  | ((with_reducible refine' g_var ?hv ?_); (case hv => rfl))
  | ((with_reducible refine g_eq ?hv ?_); (case hv => rfl))
  | ((with_reducible refine g_ne ?hv ?_); (case hv => rfl)))
local macro_rules | `(tactic| walk_at "rd") => `(tactic| repeat (walk_at "rd1"))

local macro_rules | `(tactic| walk_at "ty") => `(tactic| first | exact .non | exact .bl _ | exact .int _ | exact .str _ | exact .lst (by assumption) | exact .tup (by assumption) | exact .dK (by assumption) | exact .kTup (by assumption) (by assumption))
local macro_rules | `(tactic| walk_at "isiF") => `(tactic| refine g_isi (by walk_at "ty") (b := false) (by decide +kernel) ?_)
local macro_rules | `(tactic| walk_at "isiT") => `(tactic| refine g_isi (by walk_at "ty") (b := true) (by decide +kernel) ?_)

def LcW (g : TG) (tt : TT) (te : TE) (vs : List Nat) (σ : L2.St) (Q : VK) (J : It) (H1 : Hp) : Prop := ∀ D, H1 D = none → ∃ W : Nat → Nat → Hp → Prop, (∃ m, W 0 m (upd H1 D (.lst []))) ∧ ∀ i m H, W i m H →
  (J.stop i H ∧ Q (.ref D) H) ∨ (J.go i H ∧ ∃ Nx : Hp → Prop, (∀ H', Nx H' → ∃ m', m' < m ∧ W (i + 1) m' H') ∧ ∀ x H', J.yld i H x H' → g x (wipe σ vs) H' fun σ2 H2 => wipe σ2 vs = wipe σ vs ∧ tt σ2 H2 fun b H3 => if b = true then te σ2 H3 fun y H4 => ∃ acc, H4 D = some (.lst acc) ∧ acc.length < sizeLine ∧ Nx (upd H4 D (.lst (acc ++ [y]))) else Nx H3)
theorem g_lc {wi : TI} {g : TG} {tt : TT} {te : TE} {vs : List Nat} {σ : L2.St} {H : Hp} {Q : VK} (q : wi σ H fun J H1 => LcW g tt te vs σ Q J H1) : tLc wi g tt te vs σ H Q := q
theorem g_ilist {te : TE} {σ : L2.St} {H : Hp} {R : It → Hp → Prop} (q : te σ H fun v H1 => ∃ a, v = .ref a ∧ (∃ xs, SqL K H1 a xs) ∧ R (Itl K a) H1) : iList K te σ H R := q
theorem same_upd {H H' : Hp} {L : Addr} {o : HO} (hL : H L = none) (S : Same H H') : Same H (upd H' L o) := fun b u hb => by
  rw [upd_ne (ne_of_none hb hL)]
  exact S _ _ hb
theorem g_tup2 {i j : Nat} {a : Addr} {x y : V} {σ : L2.St} {H : Hp} {Q : L2.St → Hp → Prop} (sq : SqT K H a [x, y]) (q : Q ((σ.set i (some x)).set j (some y)) H) : gTup K 2 (gCons (gName i) (gCons (gName j) gNil)) (.ref a) σ H Q :=
  ⟨a, [x, y], rfl, sq, rfl, x, [y], rfl, y, [], rfl, rfl, q⟩
theorem cr_sumA {X : Cx} (hc : X.calm = true) : CallR X (.builtin "sum") (fun vs H Q => rSum X.K vs H Q ∨ rSumT X.K vs H Q) := by
  intro pins s σ H vs us Q I r h
  rcases h with h | h
  · exact cr_sum hc _ _ _ _ _ _ _ I r h
  · exact cr_sumT hc _ _ _ _ _ _ _ I r h
def isCallT : Tr → Bool
  | .leaf (.call _ _ _) => true
  | _ => false
def csOf (l : List (Tr × Nat)) : List Tr := (l.filter fun p => isCallT p.1).map (·.1)
theorem csOf_snoc {l : List (Tr × Nat)} {t : Tr} {n i : Nat} (h : l[i]? = some (t, n)) : csOf (l.take (i + 1)) = csOf (l.take i) ++ (if isCallT t = true then [t] else []) := by
  unfold csOf
  rw [List.take_succ, h, List.filter_append, List.map_append]
  cases e : isCallT t <;> simp [e]
/-- a right part's tuple: its word -/
theorem RepT.head {H : Hp} {t : Tr} {v : V} (h : RepT K H t v) (hp : isPartT t = true) : ∃ a z xs, v = .ref a ∧ TupV K H a (.str z :: xs) ∧ callW z = isCallT t := by
  cases t with
  | odd => cases hp
  | leaf i =>
    unfold RepT at h
    obtain ⟨ok, a, ev, tv⟩ := h
    match i, tv with
    | .run x y, tv => exact ⟨a, sRun, _, ev, tv, by show callW sRun = false; decide +kernel⟩
    | .risk, tv => exact ⟨a, sRisk, _, ev, tv, by show callW sRisk = false; decide +kernel⟩
    | .call w z p, tv => exact ⟨a, wordC w, _, ev, tv, by show callW (wordC w) = true; cases w <;> decide +kernel⟩
  | may b =>
    unfold RepT at h
    obtain ⟨a, c, xs, ev, tv, tc, rb⟩ := h
    exact ⟨a, sMaybe, _, ev, tv, by show callW sMaybe = false; decide +kernel⟩
  | both b c =>
    unfold RepT at h
    obtain ⟨a, p, q, xs, ys, ev, tv, tp, rb, tq, rc⟩ := h
    exact ⟨a, sBoth, _, ev, tv, by show callW sBoth = false; decide +kernel⟩
def spCalls (K : PySem.W.Frag) : Sp := fun vs H Q _ => ∃ (a : Addr) (b : List Tr) (xs : List V), vs = [.ref a] ∧ TupV K H a xs ∧ RepB K H b xs ∧ (pio b 0).length ≤ 1000 ∧ (∀ p ∈ pio b 0, isPartT p.1 = true) ∧
  ∀ l ys H', Same H H' → H' l = some (.lst ys) → RepB K H' (csOf (pio b 0)) ys → Q (.ref l) H'
theorem ok_calls (T : Txt K mg) (D : Def K mg "calls_in_order" s_calls_in_order ["block"]) (c_parts_in_order : CalD P w K mg base 4 "parts_in_order" (spPio K 2) [.int 0]) (c_is_call : Cal P w K mg base 1 "is_call" (spIsCall K)) : Cal P w K mg base 5 "calls_in_order" (spCalls K) := by
  refine cal_of D sc_calls_in_order (fun vs H Q E h => ?_) (fun f cdv A outer s H vs Q E hr h => ?_)
  · obtain ⟨a, b, xs, rfl, _⟩ := h
    rfl
  · obtain ⟨a, b, xs, rfl, tv, rb, hl, hp, q⟩ := h
    refine ⟨_, (pss_one (ps_ret (pe_lc (own := [("part", 1), ("_", 2)]) (g := gTup _ 2 (gCons (gName 1) (gCons (gName 2) (gNil)))) (by rfl) sc_calls_in_order.nd (pi_list (pe_fD c_parts_in_order hr (by decide) (by rfl) (pa_cons (pv 0) pa_nil))) (blkOk_by (own := [("part", 1), ("_", 2)]) (N := N_calls_in_order) (sc := defScope s_calls_in_order) (by decide +kernel)) (fun _ _ _ _ _ => pg_tup rfl (pgs_cons (pg_name (i := 1) sc_calls_in_order.nd rfl (Or.inl rfl)) (pgs_cons (pg_name (i := 2) sc_calls_in_order.nd rfl (Or.inl rfl)) (pgs_nil)))) (fun _ _ _ _ _ => (pts_one (pt_val (pe_f c_is_call hr (by decide) (by rfl) (pa_cons (pv 1) pa_nil))))) (fun _ _ _ _ _ => (pv 1))))), ?_⟩
    walk_at "rd"
    refine g_lc (g_ilist ?_)
    walk_at "rd"
    refine ⟨a, 0, b, xs, rfl, by omega, tv, rb, hl, fun l ys H1 S1 hl0 hl1 pr => ?_⟩
    have hlen := pr.len
    refine ⟨l, rfl, ⟨ys, SqL.of hl1⟩, fun L hL => ?_⟩
    refine lc_list (K := K) (a := l) (xs := ys) (fun i H' => ∃ acc, Same H1 H' ∧ H' L = some (.lst acc) ∧ acc.length ≤ i ∧ RepB K H1 (csOf ((pio b 0).take i)) acc) ⟨[], same_new hL, upd_same, Nat.le_refl _, by rw [List.take_zero]; unfold csOf; unfold RepB; rfl⟩ (fun i H' _ ⟨_, e, _⟩ => SqL.of (e _ _ hl1)) ?_ ?_
    · rintro i x H2 hx ⟨acc, S2, hL2, hac, ra⟩
      obtain ⟨t, n, p, v, ht, rfl, tp, rt⟩ := pr.get hx
      have hi : i < (pio b 0).length := (List.getElem?_eq_some_iff.mp ht).1
      have hpt := hp (t, n) (List.mem_of_getElem? ht)
      obtain ⟨pa, z, zs, rfl, tz, ez⟩ := rt.head hpt
      refine g_tup2 (TupV.ext S2 tp).sq ?_
      refine ⟨rfl, ?_⟩
      walk_at "rd"
      refine ⟨pa, z, zs, rfl, TupV.ext S2 tz, fun H3 S3 => ?_⟩
      walk_at "rd"
      have hL3 := S3 _ _ hL2
      have S13 := Same.trans S2 S3
      rw [ez, csOf_snoc ht]
      cases ec : isCallT t
      · walk_at "rd"
        exact ⟨acc, S13, hL3, Nat.le_succ_of_le hac, by simpa using ra⟩
      · walk_at "rd"
        exact ⟨acc, hL3, small1000 (by omega), _, same_upd hL S13, upd_same, by simp; omega, by rw [if_pos rfl]; exact ra.app (RepB.one rt)⟩
    · rintro H2 ⟨acc, S2, hL2, hac, ra⟩
      rw [hlen, List.take_length] at ra
      exact q L acc H2 (Same.trans S1 S2) hL2 (RepB.kp (Kp.of S2) _ _ ra)
end
end K2

namespace K2
open PySem PySem.Spec PyProof.Rows L2 Mc
section
variable {P : Program} {w : World} {K : PySem.W.Frag} {mg : Str → Option Value} {base : Heap}
local macro_rules | `(tactic| walk_at "rd1") => `(tactic| first
  | with_reducible refine g_seq ?_
  | with_reducible refine g_asg ?_
  | with_reducible refine g_name ?_
  | with_reducible refine g_c ?_
  | with_reducible refine g_op ?_
  | with_reducible refine g_ifS ?_
  | with_reducible refine g_if ?_
  | with_reducible refine g_test ?_
  | with_reducible refine g_B ?_
  | with_reducible refine g_bl ?_
  | with_reducible refine g_blV ?_
  | with_reducible refine g_not ?_
  | with_reducible refine g_and ?_
  | with_reducible refine g_or ?_
  | with_reducible refine g_notV ?_
  | with_reducible refine g_andV ?_
  | with_reducible refine g_orV ?_
  | with_reducible refine g_ret ?_
  | with_reducible refine g_drop ?_
  | with_reducible refine g_next ?_
  | with_reducible refine g_retN ?_
  | with_reducible refine g_call ?_
  | with_reducible refine g_cb ?_
  | with_reducible refine g_cons ?_
  | with_reducible refine g_nil ?_
  | with_reducible refine g_tup ?_
  | with_reducible refine g_lst ?_
  | with_reducible refine g_prop ?_
  | with_reducible refine g_fld ?_
  | with_reducible refine g_meth ?_
  | with_reducible refine g_chain ?_
  | with_reducible refine g_yes ?_
  | with_reducible refine g_make ?_
  | with_reducible refine g_makeK ?_
  | with_reducible refine g_gsub ?_
  | with_reducible refine g_sfld ?_
  | with_reducible refine g_un ?_
  | with_reducible refine g_bm ?_
  | with_reducible refine g_iteT ?_
  | with_reducible refine g_iteF ?_
  | with_reducible refine g_I0 ?_
  | with_reducible refine g_add ?_
  | with_reducible refine g_sub ?_
  | ((with_reducible refine' g_var ?hv ?_); (case hv => rfl))
  | ((with_reducible refine g_eq ?hv ?_); (case hv => rfl))
  | ((with_reducible refine g_ne ?hv ?_); (case hv => rfl)))
local macro_rules | `(tactic| walk_at "rd") => `(tactic| repeat (walk_at "rd1"))

local macro_rules | `(tactic| walk_at "ty") => `(tactic| first | exact .non | exact .bl _ | exact .int _ | exact .str _ | exact .lst (by assumption) | exact .tup (by assumption) | exact .dK (by assumption) | exact .kTup (by assumption) (by assumption))
local macro_rules | `(tactic| walk_at "isiF") => `(tactic| refine g_isi (by walk_at "ty") (b := false) (by decide +kernel) ?_)
local macro_rules | `(tactic| walk_at "isiT") => `(tactic| refine g_isi (by walk_at "ty") (b := true) (by decide +kernel) ?_)

structure Prps (P : Program) (w : World) (K : PySem.W.Frag) (mg : Str → Option Value) (base : Heap) (C : Addr) : Prop where
  name : Prp P w K mg base 1 C "name" (getSp C "_name")
  limit : Prp P w K mg base 1 C "limit" (getSp C "_limit")
  tries : Prp P w K mg base 1 C "tries" (getSp C "_tries")
  pauses : Prp P w K mg base 1 C "pauses" (getSp C "_pauses")
  early : Prp P w K mg base 1 C "early" (getSp C "_early")
def spanQ (q : Pol) : Int := match q.e with
  | none => q.t * q.l + q.ps.sum
  | some i => (q.t - 1) * i + q.l
theorem lk5' {q : Pol} {pp ga : Addr} {i : Int} (he : q.e = some i) : (q.fs pp ga).lookup ("_early" : Str) = some (.int i) := by
  show (pfs _ _ _ _ (eV q.e) _ _).lookup ("_early" : Str) = _
  rw [he]; rfl
def spCallSpan (K : PySem.W.Frag) (C : Addr) : Sp := fun vs H Q _ => ∃ (a : Addr) (q : Pol), vs = [.ref a] ∧ PolAt K C H a q ∧ q.ok ∧ Q (.int (spanQ q)) H
theorem ok_call_span {C : Addr} (T : Txt K mg) (D : Def K mg "call_span" s_call_span ["policy"]) (PR : Prps P w K mg base C) : Cal P w K mg base 3 "call_span" (spCallSpan K C) := by
  have pr_early := PR.early
  have pr_limit := PR.limit
  have pr_tries := PR.tries
  have pr_pauses := PR.pauses
  refine cal_of D sc_call_span (fun vs H Q E h => ?_) (fun f cdv A outer s H vs Q E hr h => ?_)
  · obtain ⟨a, q, rfl, _⟩ := h
    rfl
  · obtain ⟨a, q, rfl, pa, ok, k⟩ := h
    obtain ⟨dx, pp, ga, ha, ht⟩ := pa
    refine ⟨_, (pss_cons (ps_if (pt_cmpR op_notN (pe_pr pr_early hr (by decide) (pv 0)) pe_non (nomark _)) (pss_one (ps_ret (pe_op op_add (pe_op op_mul (pe_op op_sub (pe_pr pr_tries hr (by decide) (pv 0)) pe_int) (pe_pr pr_early hr (by decide) (pv 0))) (pe_pr pr_limit hr (by decide) (pv 0))))) pss_nil)
      (pss_one (ps_ret (pe_op op_add (pe_op op_mul (pe_pr pr_tries hr (by decide) (pv 0)) (pe_pr pr_limit hr (by decide) (pv 0))) (pe_callB (cr_sumA (by rfl)) (by rfl) T.n_sum (by decide +kernel) (pa_cons (pe_pr pr_pauses hr (by decide) (pv 0)) pa_nil)))))), ?_⟩
    walk_at "rd"
    refine ⟨a, dx, _, rfl, ha, a, dx, _, _, rfl, ha, lk5, ?_⟩
    walk_at "rd"
    refine ⟨rfl, ?_⟩
    walk_at "rd"
    cases he : q.e with
    | none =>
      show (if false = true then _ else _)
      walk_at "rd"
      refine ⟨a, dx, _, rfl, ha, a, dx, _, _, rfl, ha, lk3, ?_⟩
      walk_at "rd"
      refine ⟨a, dx, _, rfl, ha, a, dx, _, _, rfl, ha, lk2, ?_⟩
      walk_at "rd"
      refine g_I (.inl ⟨by have := ok.t1; omega, by have := ok.t2; omega⟩) ?_
      walk_at "rd"
      refine ⟨a, dx, _, rfl, ha, a, dx, _, _, rfl, ha, lk4, ?_⟩
      walk_at "rd"
      refine .inr ⟨pp, q.ps, rfl, ht.p.sq, ?_⟩
      walk_at "rd"
      have e : spanQ q = q.t * q.l + q.ps.sum := by unfold spanQ; rw [he]
      rw [← e]
      exact k
    | some i =>
      show (if true = true then _ else _)
      walk_at "rd"
      refine ⟨a, dx, _, rfl, ha, a, dx, _, _, rfl, ha, lk3, ?_⟩
      walk_at "rd"
      refine ⟨a, dx, _, rfl, ha, a, dx, _, _, rfl, ha, (by rw [lk5' he]), ?_⟩
      walk_at "rd"
      refine g_I (.inl ⟨by have := ok.t1; omega, by have := ok.t2; omega⟩) ?_
      walk_at "rd"
      refine ⟨a, dx, _, rfl, ha, a, dx, _, _, rfl, ha, lk2, ?_⟩
      walk_at "rd"
      have e : spanQ q = (q.t - 1) * i + q.l := by unfold spanQ; rw [he]
      rw [← e]
      exact k
end
end K2

namespace K2
open PySem PySem.Spec PyProof.Rows L2 Mc
section
variable {P : Program} {w : World} {K : PySem.W.Frag} {mg : Str → Option Value} {base : Heap}
local macro_rules | `(tactic| walk_at "rd1") => `(tactic| first
  | with_reducible refine g_seq ?_
  | with_reducible refine g_asg ?_
  | with_reducible refine g_name ?_
  | with_reducible refine g_c ?_
  | with_reducible refine g_op ?_
  | with_reducible refine g_ifS ?_
  | with_reducible refine g_if ?_
  | with_reducible refine g_test ?_
  | with_reducible refine g_B ?_
  | with_reducible refine g_bl ?_
  | with_reducible refine g_blV ?_
  | with_reducible refine g_not ?_
  | with_reducible refine g_and ?_
  | with_reducible refine g_or ?_
  | with_reducible refine g_notV ?_
  | with_reducible refine g_andV ?_
  | with_reducible refine g_orV ?_
  | with_reducible refine g_ret ?_
  | with_reducible refine g_drop ?_
  | with_reducible refine g_next ?_
  | with_reducible refine g_retN ?_
  | with_reducible refine g_call ?_
  | with_reducible refine g_cb ?_
  | with_reducible refine g_cons ?_
  | with_reducible refine g_nil ?_
  | with_reducible refine g_tup ?_
  | with_reducible refine g_lst ?_
  | with_reducible refine g_prop ?_
  | with_reducible refine g_fld ?_
  | with_reducible refine g_meth ?_
  | with_reducible refine g_chain ?_
  | with_reducible refine g_yes ?_
  | with_reducible refine g_make ?_
  | with_reducible refine g_makeK ?_
  | with_reducible refine g_gsub ?_
  | with_reducible refine g_sfld ?_
  | with_reducible refine g_un ?_
  | with_reducible refine g_bm ?_
  | with_reducible refine g_iteT ?_
  | with_reducible refine g_iteF ?_
  | with_reducible refine g_I0 ?_
  | with_reducible refine g_add ?_
  | with_reducible refine g_sub ?_
  | ((with_reducible refine' g_var ?hv ?_); (case hv => rfl))
  | ((with_reducible refine g_eq ?hv ?_); (case hv => rfl))
  | ((with_reducible refine g_ne ?hv ?_); (case hv => rfl)))
local macro_rules | `(tactic| walk_at "rd") => `(tactic| repeat (walk_at "rd1"))

local macro_rules | `(tactic| walk_at "ty") => `(tactic| first | exact .non | exact .bl _ | exact .int _ | exact .str _ | exact .lst (by assumption) | exact .tup (by assumption) | exact .dK (by assumption) | exact .kTup (by assumption) (by assumption))
local macro_rules | `(tactic| walk_at "isiF") => `(tactic| refine g_isi (by walk_at "ty") (b := false) (by decide +kernel) ?_)
local macro_rules | `(tactic| walk_at "isiT") => `(tactic| refine g_isi (by walk_at "ty") (b := true) (by decide +kernel) ?_)

/-- policies by their names -/
abbrev Ps := List (Addr × Pol)
def PDk (ps : Ps) : List (Key × V) := ps.map fun x => (Sum.inr x.2.z, V.ref x.1)
def polOf (ps : Ps) (p : Str) : Option (Addr × Pol) := ps.find? fun x => decide (x.2.z = p)
def hasP (ps : Ps) (p : Str) : Bool := (polOf ps p).isSome
def spOf (ps : Ps) (p : Str) : Int := match polOf ps p with
  | some x => spanQ x.2
  | none => 0
theorem val_pol (p : Str) : ∀ ps : Ps, valV (PDk ps) (Sum.inr p) = (polOf ps p).map fun x => V.ref x.1
  | [] => rfl
  | x :: ps => by
    by_cases h : x.2.z = p
    · have e1 : valV (PDk (x :: ps)) (Sum.inr p) = some (V.ref x.1) := valV_pos (p := (Sum.inr x.2.z, V.ref x.1)) (by rw [h])
      have e2 : polOf (x :: ps) p = some x := by simp [polOf, h]
      rw [e1, e2]; rfl
    · have e1 : valV (PDk (x :: ps)) (Sum.inr p) = valV (PDk ps) (Sum.inr p) := valV_neg (p := (Sum.inr x.2.z, V.ref x.1)) (fun z => h (Sum.inr.inj z))
      have e2 : polOf (x :: ps) p = polOf ps p := by simp [polOf, h]
      rw [e1, e2]
      exact val_pol p ps
def PolsAt (K : PySem.W.Frag) (C : Addr) (H : Hp) (ps : Ps) : Prop := ∀ x ∈ ps, PolAt K C H x.1 x.2 ∧ x.2.ok
theorem PolsAt.ext {C : Addr} {H H' : Hp} {ps : Ps} (e : Same H H') (h : PolsAt K C H ps) : PolsAt K C H' ps := fun x hx => ⟨(h x hx).1.ext e, (h x hx).2⟩
def PD (K : PySem.W.Frag) (C : Addr) (H : Hp) (d : Addr) (ps : Ps) : Prop := H d = some (.dK (PDk ps)) ∧ PolsAt K C H ps
theorem PD.ext {C d : Addr} {H H' : Hp} {ps : Ps} (e : Same H H') (h : PD K C H d ps) : PD K C H' d ps := ⟨e _ _ h.1, h.2.ext e⟩
theorem polOf_mem {ps : Ps} {p : Str} {x : Addr × Pol} (h : polOf ps p = some x) : x ∈ ps ∧ x.2.z = p := by
  unfold polOf at h
  exact ⟨List.mem_of_find?_eq_some h, by have := List.find?_some h; simpa using this⟩
section
variable (f : Str → Int)
mutual
def spanT : Tr → Int
  | .leaf (.run _ b) => b
  | .leaf .risk => 0
  | .leaf (.call _ _ p) => f p
  | .odd => 0
  | .may b => spanB b
  | .both b c => if spanB b ≤ spanB c then spanB c else spanB b
def spanB : List Tr → Int
  | [] => 0
  | t :: b => spanT t + spanB b
end
end
theorem g_dget {td ty : TE} {σ : L2.St} {H : Hp} {Q : VK} (q : td σ H fun x H1 => ty σ H1 fun y H2 => ∃ a v, x = .ref a ∧ DGet H2 a y (some v) ∧ Q v H2) : tDGet td ty σ H Q := q
theorem spanB_sum (f : Str → Int) : ∀ b : List Tr, (b.map (spanT f)).sum = spanB f b
  | [] => by simp [spanB]
  | t :: b => by simp [spanB, spanB_sum f b]
def goodT (P : Str → Bool) : Tr → Bool
  | .leaf (.call _ _ p) => P p
  | .odd => false
  | _ => true
def FineP (P : Str → Bool) (l : List (Tr × Nat)) : Prop := ∀ p ∈ l, goodT P p.1 = true ∧ (1 < p.2 → holdsT p.1 = false)
theorem FineP.mem {P : Str → Bool} {b : List Tr} {t : Tr} {i n : Nat} (h : b[i]? = some t) (f : FineP P (pio b n)) : FineP P (one t n) := fun p hp => by
  refine f p ?_
  have e : pio b n = pio (b.take (i + 1)) n ++ pio (b.drop (i + 1)) n := by rw [← pio_app, List.take_append_drop]
  rw [e, pio_take h]
  exact List.mem_append_left _ (List.mem_append_right _ hp)
theorem FineP.in {P : Str → Bool} {t : Tr} {b : List Tr} {n j : Nat} (f : FineP P (one t n)) (h : (blocks t)[j]? = some b) : n ≤ 1 ∧ FineP P (pio b (n + 1)) := by
  have ht : holdsT t = true := by cases t <;> first | rfl | simp [blocks] at h
  have hn : n ≤ 1 := by
    refine Nat.not_lt.mp fun z => ?_
    have := (f (t, n) (by unfold one; exact List.mem_cons_self ..)).2 z
    rw [ht] at this
    cases this
  refine ⟨hn, fun p hp => f p ?_⟩
  unfold one
  rw [if_pos hn, kids_blocks]
  exact List.mem_cons_of_mem _ (List.mem_flatMap.mpr ⟨b, List.mem_of_getElem? h, hp⟩)
theorem len_pio : ∀ (b : List Tr) (n : Nat), b.length ≤ (pio b n).length
  | [], n => Nat.zero_le _
  | t :: b, n => by
    rw [pio_cons, List.length_append]
    have := len_pio b n
    unfold one
    simp only [List.length_cons]
    omega
def spPS (K : PySem.W.Frag) (C : Addr) (m : Nat) : Sp := fun vs H Q _ => ∃ (v : V) (d : Addr) (t : Tr) (n : Nat) (ps : Ps), vs = [v, .ref d] ∧ RepT K H t v ∧ 2 ≤ n + m ∧ FineP (hasP ps) (one t n) ∧ (one t n).length ≤ 1000 ∧ PD K C H d ps ∧ ∀ H', Same H H' → Q (.int (spanT (spOf ps) t)) H'
def spBS (K : PySem.W.Frag) (C : Addr) (m : Nat) : Sp := fun vs H Q _ => ∃ (a d : Addr) (b : List Tr) (xs : List V) (n : Nat) (ps : Ps), vs = [.ref a, .ref d] ∧ TupV K H a xs ∧ RepB K H b xs ∧ 2 ≤ n + m ∧ FineP (hasP ps) (pio b n) ∧ (pio b n).length ≤ 1000 ∧ PD K C H d ps ∧ ∀ H', Same H H' → Q (.int (spanB (spOf ps) b)) H'
theorem ok_bs {C : Addr} {k m : Nat} (T : Txt K mg) (D : Def K mg "block_span" s_block_span ["block", "policies"]) (c_part_span : Cal P w K mg base k "part_span" (spPS K C m)) : Cal P w K mg base (k + 1) "block_span" (spBS K C m) := by
  refine cal_of D sc_block_span (fun vs H Q E h => ?_) (fun f cdv A outer s H vs Q E hr h => ?_)
  · obtain ⟨a, d, b, xs, n, ps, rfl, _⟩ := h
    rfl
  · obtain ⟨a, d, b, xs, n, ps, rfl, tv, rb, hn, fp, hl, pd, q⟩ := h
    refine ⟨_, (pss_one (ps_ret (pe_callB (cr_sumA (by rfl)) (by rfl) T.n_sum (by decide +kernel) (pa_cons (pe_lc (own := [("part", 2)]) (g := gName 2) (by rfl) sc_block_span.nd (pi_tup (pv 0)) (blkOk_by (own := [("part", 2)]) (N := N_block_span) (sc := defScope s_block_span) (by decide +kernel)) (fun _ _ _ _ _ => pg_name (i := 2) sc_block_span.nd rfl (Or.inl rfl)) (fun _ _ _ _ _ => pts_nil) (fun _ _ _ _ _ => (pe_f c_part_span hr (Nat.le_refl _) (by rfl) (pa_cons (pv 2) (pa_cons (pv 1) pa_nil))))) pa_nil)))), ?_⟩
    walk_at "rd"
    refine g_lc (g_itup ?_)
    walk_at "rd"
    refine ⟨a, rfl, ⟨xs, tv.sq⟩, fun L hL => ?_⟩
    have hbl := len_pio b n
    refine lc_tup (K := K) (a := a) (xs := xs) (fun i H' => Same H H' ∧ H' L = some (.lst ((b.take i).map fun t => V.int (spanT (spOf ps) t)))) ⟨same_new hL, by rw [upd_same]; rfl⟩ (fun i H' _ e => (TupV.ext e.1 tv).sq) ?_ ?_
    · rintro i x H1 hx ⟨S1, h1⟩
      obtain ⟨t, ht, rt⟩ := rb.get hx
      have hi : i < b.length := (List.getElem?_eq_some_iff.mp ht).1
      walk_at "rd"
      refine ⟨rfl, ?_⟩
      walk_at "rd"
      have hlen : (one t n).length ≤ 1000 := by
        refine Nat.le_trans ?_ hl
        have e : pio b n = pio (b.take (i + 1)) n ++ pio (b.drop (i + 1)) n := by rw [← pio_app, List.take_append_drop]
        rw [e, pio_take ht, List.length_append, List.length_append]
        omega
      refine ⟨x, d, t, n, ps, rfl, RepT.kp (Kp.of S1) _ _ rt, hn, fp.mem ht, hlen, pd.ext S1, fun H2 S2 => ?_⟩
      refine ⟨_, S2 _ _ h1, small1000 (by rw [List.length_map, List.length_take]; omega), same_upd hL (Same.trans S1 S2), ?_⟩
      rw [upd_same]
      exact congrArg (fun l => some (HO.lst l)) (take_map (fun t => V.int (spanT (spOf ps) t)) ht)
    · rintro H1 ⟨S1, h1⟩
      refine .inl ⟨L, b.map (spanT (spOf ps)), rfl, SqL.of ?_, ?_⟩
      · rw [h1, ← rb.len, List.take_length, List.map_map]
        rfl
      · rw [spanB_sum]
        exact q _ S1
theorem spanT_max (f : Str → Int) (t : Tr) (hd : holdsT t = true) : ∀ i : Int, i ∈ (blocks t).map (spanB f) → (∀ y ∈ (blocks t).map (spanB f), y ≤ i) → i = spanT f t := fun i hi hy => by
  cases t with
  | leaf i => cases hd
  | odd => cases hd
  | may b =>
    simp only [blocks, List.map_cons, List.map_nil, List.mem_cons, List.not_mem_nil, or_false] at hi
    rw [hi]; unfold spanT; rfl
  | both b c =>
    simp only [blocks, List.map_cons, List.map_nil, List.mem_cons, List.not_mem_nil, or_false, forall_eq_or_imp, forall_eq] at hi hy
    unfold spanT
    split <;> omega

theorem ok_ps {C : Addr} {k m : Nat} {sb : Sp} (T : Txt K mg) (D : Def K mg "part_span" s_part_span ["part", "policies"]) (hk : 3 ≤ k) (c_block_span : Cal P w K mg base k "block_span" sb) (hS : m = 0 ∨ sb = spBS K C (m - 1))
    (c_is_call : Cal P w K mg base 1 "is_call" (spIsCall K)) (c_call_span : Cal P w K mg base 3 "call_span" (spCallSpan K C)) : Cal P w K mg base (k + 1) "part_span" (spPS K C m) := by
  refine cal_of D sc_part_span (fun vs H Q E h => ?_) (fun f cdv A outer s H vs Q E hr h => ?_)
  · obtain ⟨v, d, t, n, ps, rfl, _⟩ := h
    rfl
  · obtain ⟨v, d, t, n, ps, rfl, rt, hn, fp, hl, pd, q⟩ := h
    have hr1 := hr.mono (show 1 ≤ k by omega)
    have hr3 := hr.mono hk
    have gt := (fp (t, n) (by unfold one; exact List.mem_cons_self ..)).1
    have hpt : isPartT t = true := by cases t <;> first | rfl | cases gt
    refine ⟨_, (pss_cons (ps_if (pt_cmpR op_eq (pe_ix ix_tup (pv 0) pe_int (fun _ _ => rfl)) pe_str (nomark _)) (pss_one (ps_ret (pe_ix ix_tup (pv 0) pe_int (fun _ _ => rfl)))) pss_nil)
      (pss_cons (ps_if (pt_cmpR op_eq (pe_ix ix_tup (pv 0) pe_int (fun _ _ => rfl)) pe_str (nomark _)) (pss_one (ps_ret pe_int)) pss_nil)
      (pss_cons (ps_if (pt_val (pe_f c_is_call hr1 (by decide) (by rfl) (pa_cons (pv 0) pa_nil))) (pss_one (ps_ret (pe_f c_call_span hr3 (by decide) (by rfl) (pa_cons (pe_dget (Nat.lt_of_le_of_lt (Nat.add_le_add_left (by decide : 1 ≤ 64) _) hr.units) (pv 1) (pe_ix ix_tup (pv 0) pe_int (fun _ _ => rfl)) (fun _ _ => rfl)) pa_nil)))) pss_nil)
      (pss_one (ps_ret (pe_callB (cr_max (by rfl)) (by rfl) T.n_max (by decide +kernel) (pa_cons (pe_lc (own := [("inner", 2)]) (g := gName 2) (by rfl) sc_part_span.nd (pi_tup (pe_slice sl_tup (pv 0) (po_some pe_int) po_none)) (blkOk_by (own := [("inner", 2)]) (N := N_part_span) (sc := defScope s_part_span) (by decide +kernel)) (fun _ _ _ _ _ => pg_name (i := 2) sc_part_span.nd rfl (Or.inl rfl)) (fun _ _ _ _ _ => pts_nil) (fun _ _ _ _ _ => (pe_f c_block_span hr (Nat.le_refl _) (by rfl) (pa_cons (pv 2) (pa_cons (pv 1) pa_nil))))) pa_nil))))))), ?_⟩
    by_cases hd : holdsT t = true
    · have hs := spanT_max (spOf ps) t hd
      have h2 : 0 < (blocks t).length ∧ (blocks t).length ≤ 2 := by cases t <;> first | (cases hd; done) | simp [blocks]
      obtain ⟨a, z, cs, rfl, tv, hz, hcl, hcs⟩ := rt.held hd
      have hz1 : decide (V.str z = V.str sRun) = false := by rcases hz with rfl | rfl <;> decide +kernel
      have hz2 : decide (V.str z = V.str sRisk) = false := by rcases hz with rfl | rfl <;> decide +kernel
      have hz3 : callW z = false := by rcases hz with rfl | rfl <;> decide +kernel
      walk_at "rd"
      refine g_ixT tv.sq (v := .str z) (atI_nat (j := 0) rfl) ?_
      walk_at "rd"
      refine g_andC0 hz1 ?_
      walk_at "rd"
      refine g_ixT tv.sq (v := .str z) (atI_nat (j := 0) rfl) ?_
      walk_at "rd"
      refine g_andC0 hz2 ?_
      walk_at "rd"
      refine ⟨a, z, _, rfl, tv, fun H1 S1 => ?_⟩
      rw [hz3]
      walk_at "rd"
      refine g_lc (g_itup (g_sl1 ?_))
      walk_at "rd"
      have tv1 := TupV.ext S1 tv
      refine ⟨a, _, rfl, tv1.sq, ?_, fun u hu => ?_⟩
      · intro z
        have z1 := z.1
        rw [show (V.str _ :: cs.map V.ref).length = (cs.map V.ref).length + 1 from rfl, six1] at z1
        cases z1
      rw [cut1]
      have tu : SqT K (upd H1 u (.tup (cs.map V.ref))) u (cs.map V.ref) := SqT.of upd_same
      have S2 : Same H (upd H1 u (.tup (cs.map V.ref))) := Same.trans S1 (same_new hu)
      generalize (upd H1 u (.tup (cs.map V.ref))) = H2 at tu S2 ⊢
      refine ⟨u, rfl, ⟨_, tu⟩, fun L hL => ?_⟩
      refine lc_tup (K := K) (a := u) (xs := cs.map V.ref) (fun j H' => Same H2 H' ∧ H' L = some (.lst (((blocks t).take j).map fun b => V.int (spanB (spOf ps) b)))) ⟨same_new hL, by rw [upd_same]; rfl⟩ (fun i H' _ e => sqT_ext e.1 tu) ?_ ?_
      · rintro j y H3 hy ⟨S3, h3⟩
        rw [List.getElem?_map] at hy
        obtain ⟨c, hc, rfl⟩ := Option.map_eq_some_iff.mp hy
        obtain ⟨b', xs', hb', tc, rc⟩ := hcs j c hc
        obtain ⟨hn1, fp'⟩ := fp.in hb'
        have em := hS.resolve_left (by omega)
        have SH := Same.trans S2 S3
        have hlen : (pio b' (n + 1)).length ≤ 1000 := by
          have hle := fm_le (bs := blocks t) (j := j + 1) (n := n + 1)
          rw [fm_take hb', List.length_append] at hle
          unfold one at hl
          rw [if_pos hn1, kids_blocks, List.length_cons] at hl
          omega
        have hj : j < 2 := by
          have := (List.getElem?_eq_some_iff.mp hb').1
          omega
        walk_at "rd"
        refine ⟨rfl, ?_⟩
        walk_at "rd"
        rw [em]
        refine ⟨c, d, b', xs', n + 1, ps, rfl, TupV.ext SH tc, RepB.kp (Kp.of SH) _ _ rc, by omega, fp', hlen, pd.ext SH, fun H4 S4 => ?_⟩
        refine ⟨_, S4 _ _ h3, small1000 (by rw [List.length_map, List.length_take]; omega), same_upd hL (Same.trans S3 S4), ?_⟩
        rw [upd_same]
        exact congrArg (fun l => some (HO.lst l)) (take_map (fun t => V.int (spanB (spOf ps) t)) hb')
      · rintro H3 ⟨S3, h3⟩
        rw [List.length_map, hcl, List.take_length] at h3
        walk_at "rd"
        refine ⟨L, (blocks t).map (spanB (spOf ps)), rfl, SqL.of (by rw [h3, List.map_map]; rfl), by rw [List.length_map]; exact h2.1, fun i hi hy => ?_⟩
        rw [hs i hi hy]
        exact q _ (Same.trans S2 S3)
    clear hpt
    match t, rt, fp, hl, gt, q, hd with
    | .odd, rt, fp, hl, gt, q, hd => cases gt
    | .leaf (.run lo hi), rt, fp, hl, gt, q, hd =>
      unfold RepT at rt
      obtain ⟨_, a, rfl, tv⟩ := rt
      walk_at "rd"
      refine g_ixT tv.sq (v := .str sRun) (atI_nat (j := 0) rfl) ?_
      walk_at "rd"
      refine g_andC (by decide +kernel) ?_
      walk_at "rd"
      refine g_ixT tv.sq (v := .int hi) (atI_nat (j := 2) rfl) ?_
      have q := q H (Same.refl H)
      unfold spanT at q
      exact q
    | .leaf .risk, rt, fp, hl, gt, q, hd =>
      unfold RepT at rt
      obtain ⟨_, a, rfl, tv⟩ := rt
      walk_at "rd"
      refine g_ixT tv.sq (v := .str sRisk) (atI_nat (j := 0) rfl) ?_
      walk_at "rd"
      refine g_andC0 (by decide +kernel) ?_
      walk_at "rd"
      refine g_ixT tv.sq (v := .str sRisk) (atI_nat (j := 0) rfl) ?_
      walk_at "rd"
      refine g_andC (by decide +kernel) ?_
      walk_at "rd"
      have q := q H (Same.refl H)
      unfold spanT at q
      exact q
    | .leaf (.call wd z p), rt, fp, hl, gt, q, hd =>
      unfold RepT at rt
      obtain ⟨_, a, rfl, tv⟩ := rt
      walk_at "rd"
      refine g_ixT tv.sq (v := .str (wordC wd)) (atI_nat (j := 0) rfl) ?_
      walk_at "rd"
      refine g_andC0 (by cases wd <;> decide +kernel) ?_
      walk_at "rd"
      refine g_ixT tv.sq (v := .str (wordC wd)) (atI_nat (j := 0) rfl) ?_
      walk_at "rd"
      refine g_andC0 (by cases wd <;> decide +kernel) ?_
      walk_at "rd"
      refine ⟨a, wordC wd, _, rfl, tv, fun H1 S1 => ?_⟩
      rw [show callW (wordC wd) = true by cases wd <;> decide +kernel]
      walk_at "rd"
      refine g_dget ?_
      walk_at "rd"
      refine g_ixT (TupV.ext S1 tv).sq (v := .str p) (atI_nat (j := 2) rfl) ?_
      obtain ⟨hpd, hpa⟩ := pd.ext S1
      have hs : (polOf ps p).isSome = true := gt
      obtain ⟨x, hx⟩ := Option.isSome_iff_exists.mp hs
      refine ⟨d, V.ref x.1, rfl, ?_, ?_⟩
      · have e := val_pol p ps
        rw [hx] at e
        have := DGet.k (k := Sum.inr p) hpd
        rw [e] at this
        exact this
      walk_at "rd"
      refine ⟨x.1, x.2, rfl, (hpa x (polOf_mem hx).1).1, (hpa x (polOf_mem hx).1).2, ?_⟩
      have q := q H1 S1
      unfold spanT spOf at q
      rw [hx] at q
      exact q
    | .may b, rt, fp, hl, gt, q, hd => exact absurd rfl hd
    | .both b c, rt, fp, hl, gt, q, hd => exact absurd rfl hd
end
end K2

namespace K2
open PySem PySem.Spec PyProof.Rows L2 Mc
/-! ### what is wrong in a block -/
/-- the first pair that is wrong -/
def wr : List (Tr × Nat) → Nat → Option Nat
  | [], _ => none
  | p :: l, c => if c = 12 ∨ (1 < p.2 ∧ holdsT p.1 = true) ∨ isPartT p.1 = false then some c else wr l (c + 1)
theorem wr_app : ∀ (l m : List (Tr × Nat)) (c : Nat), wr (l ++ m) c = if (wr l c).isSome then wr l c else wr m (c + l.length)
  | [], m, c => by simp [wr]
  | p :: l, m, c => by
    have e : c + (p :: l).length = c + 1 + l.length := by simp only [List.length_cons]; omega
    rw [e]
    by_cases h : c = 12 ∨ (1 < p.2 ∧ holdsT p.1 = true) ∨ isPartT p.1 = false
    · have e1 : wr (p :: l) c = some c := by simp only [wr]; rw [if_pos h]
      have e2 : wr (p :: l ++ m) c = some c := by show wr (p :: (l ++ m)) c = _; simp only [wr]; rw [if_pos h]
      rw [e1, e2]; rfl
    · have e1 : wr (p :: l) c = wr l (c + 1) := by simp only [wr]; rw [if_neg h]
      have e2 : wr (p :: l ++ m) c = wr (l ++ m) (c + 1) := by show wr (p :: (l ++ m)) c = _; simp only [wr]; rw [if_neg h]
      rw [e1, e2]
      exact wr_app l m (c + 1)
theorem wr_le : ∀ (l : List (Tr × Nat)) (c : Nat), wr l c = none → c ≤ 12 → c + l.length ≤ 12
  | [], c, h, hc => by simpa using hc
  | p :: l, c, h, hc => by
    simp only [wr] at h
    split at h
    · cases h
    · rename_i g
      have := wr_le l (c + 1) h (by have : c ≠ 12 := fun e => g (.inl e); omega)
      simp only [List.length_cons]; omega
theorem wr_none : ∀ (l : List (Tr × Nat)) (c : Nat), wr l c = none → ∀ p ∈ l, isPartT p.1 = true ∧ (1 < p.2 → holdsT p.1 = false)
  | [], c, h, p, hp => by cases hp
  | q :: l, c, h, p, hp => by
    simp only [wr] at h
    split at h
    · cases h
    · rename_i g
      rcases List.mem_cons.mp hp with e | e
      · rw [e]
        refine ⟨?_, fun hn => ?_⟩
        · cases hq : isPartT q.1
          · exact absurd (.inr (.inr hq)) g
          · rfl
        · cases hq : holdsT q.1
          · rfl
          · exact absurd (.inr (.inl ⟨hn, hq⟩)) g
      · exact wr_none l (c + 1) h p e
theorem wr_parts {b : List Tr} (h : wr (pio b 0) 0 = none) : ∀ p ∈ pio b 0, isPartT p.1 = true := fun p hp => (wr_none _ _ h p hp).1
theorem wr_short {b : List Tr} (h : wr (pio b 0) 0 = none) : (pio b 0).length ≤ 12 := by
  have := wr_le _ _ h (by omega)
  omega
theorem wr_yes {t : Tr} {n i : Nat} {l : List (Tr × Nat)} (h : i = 12 ∨ (1 < n ∧ holdsT t = true) ∨ isPartT t = false) : wr ((t, n) :: l) i = some i := by simp only [wr]; rw [if_pos h]
theorem wr_no {t : Tr} {n i : Nat} {l : List (Tr × Nat)} (h : ¬ (i = 12 ∨ (1 < n ∧ holdsT t = true) ∨ isPartT t = false)) : wr ((t, n) :: l) i = wr l (i + 1) := by simp only [wr]; rw [if_neg h]
def hasK (k : List (Key × V)) (z : Str) : Bool := (valV k (Sum.inr z)).isSome
/-- the first name that there is not -/
def nmErr (A P : Str → Bool) : List Tr → Option Str
  | [] => none
  | .leaf (.call _ z p) :: r => if A z = true then (if P p = true then nmErr A P r else some p) else some z
  | _ :: r => nmErr A P r
theorem nmErr_none {A P : Str → Bool} : ∀ {l : List Tr}, nmErr A P l = none → ∀ w z p, .leaf (.call w z p) ∈ l → A z = true ∧ P p = true
  | [], _, w, z, p, hm => by cases hm
  | t :: l, h, w, z, p, hm => by
    rcases List.mem_cons.mp hm with e | e
    · subst e
      simp only [nmErr] at h
      split at h
      · rename_i g
        split at h
        · rename_i g'; exact ⟨g, g'⟩
        · cases h
      · cases h
    · refine nmErr_none (l := l) ?_ w z p e
      cases t with
      | leaf i =>
        cases i with
        | call w' z' p' =>
          simp only [nmErr] at h
          split at h
          · split at h
            · exact h
            · cases h
          · cases h
        | run a b => exact h
        | risk => exact h
      | odd => exact h
      | may b => exact h
      | both b c => exact h
theorem fine_of {A P : Str → Bool} {b : List Tr} (h : wr (pio b 0) 0 = none) (h' : nmErr A P (csOf (pio b 0)) = none) : FineP P (pio b 0) := fun x hx => by
  obtain ⟨h1, h2⟩ := wr_none _ _ h x hx
  refine ⟨?_, h2⟩
  cases e : x.1 with
  | odd => rw [e] at h1; cases h1
  | may b => rfl
  | both b c => rfl
  | leaf i =>
    cases i with
    | run a b => rfl
    | risk => rfl
    | call w z p =>
      refine (nmErr_none h' w z p ?_).2
      unfold csOf
      exact List.mem_map.mpr ⟨x, List.mem_filter.mpr ⟨hx, by rw [e]; rfl⟩, e⟩
section
variable {P : Program} {w : World} {K : PySem.W.Frag} {mg : Str → Option Value} {base : Heap}
theorem ok_pio (T : Txt K mg) (D : DefP K mg) (c_holds_blocks : Cal P w K mg base 1 "holds_blocks" (spHolds K)) : CalD P w K mg base 4 "parts_in_order" (spPio K 2) [.int 0] := by
  have s0 := (pio_step (m := 0) (by decide) T D c_holds_blocks (pio_no (P := P) (w := w) (base := base) D) (.inl rfl)).1
  have s1 := (pio_step (m := 1) (by decide) T D c_holds_blocks s0 (.inr rfl)).1
  exact (pio_step (m := 2) (by decide) T D c_holds_blocks s1 (.inr rfl)).2
theorem ok_block_span {C : Addr} (T : Txt K mg) (D : Def K mg "block_span" s_block_span ["block", "policies"]) (D' : Def K mg "part_span" s_part_span ["part", "policies"]) (c_is_call : Cal P w K mg base 1 "is_call" (spIsCall K)) (c_call_span : Cal P w K mg base 3 "call_span" (spCallSpan K C)) :
    Cal P w K mg base 9 "block_span" (spBS K C 2) := by
  have b : Cal P w K mg base 3 "block_span" spNo := cal_of D sc_block_span (fun vs H Q E h => h.elim) (fun f cdv A outer s H vs Q E hr h => h.elim)
  have p0 := ok_ps (C := C) (m := 0) T D' (by decide) b (.inl rfl) c_is_call c_call_span
  have b0 := ok_bs T D p0
  have p1 := ok_ps (C := C) (m := 1) T D' (by decide) b0 (.inr rfl) c_is_call c_call_span
  have b1 := ok_bs T D p1
  have p2 := ok_ps (C := C) (m := 2) T D' (by decide) b1 (.inr rfl) c_is_call c_call_span
  exact ok_bs T D p2
end
end K2

namespace Mx
open PySem PySem.Spec PyProof.Rows L2
open PySem.W (KxsFacts kxs_mw ks_superIn)
/-! own error classes directly over any of the built-in ones -/
structure BaseK (B nI iI : String) (tl : List Value) : Prop where
  eb : ExcBaseFacts B nI iI tl
  kx : KxsFacts B iI
  st : StoreFacts B tl "object.__setattr__" "object"
theorem base_VE : BaseK "ValueError" "ValueError.__new__" "ValueError.__init__" [.type "ValueError", .type "Exception", .type "BaseException", .type "object"] := ⟨F.excBase_ValueError, PySem.W.kxs_ValueError, F.store_ValueError⟩
theorem base_LE : BaseK "LookupError" "LookupError.__new__" "LookupError.__init__" [.type "LookupError", .type "Exception", .type "BaseException", .type "object"] := ⟨F.excBase_LookupError, PySem.W.kxs_LookupError, F.store_LookupError⟩
theorem base_RE : BaseK "RuntimeError" "RuntimeError.__new__" "RuntimeError.__init__" [.type "RuntimeError", .type "Exception", .type "BaseException", .type "object"] := ⟨F.excBase_RuntimeError, PySem.W.kxs_RuntimeError, F.store_RuntimeError⟩
theorem base_OE : BaseK "OverflowError" "OverflowError.__new__" "OverflowError.__init__" [.type "OverflowError", .type "ArithmeticError", .type "Exception", .type "BaseException", .type "object"] := ⟨F.excBase_OverflowError, PySem.W.kxs_OverflowError, F.store_OverflowError⟩
structure OexB (nI : String) (tl : List Value) (K : PySem.W.Frag) (C : Addr) : Prop where
  cls : ∃ nm q N bs sn sub ab col dd k0 k1 k2 k3 k5, K.lookup C = some (excClassObj nm q C N bs tl true sn sub ab col dd k0 k1 k2 k3 k5 nI)
  sa : PySem.W.findIn K (.ref C) "__setattr__" = some (some (.builtin "object.__setattr__"))
  exC : PySem.W.subIn K (.ref C) (.type "BaseException") = some true
  tyC : PySem.W.typeIn K (.ref C) = some (.type "type")
  kC : PySem.W.keepIn K (.ref C) = true
section
variable {X : Cx} {pins : List (Addr × Obj)} {σ : L2.St} {H : Hp} {s : Shared}
/-- super().__init__("..") in an own exception's __init__, as the first statement of the body -/
theorem super_atB {B nI iI : String} {tl : List Value} (FB : BaseK B nI iI tl) {body : List Stmt} {qual file z : Str} {scope : Scope} {L f cda cc x C : Addr} {fd : FuncData} {ar : Arg} {vs : Array Value} {tf : Tok} {oc ccl cl : Value} {od cdd cld : Option Addr} {osl ccs csl : Array (Option Value)} {j : Nat} {p0 p1 p2 p3 p4 p5 : Pos} {pl : Sem Bool} {Q : Flow → Shared → Prop} {E : Value → Shared → Prop}
    (I : Inv X pins σ H s) (hE : X.env = PySem.W.ksEnv qual scope L f (.ref cda) cc) (lf : X.K.lookup f = some ⟨oc, od, .func fd, osl⟩) (hp : (fd.params.posonlyargs ++ fd.params.args).head? = some ar)
    (hN : X.N[0]? = some ar.arg) (hσ : σ[0]? = some (some (.ref x))) (hcode : X.K.lookup cda = some ⟨ccl, cdd, .fields vs, ccs⟩) (hvs : vs[2]? = some (.str file tf)) (hfile : ((X.prog.main.file : Str) == file) = true)
    (hcell : X.K.lookup cc = some ⟨cl, cld, .cell (some (.ref C)), csl⟩) (T : OexB nI tl X.K C) (hs : ks_superIn X.K C C "__init__" = some (some (.builtin iI))) (hB : PySem.W.subIn X.K (.ref C) (.type B) = some true)
    (ho : PySem.W.nsIn X.K cStatics "thirdparty.any" = some none) (hsup : X.mg "super" = none) (hks : scope.names.lookup ("super" : Str) = some .globalImplicit) (hkc : scope.names.lookup ("__class__" : Str) = some .free) (hka : scope.names.lookup ar.arg = some .local) (hk : scope.kind = .function)
    (htop : (X.prog.main.scope.names.lookup ("super" : Str)).isSome = false) (hboot : bootBuiltins "super" = some (.type "super")) (ea : H x = some (exo x C none)) (q : ∀ s', Inv X pins σ H s' → Q .next s')
    (hc : eval (.Call (.Attribute (.Call (.Name "super" p0) [] [] p1) "__init__" p2) [.Constant (.str z) j p3] [] p4) (PySem.W.ksEnv qual scope L f (.ref cda) cc) = (do
      let ov ← attributeBase (.Call (.Name "super" p0) [] [] p1) "__init__" (PySem.W.ksEnv qual scope L f (.ref cda) cc) (eval (.Call (.Name "super" p0) [] [] p1) (PySem.W.ksEnv qual scope L f (.ref cda) cc))
      standAt p2.atName
      let (fv, first) ← holding [ov] (getMethod ov "__init__" pl)
      callWith p4 fv first (backTo p4 (starEach [.Constant (.str z) j p3] (PySem.W.ksEnv qual scope L f (.ref cda) cc))) []) := by rfl) :
    _root_.PySem.wpAt (model X.prog X.w) X.A (.func body X.env) (exec (.Expr (.Call (.Attribute (.Call (.Name "super" p0) [] [] p1) "__init__" p2) [.Constant (.str z) j p3] [] p4) p5) X.env) Q E s := by
  obtain ⟨nm, qn, N', bs, sn, sub, ab, col, dd, k0, k1, k2, k3, k5, hC⟩ := T.cls
  have hcl : PySem.W.clsIn X.K C = some { name := nm, bases := bs, mro := .ref C ::  tl, ns := N', qualname := qn, hasDict := true, slotNames := sn, subclasses := sub, abstract := ab, collection := col, hasDel := false } := by unfold PySem.W.clsIn; rw [hC] <;> rfl
  have KX := I.kIn
  obtain ⟨m, hns, hloc⟩ := id I.loc
  have hv : m ar.arg = some (.ref x) := by
    obtain ⟨u, ru, lk⟩ := hloc 0 ar.arg (.ref x) hN hσ (.inl (by rw [hE]; exact hka))
    obtain rfl : u = Value.ref x := ru
    rcases lk with ⟨_, h⟩ | ⟨h, _⟩
    · exact h
    · exfalso
      have e : X.env.kindOf ar.arg = some .local := by rw [hE]; exact hka
      rw [e] at h
      rcases h with h | h <;> cases h
  obtain ⟨t1, hx⟩ := exo_at I.hok ea
  have hmro : PySem.W.mroIn X.K C (.ref C) = some true := by
    unfold PySem.W.mroIn
    rw [hcl, Option.bind_some, if_neg (show ¬ (List.isEmpty (Value.ref C ::  tl) = true) from Bool.false_ne_true), show ((Value.ref C ::  tl).contains (.ref C)) = true by rw [List.contains_cons]; simp]
  have hglob := I.mod.glob
  obtain ⟨mb, hblt, hmb⟩ := I.mod.blt
  have bk := I.bk
  have IA : PySem.W.InstAt s.heap x { cls := .ref C, dict := none, data := .fields #[.ref t1, .none, .none, .none, .bool false, .none] } C none := ⟨hx, rfl, rfl, trivial⟩
  have hxC : x ≠ C := PySem.W.ks_ne KX IA hcl
  have hkk : X.env.scope.kind = .function := I.ok.kind
  obtain ⟨hh, g, d, t, os⟩ := s
  rw [hE]
  have hi : interactive (PySem.W.ksEnv qual scope L f (.ref cda) cc) = false := by
    unfold interactive
    rw [show (PySem.W.ksEnv qual scope L f (.ref cda) cc).scope.kind = .function from hk]
    rfl
  refine PySem.ks_wpAt_Expr_any (PySem.ks_wpAt_MethodCall ?_ hc) hi
  refine PySem.ks_wpAt_super_base (env := PySem.W.ksEnv qual scope L f (.ref cda) cc) hks hkc (by decide) rfl (KX _ _ lf) rfl hp rfl (KX _ _ hcode) rfl hvs hfile htop ?_
  refine PySem.W.ks_loadName_global hk hks (PySem.Calls.loadGlobal_builtin (env := PySem.W.ksEnv qual scope L f (.ref cda) cc) (hglob.keeps bk) hsup (hblt.keeps bk) ((hmb _ (by decide +kernel)).trans hboot) ⟨rfl, ?_⟩)
  refine wpAny_loadName_free hk hkc rfl ⟨_, KX _ _ hcell, rfl⟩ ?_
  refine wpAny_loadName_local hk hka (by have e : X.env.locals = L := by rw [hE]
                                         rw [← e]; exact hns) hv ?_
  refine ks_wpAny_isType_cls (KX _ _ hC) rfl ⟨rfl, ?_⟩
  refine ks_wpAny_call_super (KX _ _ hC) rfl hx rfl (fun c e => by cases e) (PySem.W.looks_mroIn KX hmro) (fun h1 e1 k1 => ?_)
  have I1 : Inv X pins σ H ⟨h1, g, d, t, os⟩ := I.kept (t' := t) k1
  have KX1 := I1.kIn
  have IA1 : PySem.W.InstAt h1 x { cls := .ref C, dict := none, data := .fields #[.ref t1, .none, .none, .none, .bool false, .none] } C none := ⟨k1 _ _ hx, rfl, rfl, trivial⟩
  have hs' : PySem.W.alongIn X.K "__init__" (((Value.ref C ::  tl).dropWhile (· != .ref C)).drop 1) = some (some (.builtin iI)) := by
    unfold ks_superIn at hs
    rw [hcl] at hs
    exact hs
  refine PySem.W.kxs_getMethod FB.kx e1 (PySem.W.looks_opaque KX1 ho) (l₀ := .ref C ::  tl) (fun A Q E s k q => wpAny_bind ((PySem.W.looks_clsIn KX1 hcl) A _ E s k (wpAny_pure q))) rfl KX1 hs' (IA1.type.andThen (PySem.W.looks_subIn KX1 hB)) hxC (by decide) ?_
  have I2 : Inv X pins σ H ⟨h1.push (kxs_mw iI x), g, d, t + 1, os⟩ := I1.kept (t' := t + 1) fun b o e => Heap.get?_push_of_some _ e
  refine PySem.W.kxs_callWith (i := iI) (x := x) rfl (PySem.Calls.evalArgs_plain ?_)
  refine Calls.spliced_cons (Calls.Constant_str (k := j) (pos := p3) ?_)
  refine Calls.spliced_nil ?_
  have hmw : (h1.push (kxs_mw iI x)).get? h1.objs.size = some (kxs_mw iI x) := Heap.get?_push_size _ rfl
  refine ⟨hmw, ?_⟩
  refine call_mw FB.eb (I2.kIn _ _ hC) (Heap.get?_push_of_some _ (k1 _ _ hx)) hmw (by show 1 ≤ sizeLine; decide) fun h' t2 k hx' => ?_
  have J := I2.write (t' := t + 1 + 1) (x := x) (e := x) (o := exo x C none) (by rw [ea]; exact True.intro) (.inl rfl) k ⟨_, hx'⟩ (exo_ok hx')
  have eu : upd H x (exo x C none) = H := by
    funext b
    by_cases hb : b = x
    · rw [hb, upd_same, ea]
    · rw [upd_ne hb]
  rw [eu] at J
  exact q _ J
end
section
open Builtin Builtin.ObjectAttr HandSPX
variable {prog : Program} {w : World} {A : Around} {R : Result → Shared → Prop} {hp : Heap} {g : Array GenState} {d : Drawn} {t : Nat} {os : OsState}
/-- the first field that an error of such a class is given: its dict is made -/
theorem first_field {B nI iI : String} {tl : List Value} (FB : BaseK B nI iI tl) {K : PySem.W.Frag} {fld : Str} {tk : Tok} {v : Value} {x C : Addr} {fv : Array Value} {cd : ClassData} (inK : K.In hp) (atX : hp.get? x = some { cls := .ref C, data := .fields fv })
    (isC : PySem.W.clsIn K C = some cd) (mro : cd.mro = .ref C :: tl) (dct : cd.hasDict = true) (noF : PySem.W.findIn K (.ref C) fld = some none)
    (done : ∀ h' tk' dx, (∀ b o, b ≠ x → hp.get? b = some o → h'.get? b = some o) → hp.objs.size ≤ dx → dx ≠ x → h'.get? x = some { cls := .ref C, dict := some dx, data := .fields fv } → h'.Ns1 dx (fun y => if y = fld then some v else none) →
      R (.ok (.ret .none)) ⟨h', g, d, tk', os⟩) : codeAny (model prog w) A (.call (.builtin "object.__setattr__") ⟨[.ref x, .str fld tk, v], []⟩) R ⟨hp, g, d, t, os⟩ := by
  have inst : PySem.W.InstAt hp x { cls := .ref C, data := .fields fv } C none := ⟨atX, rfl, rfl, trivial⟩
  have below : x ≠ hp.objs.size := Nat.ne_of_lt (Heap.lt_size atX)
  have obj : cd.mro.contains (.type "object") = true := by rw [mro, List.contains_cons, FB.st.hasOwner, Bool.or_true]
  have isObj : PySem.W.Looks (model prog w) hp (isInstance (.ref x) (.type "object")) true := inst.type.andThen (PySem.W.looks_mroIn inK (by unfold PySem.W.mroIn; rw [isC, Option.bind_some, if_neg (by rw [mro]; exact Bool.false_ne_true), obj]))
  have ST := F.store_object
  refine codeAny_call_builtin ST.slot.plain ST.entry (@PySem.W.check_slot (model prog w) _ _ ⟨hp, g, d, t, os⟩ "object.__setattr__" "object" "__setattr__" (.ref x) [.str fld tk, v] [] _ ST.kind ST.split isObj (ST.args (.ref x) (.str fld tk) v) ?_)
  have lMro : PySem.W.Looks (model prog w) hp (mroOf (.ref C)) cd.mro := (PySem.W.looks_clsIn inK isC).andThen .now
  have lCls : PySem.W.Looks (model prog w) hp (classData C) cd := PySem.W.looks_clsIn inK isC
  have lTak : PySem.W.Looks (model prog w) hp (storeTaker? none) none := .now
  have pass : refuseLoop (.ref x) "__setattr__" cd.mro = pure () := by
    rw [mro, refuseLoop_ref]
    exact FB.st.passes _
  rw [PySem.W.osa_eq, refuse_eq]
  refine wpAny_bind (wpAny_bind (inst.type.at (wpAny_bind (lMro.at ?_))))
  rw [pass]
  refine wpAny_pure (wpAny_bind (inst.type.at (wpAny_bind ((PySem.W.looks_findIn inK noF).at (wpAny_bind (lTak.at ?_))))))
  show wpAny _ _ (storeInOwnDict (.ref x) (.ref C) (.str fld tk) fld v false) _ _ _
  obtain ⟨c1, c2, c3, c4, c5, c6, c7, c8, c9, c10, c11⟩ := cd
  dsimp only at dct
  subst dct
  unfold storeInOwnDict ownDictForStores
  repeat (first | with_reducible refine HandSPX.store_in_new ?_ ?_ | with_reducible refine wpAny_loadPart_at atX ?_ | with_reducible refine lCls.at ?_ | wp_step)
  · exact ⟨_, #[], _, (Heap.get?_update_ne _ _ _ _ below.symm).trans (Heap.get?_push_at rfl rfl), rfl, fun e he => absurd he (by simp), fun _ => rfl⟩
  · intro h' tk' ns1 but
    refine done h' tk' hp.objs.size (fun b o hb ho => ?_) (Nat.le_refl _) below.symm ?_ ns1
    · exact (but.2 b (Nat.ne_of_lt (Heap.lt_size ho))).trans ((Heap.get?_update_ne _ _ _ _ hb).trans (Heap.get?_push_of_some _ ho))
    · exact (but.2 x below).trans (Heap.get?_update_self _ (show (hp.push { cls := .type "dict", data := .dict #[] }).get? x = some { cls := .ref C, data := .fields fv } from Heap.get?_push_of_some _ atX) rfl)
end
section
variable {X : Cx} {pins : List (Addr × Obj)} {σ : L2.St} {H : Hp} {s : Shared} {B nI iI : String} {tl : List Value}
/-- self.f = y, the first one -/
theorem ost_newB {a C : Addr} {f : Str} {y : V} {u : Value} {Q : Unit → Shared → Prop} {E : Value → Shared → Prop} {A : Around} (FB : BaseK B nI iI tl) (T : OexB nI tl X.K C) (I : Inv X pins σ H s) (atA : H a = some (exo a C none)) (noF : PySem.W.findIn X.K (.ref C) f = some none) (ry : RelV y u)
    (then_ : ∀ dx s', H dx = none → dx ≠ a → Inv X pins σ (upd (upd H dx (exd dx [(f, y)])) a (exo a C (some dx))) s' → Q () s') : wpAny (model X.prog X.w) A (setAttr (.ref a) f u) Q E s := by
  obtain ⟨nm, q, N, bs, sn, sub, ab, col, dd, k0, k1, k2, k3, k5, hC⟩ := T.cls
  have isC : PySem.W.clsIn X.K C = some { name := nm, bases := bs, mro := .ref C :: tl, ns := N, qualname := q, hasDict := true, slotNames := sn, subclasses := sub, abstract := ab, collection := col, hasDel := false } := by unfold PySem.W.clsIn; rw [hC] <;> rfl
  obtain ⟨t1, atH⟩ := exo_at I.hok atA
  obtain ⟨hp, g, d, t, os⟩ := s
  refine PySem.W.set_plain I.kIn (ox := { cls := .ref C, dict := none, data := .fields #[.ref t1, .none, .none, .none, .bool false, .none] }) (od := none) ⟨atH, rfl, rfl, trivial⟩ T.sa (first_field FB I.kIn atH isC rfl rfl noF fun h' tk' dx keep above ne atX ns1 => ?_)
  have freeD : H dx = none := I.hok.fresh above
  have offD : ∀ {b : Addr} {o : Obj}, hp.get? b = some o → b ≠ dx := fun {b o} z => Nat.ne_of_lt (Nat.lt_of_lt_of_le (Heap.lt_size z) above)
  have offA : ∀ {b : Addr}, H b = none → b ≠ a := fun {b} z e => by rw [e, atA] at z; cases z
  have both : ∀ {b : Addr}, b ≠ a → b ≠ dx → (upd (upd H dx (exd dx [(f, y)])) a (exo a C (some dx))) b = H b := fun h1 h2 => (upd_ne h1).trans (upd_ne h2)
  have un : Un X.fs [] H (upd (upd H dx (exd dx [(f, y)])) a (exo a C (some dx))) hp h' := by
    constructor
    · exact fun b o z n _ _ => keep b o (offA n) z
    · exact fun b o z n _ _ => ⟨o.slots, keep b o (offA n) z⟩
    · exact fun b o z n _ => (both (offA n) (offD z)).trans n
    · intro b o z _
      by_cases e : b = a
      · exact ⟨_, e ▸ atX⟩
      · exact ⟨o, keep b o e z⟩
    · exact fun b xs z => (both (at_ne atA z exo_tup) (ne_of_none z freeD)).trans z
    · exact fun b o v z => (both (at_ne atA z exo_frz) (ne_of_none z freeD)).trans z
    · exact fun b ps z => ⟨#[], by rw [both (at_ne atA z exo_tbl) (ne_of_none z freeD), z]; simp⟩
  refine then_ dx _ freeD ne (I.un (t' := tk') un fun b o z => ?_)
  by_cases e1 : b = a
  · subst e1
    rw [upd_same] at z
    cases z
    exact exo_ok atX
  by_cases e2 : b = dx
  · subst e2
    rw [upd_ne e1, upd_same] at z
    cases z
    exact exd_ok ns1 (relO_put (fs := []) ry fun _ => True.intro)
  rw [both e1 e2] at z
  refine (I.hok b o z).stay (fun c v hc k => keep c v ?_ k) (fun c hc => (both (at_ne atA hc exo_own) (ne_of_none hc freeD)).trans hc) (fun c xs hc => (both (at_ne atA hc exo_tup) (ne_of_none hc freeD)).trans hc)
  rcases hc with hc | hc
  · exact hc ▸ e1
  · exact at_ne atA hc exo_own
def tOstB (nI : String) (tl : List Value) (K : PySem.W.Frag) (f : Str) (to te : TE) : TS := fun D σ H => te σ H fun y H1 => to σ H1 fun x H2 => ∃ a C : Addr, x = .ref a ∧ OexB nI tl K C ∧ PySem.W.findIn K (.ref C) f = some none ∧
  H2 a = some (exo a C none) ∧ ∀ dx, H2 dx = none → dx ≠ a → D.nx σ (upd (upd H2 dx (exd dx [(f, y)])) a (exo a C (some dx)))
theorem ps_ostB {o e : Expr} {to te : TE} {f : Str} {p' pos : Pos} (FB : BaseK B nI iI tl) (ho : PE X o to) (he : PE X e te) (hs : swapsWith e (some (.Attribute o f p')) pos.line X.env = pure false := by rfl) : PS X (.Assign [.Attribute o f p'] e pos) (tOstB nI tl X.K f to te) :=
  ⟨fun pins s σ H D I h => plainObj_wpAny_Assign_Attribute (thn (he.run pins s σ H _ I h) fun v s1 ⟨y, H1, I1, r1, q1⟩ => thn (ho.run pins s1 σ H1 _ I1 q1) fun u s2 ⟨x, H2, I2, r2, a, C, ex, T, noF, atA, q⟩ => by
    subst ex
    obtain rfl : u = Value.ref a := r2
    exact ost_newB FB T I2 atA noF r1 fun dx s' n ne J => ⟨σ, _, J, q dx n ne⟩) hs⟩
/-- C(e, ..) in a raise -/
theorem pmk_oexB {CX : CXT} {x : Str} {C fI : Addr} {k : Nat} {fd : FuncData} {ps : List Str} {sp : Sp} {ds : List Value} {dvs : List V} {e : Expr} {es : List Expr} {ta : TA} {p pos : Pos} (FB : BaseK B nI iI tl) (T : OexB nI tl X.K C) (iC : PySem.W.findIn X.K (.ref C) "__init__" = some (some (.ref fI))) (tI : PySem.W.typeIn X.K (.ref fI) = some (.type "function"))
    (F1 : FnOk X.prog X.w X.K X.mg X.base CX k fI fd ps sp) (room : Room (k + 1) X.A) (hb : Binds X.K fd ps ds) (hd : Vals dvs ds) (pass : Passes CX X (fun _ _ _ => False)) (hg : Gl X x) (hm : X.mg x = some (.ref C)) (ha : PA X (e :: es) ta)
    (h1 : (x == ("__debug__" : Str)) = false := by decide) (h2 : starEach (e :: es) X.env = (false, eval e X.env) :: starEach es X.env := by rfl) (h3 : (backTo pos (starEach es X.env)).any (·.1) = false := by rfl) : PMk X (.Call (.Name x p) (e :: es) [] pos) (tMkO C sp dvs ta) := by
  intro pins s σ H Q I h
  obtain ⟨nm, q, N, bs, sn, sub, ab, col, dd, k0, k1, k2, k3, k5, hC⟩ := T.cls
  refine wpAny_Call_Name_kw (ld_glob I hg hm (PySem.W.callWith_K (h₀ := X.base) I.ok.mod.kin T.kC (thn (ha.run pos pins s σ H _ I h) fun us s1 ⟨vs, H1, I1, r1, hz, q1⟩ => ⟨I1.kIn, ?_⟩) h2 h3) h1)
  obtain ⟨hp, g, dr, tk, os⟩ := s1
  have free : H1 (hp.objs.size + 1) = none := I1.hok.fresh (Nat.le_succ _)
  have want := q1 (hp.objs.size + 1) free
  have stays : ∀ b o, hp.get? b = some o → ((hp.push (PySem.W.kdv_tup us)).push (PySem.HandSPX.excO C hp.objs.size)).get? b = some o := fun b o z => Heap.get?_push_of_some _ (Heap.get?_push_of_some _ z)
  have atE : ((hp.push (PySem.W.kdv_tup us)).push (PySem.HandSPX.excO C hp.objs.size)).get? (hp.objs.size + 1) = some (PySem.HandSPX.excO C hp.objs.size) := by heap_get
  have I2 : Inv X pins σ (upd H1 (hp.objs.size + 1) (exo (hp.objs.size + 1) C none)) ⟨(hp.push (PySem.W.kdv_tup us)).push (PySem.HandSPX.excO C hp.objs.size), g, dr, tk, os⟩ := I1.laid (t' := tk) stays (Nat.le_succ _) (exo_ok atE)
  have args : Vals (V.ref (hp.objs.size + 1) :: (vs ++ dvs)) (Value.ref (hp.objs.size + 1) :: (us ++ ds)) := .cons rfl (r1.append hd)
  have len1 : (Value.ref (hp.objs.size + 1) :: us ++ ds).length = ps.length := args.length.symm.trans (F1.len _ _ _ _ want)
  have len2 : us.length ≤ sizeLine := by rw [← Paired.length r1, sizeLine_eq]; omega
  have runs := F1.run _ X.stack _ _ ⟨Value.ref (hp.objs.size + 1) :: us, []⟩ _ _ _ (fun _ _ _ => False) (room.make C us []) (I2.env0.make C us []) (hb _ (Value.ref (hp.objs.size + 1) :: us) I2.kIn len1) args want
  refine wpAny_call (PySem.HandSPX.call_own FB.eb (fun _ => rfl) (I1.kIn _ _ hC) (PySem.W.looks_findIn I1.kIn iC) (fun self => PySem.W.bind_fn I1.kIn self tI) len2 (codeAny_mono runs fun res z hz => ?_))
  match res, hz with
  | .error er, hz => exact pass pins σ _ _ er z I2 hz
  | .ok (.ret u), hz =>
    obtain ⟨v, H2, os2, bare2, un2, hok2, rv, ev, d, fs, ea, ed, hd1, q2⟩ := hz
    rw [ev] at rv
    obtain ⟨h2, g2, d2, t2, os'⟩ := z
    exact ⟨rv, mk_end (raises_own T.exC T.tyC) I1 (Nat.le_succ _) stays un2 hok2 os2 bare2 ea ed hd1 q2⟩
end
open NdefX (NF ncx envF startF NScope CellsAt inv_startN)
structure SupCB (B nI iI : String) (tl : List Value) (P : Program) (K : PySem.W.Frag) (mg : Str → Option Value) (C : Addr) : Prop where
  ox : OexB nI tl K C
  su : ks_superIn K C C "__init__" = some (some (.builtin iI))
  ve : PySem.W.subIn K (.ref C) (.type B) = some true
  tp : PySem.W.nsIn K cStatics "thirdparty.any" = some none
  sm : mg "super" = none
  top : (P.main.scope.names.lookup ("super" : Str)).isSome = false
theorem fn_supB {B nI iI : String} {tl : List Value} (FB : BaseK B nI iI tl) {CX : CXT} {P : Program} {w : World} {K : PySem.W.Frag} {mg : Str → Option Value} {base : Heap} {k : Nat} {C f cda cc : Addr} {fd : FuncData} {x qual z : Str} {params : Arguments} {rest : List Stmt} {scope : Scope} {N ps : List Str} {sp : Sp} {ar : Arg} {j : Nat} {p0 p1 p2 p3 p4 p5 : Pos}
    (D : SupD P K x qual params (.Expr (.Call (.Attribute (.Call (.Name "super" p0) [] [] p1) "__init__" p2) [.Constant (.str z) j p3] [] p4) p5 :: rest) scope C f fd cda cc) (T : SupCB B nI iI tl P K mg C) (S : NScope N ps ["__class__"] scope)
    (hp : (params.posonlyargs ++ params.args).head? = some ar) (hN : N[0]? = some ar.arg) (hks : scope.names.lookup ("super" : Str) = some .globalImplicit) (hka : scope.names.lookup ar.arg = some .local)
    (len : ∀ vs H Q E, sp vs H Q E → vs.length = ps.length)
    (hc : ∀ L : Addr, ∃ pl : Sem Bool, eval (.Call (.Attribute (.Call (.Name "super" p0) [] [] p1) "__init__" p2) [.Constant (.str z) j p3] [] p4) (PySem.W.ksEnv qual scope L f (.ref cda) cc) = (do
      let ov ← attributeBase (.Call (.Name "super" p0) [] [] p1) "__init__" (PySem.W.ksEnv qual scope L f (.ref cda) cc) (eval (.Call (.Name "super" p0) [] [] p1) (PySem.W.ksEnv qual scope L f (.ref cda) cc))
      standAt p2.atName
      let (fv, first) ← holding [ov] (getMethod ov "__init__" pl)
      callWith p4 fv first (backTo p4 (starEach [.Constant (.str z) j p3] (PySem.W.ksEnv qual scope L f (.ref cda) cc))) []))
    (hbody : ∀ (A : Around) (outer : List Env) (s : Shared) (H : Hp) (vs : List V) (Q : VK) (E : XK), sp vs H Q E →
      ∃ a, vs[0]? = some (.ref a) ∧ H a = some (exo a C none) ∧ ∃ t, PSs (ncx CX P w K mg base N ⟨x, qual, params, .Expr (.Call (.Attribute (.Call (.Name "super" p0) [] [] p1) "__init__" p2) [.Constant (.str z) j p3] [] p4) p5 :: rest, scope, [("__class__", cc)], cda⟩ f A outer s H E) rest t ∧
        t { nx := fun _ H' => Q .non H', rt := Q } (startF N vs [none]) H) : FnOk P w K mg base CX (k + 1) f fd ps sp := by
  obtain ⟨oc, od, dV, kV, doc, pm, an, ct, osl, ccl, cdd, vs', ccs, cl, cld, csl, file, tf, rfl, lf, hcd, hcode, hvs, hfile, hcell⟩ := D.ex
  refine ⟨len, fun A outer s H args us vs Q E hr e0 hb r hsp => ?_⟩
  have hl := len _ _ _ _ hsp
  have lim : s.heap.NoLimit := e0.mod.nolimit.keeps fun b o e => (e0.bs b o e).1
  have KX : K.In s.heap := e0.mod.kin.keeps fun b o e => (e0.bs b o e).1
  obtain ⟨FF, hFF⟩ : ∃ FF : NF, FF = ⟨x, qual, params, .Expr (.Call (.Attribute (.Call (.Name "super" p0) [] [] p1) "__init__" p2) [.Constant (.str z) j p3] [] p4) p5 :: rest, scope, [("__class__", cc)], cda⟩ := ⟨_, rfl⟩
  have hcl : FF.cl = [(("__class__" : Str), cc)] := by rw [hFF]
  have CA : CellsAt FF.cl ["__class__"] [none] s.heap H := by
    have key : ∀ y c, FF.cl.lookup y = some c → y = "__class__" ∧ c = cc := fun y c e => by
      rw [hcl, look_one] at e
      by_cases h : y = "__class__"
      · rw [if_pos h] at e
        cases e
        exact ⟨h, rfl⟩
      · rw [if_neg h] at e
        cases e
    refine ⟨rfl, fun y c e => ?_, fun y1 y2 c e1 e2 => (key _ _ e1).1.trans (key _ _ e2).1.symm, fun i y e => ?_⟩
    · obtain ⟨_, rfl⟩ := key _ _ e
      exact ⟨(e0.bs _ _ (e0.mod.kin _ _ hcell)).2, some (.ref C), _, KX _ _ hcell, rfl⟩
    · cases i with
      | zero =>
        have e : some ("__class__" : Str) = some y := e
        cases e
        exact ⟨cc, by rw [hcl, look_one, if_pos rfl], fun v hv => by
          have hv : some (none : Option V) = some (some v) := hv
          cases hv⟩
      | succ i =>
        have e : (none : Option Str) = some y := e
        cases e
  have hscope : FF.scope = scope := by rw [hFF]
  refine codeAny_call_function hr.depth (KX _ _ lf) rfl S.co S.gen rfl (PySem.W.codeRec_of KX hcd) (hb _ _ _ _ ?_)
  refine wpAny_newFunctionEnv S.nocell (fun ⟨n, _⟩ hy => S.par n (List.of_mem_zip hy).1) (fun h₁ hns hsb => ⟨lim.fresh _ hsb, ?_⟩) S.kind
  have kp : ∀ b o, s.heap.get? b = some o → h₁.get? b = some o := fun b o e => hsb.extBut b o (Nat.ne_of_lt (Heap.lt_size e)) (Heap.get?_push_of_some _ e)
  obtain ⟨a, ha, hea, t, ht, hq⟩ := hbody A outer s H vs Q E hsp
  rw [← hFF] at ht
  have I : Inv (ncx CX P w K mg base N FF f A outer s H E) [] (startF N vs [none]) H { s with heap := h₁, toks := s.toks + (ps.zip us).length } := inv_startN (hscope ▸ S) hr.hd e0 hl r CA hns kp
  subst hFF
  show codeAny _ _ (.func (.Expr (.Call (.Attribute (.Call (.Name "super" p0) [] [] p1) "__init__" p2) [.Constant (.str z) j p3] [] p4) p5 :: rest) (PySem.W.ksEnv qual scope s.heap.objs.size f (.ref cda) cc)) _ _
  refine ks_codeAny_funcAt (ks_wpAt_execs_cons ?_)
  obtain ⟨pl, hpl⟩ := hc s.heap.objs.size
  have hσ : (startF N vs [none])[0]? = some (some (.ref a)) := by
    unfold startF
    cases vs with
    | nil => cases ha
    | cons v vs =>
      have ha : some v = some (V.ref a) := ha
      cases ha
      rfl
  refine super_atB FB (X := ncx CX P w K mg base N ⟨x, qual, params, .Expr (.Call (.Attribute (.Call (.Name "super" p0) [] [] p1) "__init__" p2) [.Constant (.str z) j p3] [] p4) p5 :: rest, scope, [("__class__", cc)], cda⟩ f A outer s H E) (pl := pl) I rfl lf hp hN hσ hcode hvs hfile hcell T.ox T.su T.ve T.tp T.sm hks (S.frk _ (List.mem_singleton.mpr rfl)) hka S.kind T.top boot_super hea (fun s2 I2 => ?_) hpl
  refine wpAt_of_wpAny ?_
  refine wpAny_mono (ht.run [] _ (startF N vs [none]) H _ I2 hq) (fun fl s' hs => ?_) fun e s' hs => hs
  have fin : ∀ {σ' : L2.St} {H' : Hp} {v : V} {u : Value}, Inv (ncx CX P w K mg base N ⟨x, qual, params, .Expr (.Call (.Attribute (.Call (.Name "super" p0) [] [] p1) "__init__" p2) [.Constant (.str z) j p3] [] p4) p5 :: rest, scope, [("__class__", cc)], cda⟩ f A outer s H E) [] σ' H' s' → L2.RelV v u → Q v H' → CE outer P w H s Q u s' :=
    fun {σ' H' v u} J rv q => ⟨v, H', J.os, J.bare, J.base, J.hok, rv, q⟩
  cases fl with
  | ret u =>
    obtain ⟨v, σ', H', J, rv, q⟩ := hs
    exact fin J rv q
  | next =>
    obtain ⟨σ', H', J, q⟩ := hs
    exact fin (v := V.non) (u := Value.none) J rfl q
  | brk =>
    obtain ⟨_, _, _, q⟩ := hs
    exact False.elim q
  | cont =>
    obtain ⟨_, _, _, q⟩ := hs
    exact False.elim q
end Mx

namespace K2
open PySem PySem.Spec PyProof.Rows L2 Mc Mx
section
variable {P : Program} {w : World} {K : PySem.W.Frag} {mg : Str → Option Value} {base : Heap}
local macro_rules | `(tactic| walk_at "rd1") => `(tactic| first
  | with_reducible refine g_seq ?_
  | with_reducible refine g_asg ?_
  | with_reducible refine g_name ?_
  | with_reducible refine g_c ?_
  | with_reducible refine g_op ?_
  | with_reducible refine g_ifS ?_
  | with_reducible refine g_if ?_
  | with_reducible refine g_test ?_
  | with_reducible refine g_B ?_
  | with_reducible refine g_bl ?_
  | with_reducible refine g_blV ?_
  | with_reducible refine g_not ?_
  | with_reducible refine g_and ?_
  | with_reducible refine g_or ?_
  | with_reducible refine g_notV ?_
  | with_reducible refine g_andV ?_
  | with_reducible refine g_orV ?_
  | with_reducible refine g_ret ?_
  | with_reducible refine g_drop ?_
  | with_reducible refine g_next ?_
  | with_reducible refine g_retN ?_
  | with_reducible refine g_call ?_
  | with_reducible refine g_cb ?_
  | with_reducible refine g_cons ?_
  | with_reducible refine g_nil ?_
  | with_reducible refine g_tup ?_
  | with_reducible refine g_lst ?_
  | with_reducible refine g_prop ?_
  | with_reducible refine g_fld ?_
  | with_reducible refine g_meth ?_
  | with_reducible refine g_chain ?_
  | with_reducible refine g_yes ?_
  | with_reducible refine g_make ?_
  | with_reducible refine g_makeK ?_
  | with_reducible refine g_gsub ?_
  | with_reducible refine g_sfld ?_
  | with_reducible refine g_un ?_
  | with_reducible refine g_bm ?_
  | with_reducible refine g_iteT ?_
  | with_reducible refine g_iteF ?_
  | with_reducible refine g_I0 ?_
  | with_reducible refine g_add ?_
  | with_reducible refine g_sub ?_
  | ((with_reducible refine' g_var ?hv ?_); (case hv => rfl))
  | ((with_reducible refine g_eq ?hv ?_); (case hv => rfl))
  | ((with_reducible refine g_ne ?hv ?_); (case hv => rfl)))
local macro_rules | `(tactic| walk_at "rd") => `(tactic| repeat (walk_at "rd1"))

local macro_rules | `(tactic| walk_at "ty") => `(tactic| first | exact .non | exact .bl _ | exact .int _ | exact .str _ | exact .lst (by assumption) | exact .tup (by assumption) | exact .dK (by assumption) | exact .kTup (by assumption) (by assumption))
local macro_rules | `(tactic| walk_at "isiF") => `(tactic| refine g_isi (by walk_at "ty") (b := false) (by decide +kernel) ?_)
local macro_rules | `(tactic| walk_at "isiT") => `(tactic| refine g_isi (by walk_at "ty") (b := true) (by decide +kernel) ?_)

/-! ### errors -/
abbrev tlLE : List Value := [.type "LookupError", .type "Exception", .type "BaseException", .type "object"]
theorem g_ost {σ : L2.St} {H : Hp} {D : Ends} {f : Str} {to te : TE} (q : te σ H fun y H1 => to σ H1 fun x H2 => ∃ a C : Addr, x = .ref a ∧ OexC K C ∧ PySem.W.findIn K (.ref C) f = some none ∧
  ((H2 a = some (exo a C none) ∧ ∀ dx, H2 dx = none → dx ≠ a → D.nx σ (upd (upd H2 dx (exd dx [(f, y)])) a (exo a C (some dx)))) ∨
    ∃ (dx : Addr) (fs : List (Str × V)), H2 a = some (exo a C (some dx)) ∧ H2 dx = some (exd dx fs) ∧ fs.length ≤ 900 ∧ D.nx σ (upd H2 dx (exd dx ((f, y) :: fs))))) : tOst K f to te D σ H := q
theorem g_ostB {nI : String} {tl : List Value} {σ : L2.St} {H : Hp} {D : Ends} {f : Str} {to te : TE} (q : te σ H fun y H1 => to σ H1 fun x H2 => ∃ a C : Addr, x = .ref a ∧ OexB nI tl K C ∧ PySem.W.findIn K (.ref C) f = some none ∧
  H2 a = some (exo a C none) ∧ ∀ dx, H2 dx = none → dx ≠ a → D.nx σ (upd (upd H2 dx (exd dx [(f, y)])) a (exo a C (some dx)))) : tOstB nI tl K f to te D σ H := q
def spEx2 (C : Addr) : Sp := fun vs H Q _ => ∃ a s p, vs = [.ref a, s, p] ∧ H a = some (exo a C none) ∧ ∀ dx, H dx = none → dx ≠ a → Q .non (upd (upd (upd H dx (exd dx [("service", s)])) a (exo a C (some dx))) dx (exd dx [("place", p), ("service", s)]))
theorem ok_InvalidPart {C f cda cc : Addr} {fd : FuncData} (D : SupD P K "__init__" "InvalidPart.__init__" (defArgs s_InvalidPartinit) (defBody s_InvalidPartinit) (defScope s_InvalidPartinit) C f fd cda cc) (T : SupC P K mg C) (nf : PySem.W.findIn K (.ref C) "service" = some none) (nf2 : PySem.W.findIn K (.ref C) "place" = some none) :
    FnOk P w K mg base CX0 1 f fd ["self", "service", "place"] (spEx2 C) := by
  refine fn_sup D T sc_InvalidPartinit rfl rfl (by decide +kernel) (by decide +kernel) (fun vs H Q E h => ?_) (fun L => ⟨_, rfl⟩) (fun A outer s H vs Q E h => ?_)
  · obtain ⟨a, s, p, rfl, _⟩ := h
    rfl
  · obtain ⟨a, s', p, rfl, ha, q⟩ := h
    refine ⟨a, rfl, ha, _, pss_cons (ps_ost (pv 0) (pv 1)) (pss_one (ps_ost (pv 0) (pv 2))), ?_⟩
    refine g_seq ?_
    refine g_ost ?_
    walk_at "rd"
    refine ⟨a, C, rfl, T.ox, nf, .inl ⟨ha, fun dx nd ne => ?_⟩⟩
    dsimp only
    refine g_ost ?_
    walk_at "rd"
    refine ⟨a, C, rfl, T.ox, nf2, .inr ⟨dx, _, upd_same, by rw [upd_ne ne]; exact upd_same, by show 1 ≤ 900; decide, q dx nd ne⟩⟩
theorem ok_UnknownName {C f cda cc : Addr} {fd : FuncData} (D : SupD P K "__init__" "UnknownName.__init__" (defArgs s_UnknownNameinit) (defBody s_UnknownNameinit) (defScope s_UnknownNameinit) C f fd cda cc) (T : SupCB "LookupError" "LookupError.__new__" "LookupError.__init__" tlLE P K mg C) (nf : PySem.W.findIn K (.ref C) "value" = some none) :
    FnOk P w K mg base CX0 1 f fd ["self", "value"] (spEx C "value") := by
  refine fn_supB base_LE D T sc_UnknownNameinit rfl rfl (by decide +kernel) (by decide +kernel) (fun vs H Q E h => ?_) (fun L => ⟨_, rfl⟩) (fun A outer s H vs Q E h => ?_)
  · obtain ⟨a, v, rfl, _⟩ := h
    rfl
  · obtain ⟨a, v, rfl, ha, q⟩ := h
    refine ⟨a, rfl, ha, _, pss_one (ps_ostB base_LE (pv 0) (pv 1)), ?_⟩
    refine g_ostB ?_
    walk_at "rd"
    exact ⟨a, C, rfl, T.ox, nf, ha, q⟩
def ExAs2 (C : Addr) (W : XK) (vs : List V) (H1 : Hp) : Prop := vs.length ≤ 1000 ∧ ∀ a, H1 a = none → spEx2 C (.ref a :: (vs ++ [])) (upd H1 a (exo a C none))
  (fun v H2 => v = .non ∧ ∃ (d : Addr) (fs : List (Str × V)), H2 a = some (exo a C (some d)) ∧ H2 d = some (exd d fs) ∧ H1 d = none ∧ W (.ref C) (some d) (upd (del H2 a) d (.xd fs))) (fun _ _ _ => False)
theorem g_mko2 {C : Addr} {ta : TA} {σ : L2.St} {H : Hp} {W : XK} (q : ta σ H fun vs H1 => ExAs2 C W vs H1) : tMkO C (spEx2 C) [] ta σ H W := q
theorem ex_as2 {C : Addr} {H1 : Hp} {W : XK} {s p : V} (h : ∀ d H', Same H1 H' → H' d = some (.xd [("place", p), ("service", s)]) → W (.ref C) (some d) H') : ExAs2 C W [s, p] H1 := by
  refine ⟨by show 2 ≤ 1000; decide, fun a ha => ⟨a, s, p, rfl, upd_same, fun dx hdx hne => ⟨rfl, dx, _, ?_, upd_same, ?_, ?_⟩⟩⟩
  · rw [upd_ne hne.symm, upd_same]
  · rw [upd_ne hne] at hdx
    exact hdx
  · rw [upd_ne hne] at hdx
    refine h dx _ (fun b o hb => ?_) upd_same
    have b1 : b ≠ a := fun z => by rw [z, ha] at hb; cases hb
    have b2 : b ≠ dx := fun z => by rw [z, hdx] at hb; cases hb
    rw [upd_ne b2, del_ne b1, upd_ne b2, upd_ne b1, upd_ne b2, upd_ne b1]
    exact hb
/-! ### defs that may raise -/
structure CalX (P : Program) (w : World) (K : PySem.W.Frag) (mg : Str → Option Value) (base : Heap) (k : Nat) (x : Str) (sp : Sp) : Prop where
  ex : ∃ (f : Addr) (fd : FuncData) (ps : List Str), FnOk P w K mg base (CX P w) k f fd ps sp ∧ mg x = some (.ref f) ∧ PySem.W.keepIn K (.ref f) = true ∧ Binds K fd ps []
theorem calX_of {x : Str} {st : Stmt} {N ps : List Str} {k : Nat} {sp : Sp} (D : Def K mg x st ps) (S : FnScope N ps (defScope st)) (len : ∀ vs H Q E, sp vs H Q E → vs.length = ps.length)
    (hbody : ∀ (f : Addr) (cdv : Value) (A : Around) (outer : List Env) (s : Shared) (H : Hp) (vs : List V) (Q : VK) (E : XK), Room k (A.deeper (envOfC x (defScope st) s.heap.objs.size f cdv)) → sp vs H Q E →
      ∃ t, PSs (cxOf (CX P w) P w K mg base N x (defScope st) f cdv A outer s H E) (defBody st) t ∧ t { nx := fun _ H' => Q .non H', rt := Q } (start N vs) H) : CalX P w K mg base (k + 1) x sp := by
  obtain ⟨f, fd, F, hm, b⟩ := D.ex
  exact ⟨f, fd, ps, F.okX S len (hbody f), hm, F.kp, b⟩
theorem pe_fX {X : Cx} {W : WX} {k j : Nat} {x : Str} {sp : Sp} {p pos : Pos} {e : Expr} {es : List Expr} {t : TA} (c : CalX X.prog X.w X.K X.mg X.base k x sp) (tk : Takes X W) (hr : Room j X.A) (hk : k ≤ j) (hg : Gl X x) (ha : PA X (e :: es) t)
    (hdb : (x == ("__debug__" : Str)) = false := by decide) (he : starEach (e :: es) X.env = (false, eval e X.env) :: starEach es X.env := by rfl) (hpl : (backTo pos (starEach es X.env)).any (·.1) = false := by rfl) :
    PE X (.Call (.Name x p) (e :: es) [] pos) (tCallS sp (WE W) t) := by
  obtain ⟨f, fd, ps, G, hm, kp, b⟩ := c.ex
  exact pe_callS G (hr.mono hk) hg hm kp b (fun σ => passAt tk σ) ha hdb he hpl
theorem g_callS {sp : Sp} {E : L2.St → XK} {t : TA} {σ : L2.St} {H : Hp} {Q : VK} (q : t σ H fun vs H1 => sp vs H1 Q (E σ)) : tCallS sp E t σ H Q := q
theorem for_enum {K : PySem.W.Frag} {a : Addr} {xs : List V} {g : TG} {tb : TS} {D : Ends} {σ : L2.St} {H : Hp} (Pv : Nat → L2.St → Hp → Prop) (h0 : Pv 0 σ H) (hl : ∀ i σ H, i ≤ xs.length → Pv i σ H → SqL K H a xs)
    (hs : ∀ i x σ H T, xs[i]? = some x → Pv i σ H → H T = none → g (.ref T) σ (upd H T (.tup [.int (i : Nat), x])) fun σ2 H2 => tb { D with nx := Pv (i + 1), ct := Pv (i + 1), bk := D.nx } σ2 H2) (hd : ∀ σ H, Pv xs.length σ H → D.nx σ H) :
    ∃ W : Nat → Nat → L2.St → Hp → Prop, (∃ m, W 0 m σ H) ∧ ∀ i m σ H, W i m σ H →
      ((Ite K a).stop i H ∧ D.nx σ H) ∨ ((Ite K a).go i H ∧ ∃ N : L2.St → Hp → Prop, (∀ σ' H', N σ' H' → ∃ m', m' < m ∧ W (i + 1) m' σ' H') ∧ ∀ x H', (Ite K a).yld i H x H' → g x σ H' fun σ2 H2 => tb { D with nx := N, ct := N, bk := D.nx } σ2 H2) := by
  refine ⟨fun i m σ H => m = xs.length - i ∧ i ≤ xs.length ∧ Pv i σ H, ⟨_, rfl, Nat.zero_le _, h0⟩, fun i m σ H ⟨em, le, pv⟩ => ?_⟩
  have sq := hl i σ H le pv
  rcases Nat.lt_or_ge i xs.length with lt | ge
  · refine .inr ⟨⟨xs, xs[i], sq, List.getElem?_eq_getElem lt⟩, Pv (i + 1), fun σ' H' p => ⟨_, ?_, rfl, lt, p⟩, fun x H' y => ?_⟩
    · omega
    · obtain ⟨T, z, e1, nT, e2, ez⟩ := y
      rw [e1, e2]
      exact hs i z σ H T (ez xs sq) pv nT
  · obtain rfl : i = xs.length := Nat.le_antisymm le ge
    exact .inl ⟨⟨xs, sq, Nat.le_refl _⟩, hd σ H pv⟩
theorem holds_at {H : Hp} {t : Tr} {v : V} {Q : VK} {E : XK} (rt : RepT K H t v) (q : ∀ H', Same H H' → Q (.bl (holdsT t)) H') : spHolds K [v] H Q E := by
  rcases rt.desc with ⟨nn, ty, hne, _, hb⟩ | ⟨pa, l, rfl, tvl, kl, sh, _, hb⟩
  · exact ⟨v, rfl, .inl ⟨nn, ty, hne, by have := q H (Same.refl H); rw [hb] at this; exact this⟩⟩
  · exact ⟨_, rfl, .inr ⟨pa, l, rfl, tvl, kl, by have := q H (Same.refl H); rw [← hb] at this; exact this⟩⟩
theorem part_at {H : Hp} {t : Tr} {v : V} {Q : VK} {E : XK} (rt : RepT K H t v) (q : ∀ H', Same H H' → Q (.bl (isPartT t)) H') : spPart K [v] H Q E := by
  rcases rt.desc with ⟨nn, ty, hne, hb, _⟩ | ⟨pa, l, rfl, tvl, kl, sh, hb, _⟩
  · exact ⟨v, rfl, .inl ⟨nn, ty, hne, by have := q H (Same.refl H); rw [hb] at this; exact this⟩⟩
  · exact ⟨_, rfl, .inr ⟨pa, l, rfl, tvl, kl, sh, fun H' S => by have := q H' S; rw [← hb] at this; exact this⟩⟩
def spChkParts (K : PySem.W.Frag) (CI : Addr) : Sp := fun vs H Q E => ∃ (z : Str) (a : Addr) (b : List Tr) (xs : List V), vs = [.str z, .ref a] ∧ TupV K H a xs ∧ RepB K H b xs ∧ (pio b 0).length ≤ 1000 ∧
  ((wr (pio b 0) 0 = none ∧ ∀ H', Same H H' → Q .non H') ∨ ∃ i, wr (pio b 0) 0 = some i ∧ ∀ d H', Same H H' → H' d = some (.xd [("place", .int (i : Nat)), ("service", .str z)]) → E (.ref CI) (some d) H')

theorem ok_chk_parts {CI fI : Addr} {fdI : FuncData} (T : Txt K mg) (D : Def K mg "_check_parts" s_check_parts ["service", "block"]) (c_parts_in_order : CalD P w K mg base 4 "parts_in_order" (spPio K 2) [.int 0])
    (c_holds_blocks : Cal P w K mg base 1 "holds_blocks" (spHolds K)) (c_is_part : Cal P w K mg base 3 "is_part" (spPart K)) (TI : SupC P K mg CI) (EI : ExK P w K mg base "InvalidPart" CI fI fdI ["self", "service", "place"] (spEx2 CI)) :
    CalX P w K mg base 5 "_check_parts" (spChkParts K CI) := by
  refine calX_of D sc_check_parts (fun vs H Q E h => ?_) (fun f cdv A outer s H vs Q E hr h => ?_)
  · obtain ⟨z, a, b, xs, rfl, _⟩ := h
    rfl
  · obtain ⟨z, a, b, xs, rfl, tv, rb, hl, h⟩ := h
    refine ⟨_, (pss_one (ps_for (passes_of rfl) rfl (pi_enum (by rfl) T.n_enumerate (pa_cons (pe_fD c_parts_in_order hr (by decide) (by rfl) (pa_cons (pv 1) pa_nil)) pa_nil)) (pg_tup rfl (pgs_cons (pg_name (i := 2) sc_check_parts.nd rfl (Or.inl rfl)) (pgs_cons (pg_tup rfl (pgs_cons (pg_name (i := 3) sc_check_parts.nd rfl (Or.inl rfl)) (pgs_cons (pg_name (i := 4) sc_check_parts.nd rfl (Or.inl rfl)) pgs_nil))) pgs_nil))) (pss_cons (ps_set (i := 5) sc_check_parts.nd rfl (Or.inl rfl) (pe_and (pe_cmpR op_gt (pv 4) (pe_gx rfl T.g_MOST_AROUND) (nomark _)) (pe_one (pe_f c_holds_blocks hr (by decide) (by rfl) (pa_cons (pv 3) pa_nil)))))
      (pss_one (ps_if (PW.pt (pw_or (pt_cmpR op_eq (pv 2) (pe_gx rfl T.g_MOST_PARTS) (nomark _)) (pw_or (pt_val (pv 5)) (pw_or1 (pt_not (pt_val (pe_f c_is_part hr (by decide) (by rfl) (pa_cons (pv 3) pa_nil)))))))) (pss_one (ps_raise rfl (takes_of rfl rfl rfl rfl) (pmk_oex TI.ox EI.iC EI.tI EI.ok (hr.mono (by decide)) EI.bi .nil pass0 (by rfl) EI.gl (pa_cons (pv 0) (pa_cons (pv 2) pa_nil))))) pss_nil))))), ?_⟩
    walk_at "rd"
    refine g_for (g_ienum ?_)
    walk_at "rd"
    refine ⟨a, 0, b, xs, rfl, by omega, tv, rb, hl, fun l ys H1 S1 hl0 hl1 pr => ?_⟩
    have hlen := pr.len
    refine ⟨l, ys, rfl, SqL.of hl1, ?_⟩
    refine for_enum (K := K) (a := l) (xs := ys) (fun i σ H' => ∃ o2 o3 o4 o5 : Option V, σ = [some (.str z), some (.ref a), o2, o3, o4, o5] ∧ Same H1 H' ∧ wr (pio b 0) 0 = wr ((pio b 0).drop i) i) ⟨_, _, _, _, rfl, Same.refl _, rfl⟩ (fun i σ H' _ ⟨_, _, _, _, _, e, _⟩ => SqL.of (e _ _ hl1)) ?_ ?_
    · rintro i x σ H2 U hx ⟨o2, o3, o4, o5, rfl, S2, hw⟩ hU
      obtain ⟨t, n, p, v, ht, rfl, tp, rt⟩ := pr.get hx
      obtain ⟨hi, ht'⟩ := List.getElem?_eq_some_iff.mp ht
      rw [List.drop_eq_getElem_cons hi, ht'] at hw
      have S3 : Same H1 (upd H2 U (.tup [.int (i : Nat), .ref p])) := Same.trans S2 (same_new hU)
      have tU : SqT K (upd H2 U (.tup [.int (i : Nat), .ref p])) U [.int (i : Nat), .ref p] := SqT.of upd_same
      generalize upd H2 U (.tup [.int (i : Nat), .ref p]) = H3 at S3 tU ⊢
      refine ⟨U, _, rfl, tU, rfl, _, _, rfl, _, _, rfl, p, _, rfl, (TupV.ext S3 tp).sq, rfl, _, _, rfl, _, _, rfl, rfl, rfl, ?_⟩
      have rt3 := RepT.kp (Kp.of S3) _ _ rt
      walk_at "rd"
      refine g_ite (fun e0 => ?_) (fun e0 => ?_)
      · have hn : 1 < n := by have := of_decide_eq_true e0; omega
        walk_at "rd"
        refine holds_at rt3 (fun H4 S4 => ?_)
        have rt4 := RepT.kp (Kp.of S4) _ _ rt3
        have S14 := Same.trans S3 S4
        walk_at "rd"
        refine g_ite (fun e1 => ?_) (fun e1 => ?_)
        · have hy := wr_yes (l := (pio b 0).drop (i + 1)) (.inl (show i = 12 by have := V.int.inj (of_decide_eq_true e1); omega) : i = 12 ∨ (1 < n ∧ holdsT t = true) ∨ isPartT t = false)
          walk_at "rd"
          refine g_mko2 ?_
          walk_at "rd"
          refine ex_as2 fun d H' S hd => ?_
          rw [hy] at hw
          rcases h with ⟨e, _⟩ | ⟨j, e, q⟩
          · rw [hw] at e
            cases e
          · rw [hw] at e
            cases e
            exact q d H' (Same.trans (Same.trans S1 S14) S) hd
        have h12 : i ≠ 12 := fun z => absurd e1 (by rw [z]; decide)
        walk_at "rd"
        refine g_ite (fun e2 => ?_) (fun e2 => ?_)
        · have hy := wr_yes (l := (pio b 0).drop (i + 1)) (.inr (.inl ⟨hn, e2⟩) : i = 12 ∨ (1 < n ∧ holdsT t = true) ∨ isPartT t = false)
          walk_at "rd"
          refine g_mko2 ?_
          walk_at "rd"
          refine ex_as2 fun d H' S hd => ?_
          rw [hy] at hw
          rcases h with ⟨e, _⟩ | ⟨j, e, q⟩
          · rw [hw] at e
            cases e
          · rw [hw] at e
            cases e
            exact q d H' (Same.trans (Same.trans S1 S14) S) hd
        walk_at "rd"
        refine part_at rt4 (fun H5 S5 => ?_)
        have S14 := Same.trans S14 S5
        cases e3 : isPartT t
        · have hy := wr_yes (l := (pio b 0).drop (i + 1)) (.inr (.inr e3) : i = 12 ∨ (1 < n ∧ holdsT t = true) ∨ isPartT t = false)
          walk_at "rd"
          show (if true = true then _ else _)
          walk_at "rd"
          refine g_mko2 ?_
          walk_at "rd"
          refine ex_as2 fun d H' S hd => ?_
          rw [hy] at hw
          rcases h with ⟨e, _⟩ | ⟨j, e, q⟩
          · rw [hw] at e
            cases e
          · rw [hw] at e
            cases e
            exact q d H' (Same.trans (Same.trans S1 S14) S) hd
        · have hy := wr_no (l := (pio b 0).drop (i + 1)) (fun z => by rcases z with z | ⟨_, z⟩ | z <;> first | exact h12 z | (rw [e2] at z; cases z) | (rw [e3] at z; cases z) : ¬ (i = 12 ∨ (1 < n ∧ holdsT t = true) ∨ isPartT t = false))
          walk_at "rd"
          show (if false = true then _ else _)
          walk_at "rd"
          exact ⟨_, _, _, _, rfl, S14, by rw [hw, hy]⟩
      · have hn : ¬ 1 < n := by have := of_decide_eq_false e0; omega
        have S14 := S3
        walk_at "rd"
        refine g_ite (fun e1 => ?_) (fun e1 => ?_)
        · have hy := wr_yes (l := (pio b 0).drop (i + 1)) (.inl (show i = 12 by have := V.int.inj (of_decide_eq_true e1); omega) : i = 12 ∨ (1 < n ∧ holdsT t = true) ∨ isPartT t = false)
          walk_at "rd"
          refine g_mko2 ?_
          walk_at "rd"
          refine ex_as2 fun d H' S hd => ?_
          rw [hy] at hw
          rcases h with ⟨e, _⟩ | ⟨j, e, q⟩
          · rw [hw] at e
            cases e
          · rw [hw] at e
            cases e
            exact q d H' (Same.trans (Same.trans S1 S14) S) hd
        have h12 : i ≠ 12 := fun z => absurd e1 (by rw [z]; decide)
        walk_at "rd"
        refine part_at rt3 (fun H5 S5 => ?_)
        have S14 := Same.trans S14 S5
        cases e3 : isPartT t
        · have hy := wr_yes (l := (pio b 0).drop (i + 1)) (.inr (.inr e3) : i = 12 ∨ (1 < n ∧ holdsT t = true) ∨ isPartT t = false)
          walk_at "rd"
          show (if true = true then _ else _)
          walk_at "rd"
          refine g_mko2 ?_
          walk_at "rd"
          refine ex_as2 fun d H' S hd => ?_
          rw [hy] at hw
          rcases h with ⟨e, _⟩ | ⟨j, e, q⟩
          · rw [hw] at e
            cases e
          · rw [hw] at e
            cases e
            exact q d H' (Same.trans (Same.trans S1 S14) S) hd
        · have hy := wr_no (l := (pio b 0).drop (i + 1)) (fun z => by rcases z with z | ⟨z, _⟩ | z <;> first | exact h12 z | exact hn z | (rw [e3] at z; cases z) : ¬ (i = 12 ∨ (1 < n ∧ holdsT t = true) ∨ isPartT t = false))
          walk_at "rd"
          show (if false = true then _ else _)
          walk_at "rd"
          exact ⟨_, _, _, _, rfl, S14, by rw [hw, hy]⟩
    · rintro σ H2 ⟨o2, o3, o4, o5, rfl, S2, hw⟩
      walk_at "rd"
      rw [hlen, List.drop_length] at hw
      rcases h with ⟨_, q⟩ | ⟨i, e, _⟩
      · exact q _ (Same.trans S1 S2)
      · rw [hw] at e
        cases e
end
end K2

namespace K2
open PySem PySem.Spec PyProof.Rows L2 Mc Mx
section
variable {P : Program} {w : World} {K : PySem.W.Frag} {mg : Str → Option Value} {base : Heap}
local macro_rules | `(tactic| walk_at "rd1") => `(tactic| first
  | with_reducible refine g_seq ?_
  | with_reducible refine g_asg ?_
  | with_reducible refine g_name ?_
  | with_reducible refine g_c ?_
  | with_reducible refine g_op ?_
  | with_reducible refine g_ifS ?_
  | with_reducible refine g_if ?_
  | with_reducible refine g_test ?_
  | with_reducible refine g_B ?_
  | with_reducible refine g_bl ?_
  | with_reducible refine g_blV ?_
  | with_reducible refine g_not ?_
  | with_reducible refine g_and ?_
  | with_reducible refine g_or ?_
  | with_reducible refine g_notV ?_
  | with_reducible refine g_andV ?_
  | with_reducible refine g_orV ?_
  | with_reducible refine g_ret ?_
  | with_reducible refine g_drop ?_
  | with_reducible refine g_next ?_
  | with_reducible refine g_retN ?_
  | with_reducible refine g_call ?_
  | with_reducible refine g_cb ?_
  | with_reducible refine g_cons ?_
  | with_reducible refine g_nil ?_
  | with_reducible refine g_tup ?_
  | with_reducible refine g_lst ?_
  | with_reducible refine g_prop ?_
  | with_reducible refine g_fld ?_
  | with_reducible refine g_meth ?_
  | with_reducible refine g_chain ?_
  | with_reducible refine g_yes ?_
  | with_reducible refine g_make ?_
  | with_reducible refine g_makeK ?_
  | with_reducible refine g_gsub ?_
  | with_reducible refine g_sfld ?_
  | with_reducible refine g_un ?_
  | with_reducible refine g_bm ?_
  | with_reducible refine g_iteT ?_
  | with_reducible refine g_iteF ?_
  | with_reducible refine g_I0 ?_
  | with_reducible refine g_add ?_
  | with_reducible refine g_sub ?_
  | ((with_reducible refine' g_var ?hv ?_); (case hv => rfl))
  | ((with_reducible refine g_eq ?hv ?_); (case hv => rfl))
  | ((with_reducible refine g_ne ?hv ?_); (case hv => rfl)))
local macro_rules | `(tactic| walk_at "rd") => `(tactic| repeat (walk_at "rd1"))

local macro_rules | `(tactic| walk_at "ty") => `(tactic| first | exact .non | exact .bl _ | exact .int _ | exact .str _ | exact .lst (by assumption) | exact .tup (by assumption) | exact .dK (by assumption) | exact .kTup (by assumption) (by assumption))
local macro_rules | `(tactic| walk_at "isiF") => `(tactic| refine g_isi (by walk_at "ty") (b := false) (by decide +kernel) ?_)
local macro_rules | `(tactic| walk_at "isiT") => `(tactic| refine g_isi (by walk_at "ty") (b := true) (by decide +kernel) ?_)

theorem g_tup3 {i j k : Nat} {a : Addr} {x y z : V} {σ : L2.St} {H : Hp} {Q : L2.St → Hp → Prop} {m : Nat} (hm : m = 3) (sq : SqT K H a [x, y, z]) (q : Q (((σ.set i (some x)).set j (some y)).set k (some z)) H) : gTup K m (gCons (gName i) (gCons (gName j) (gCons (gName k) gNil))) (.ref a) σ H Q :=
  ⟨a, [x, y, z], rfl, sq, hm.symm, x, _, rfl, y, _, rfl, z, _, rfl, rfl, q⟩
theorem g_dnotin {ty td : TE} {σ : L2.St} {H : Hp} {Q : VK} (q : ty σ H fun y H1 => td σ H1 fun x H2 => ∃ a o, x = .ref a ∧ DGet H2 a y o ∧ Q (.bl !o.isSome) H2) : tDNotIn ty td σ H Q := q
theorem csOf_call {l : List (Tr × Nat)} : ∀ t ∈ csOf l, ∃ w z p, t = .leaf (.call w z p) := fun t ht => by
  unfold csOf at ht
  obtain ⟨p, hp, rfl⟩ := List.mem_map.mp ht
  have h := (List.mem_filter.mp hp).2
  cases e : p.1 with
  | leaf i =>
    rw [e] at h
    cases i with
    | call w z q => exact ⟨w, z, q, rfl⟩
    | run a b => cases h
    | risk => cases h
  | odd => rw [e] at h; cases h
  | may b => rw [e] at h; cases h
  | both b c => rw [e] at h; cases h
def spChkNames (K : PySem.W.Frag) (CU : Addr) : Sp := fun vs H Q E => ∃ (a da dp : Addr) (kA kP : List (Key × V)) (b : List Tr) (xs : List V), vs = [.ref a, .ref da, .ref dp] ∧ TupV K H a xs ∧ RepB K H b xs ∧ (pio b 0).length ≤ 1000 ∧ (∀ p ∈ pio b 0, isPartT p.1 = true) ∧
  H da = some (.dK kA) ∧ H dp = some (.dK kP) ∧
  ((nmErr (hasK kA) (hasK kP) (csOf (pio b 0)) = none ∧ ∀ H', Same H H' → Q .non H') ∨ (∃ z, nmErr (hasK kA) (hasK kP) (csOf (pio b 0)) = some z ∧ ∀ d H', Same H H' → H' d = some (.xd [("value", .str z)]) → E (.ref CU) (some d) H'))
theorem ok_chk_names {CU fU : Addr} {fdU : FuncData} (T : Txt K mg) (D : Def K mg "_check_names" s_check_names ["block", "ahead", "policies"]) (c_calls_in_order : Cal P w K mg base 5 "calls_in_order" (spCalls K))
    (TU : SupCB "LookupError" "LookupError.__new__" "LookupError.__init__" tlLE P K mg CU) (EU : ExK P w K mg base "UnknownName" CU fU fdU ["self", "value"] (spEx CU "value")) :
    CalX P w K mg base 6 "_check_names" (spChkNames K CU) := by
  refine calX_of D sc_check_names (fun vs H Q E h => ?_) (fun f cdv A outer s H vs Q E hr h => ?_)
  · obtain ⟨a, da, dp, kA, kP, b, xs, rfl, _⟩ := h
    rfl
  · obtain ⟨a, da, dp, kA, kP, b, xs, rfl, tv, rb, hl, hp, hda, hdp, h⟩ := h
    refine ⟨_, (pss_one (ps_for (passes_of rfl) rfl (pi_list (pe_f c_calls_in_order hr (by decide) (by rfl) (pa_cons (pv 0) pa_nil))) (pg_tup rfl (pgs_cons (pg_name (i := 3) sc_check_names.nd rfl (Or.inl rfl)) (pgs_cons (pg_name (i := 4) sc_check_names.nd rfl (Or.inl rfl)) (pgs_cons (pg_name (i := 5) sc_check_names.nd rfl (Or.inl rfl)) pgs_nil)))) (pss_cons (ps_if (pt_cmp (pc_dnotin (Nat.lt_of_le_of_lt (Nat.add_le_add_left (by decide : 1 ≤ 64) _) hr.units) (pv 4) (pv 1)) (by rfl)) (pss_one (ps_raise rfl (takes_of rfl rfl rfl rfl) (pmk_oexB base_LE TU.ox EU.iC EU.tI EU.ok (hr.mono (by decide)) EU.bi .nil pass0 (by rfl) EU.gl (pa_cons (pv 4) pa_nil)))) pss_nil)
      (pss_one (ps_if (pt_cmp (pc_dnotin (Nat.lt_of_le_of_lt (Nat.add_le_add_left (by decide : 1 ≤ 64) _) hr.units) (pv 5) (pv 2)) (by rfl)) (pss_one (ps_raise rfl (takes_of rfl rfl rfl rfl) (pmk_oexB base_LE TU.ox EU.iC EU.tI EU.ok (hr.mono (by decide)) EU.bi .nil pass0 (by rfl) EU.gl (pa_cons (pv 5) pa_nil)))) pss_nil))))), ?_⟩
    walk_at "rd"
    refine g_for (g_ilist ?_)
    walk_at "rd"
    refine ⟨a, b, xs, rfl, tv, rb, hl, hp, fun l ys H1 S1 hl1 ra => ?_⟩
    refine ⟨l, rfl, ⟨ys, SqL.of hl1⟩, ?_⟩
    refine for_list (K := K) (a := l) (xs := ys) (fun i σ H' => ∃ o3 o4 o5 : Option V, σ = [some (.ref a), some (.ref da), some (.ref dp), o3, o4, o5] ∧ Same H1 H' ∧ nmErr (hasK kA) (hasK kP) (csOf (pio b 0)) = nmErr (hasK kA) (hasK kP) ((csOf (pio b 0)).drop i)) ⟨_, _, _, rfl, Same.refl _, rfl⟩ (fun i σ H' _ ⟨_, _, _, _, e, _⟩ => SqL.of (e _ _ hl1)) ?_ ?_
    · rintro i x σ H2 hx ⟨o3, o4, o5, rfl, S2, hw⟩
      obtain ⟨t, ht, rt⟩ := ra.get hx
      have hm : t ∈ csOf (pio b 0) := List.mem_of_getElem? ht
      have rt := RepT.kp (Kp.of S2) _ _ rt
      have S := Same.trans S1 S2
      obtain ⟨wd, z, p, rfl⟩ := csOf_call t hm
      obtain ⟨hi, ht'⟩ := List.getElem?_eq_some_iff.mp ht
      rw [List.drop_eq_getElem_cons hi, ht'] at hw
      unfold RepT at rt
      obtain ⟨_, pa, rfl, tp⟩ := rt
      refine g_tup3 rfl tp.sq ?_
      walk_at "rd"
      refine g_dnotin ?_
      walk_at "rd"
      refine ⟨da, _, rfl, DGet.k (k := Sum.inr z) (S _ _ hda), ?_⟩
      cases ez : hasK kA z with
      | true =>
        have e1 : (valV kA (Sum.inr z)).isSome = true := ez
        rw [e1]
        walk_at "rd"
        show (if false = true then _ else _)
        walk_at "rd"
        refine g_dnotin ?_
        walk_at "rd"
        refine ⟨dp, _, rfl, DGet.k (k := Sum.inr p) (S _ _ hdp), ?_⟩
        cases ep : hasK kP p with
        | true =>
          have e2 : (valV kP (Sum.inr p)).isSome = true := ep
          rw [e2]
          walk_at "rd"
          show (if false = true then _ else _)
          walk_at "rd"
          refine ⟨_, _, _, rfl, S2, ?_⟩
          rw [hw]
          simp only [nmErr]
          rw [if_pos ez, if_pos ep]
        | false =>
          have e2 : (valV kP (Sum.inr p)).isSome = false := ep
          rw [e2]
          walk_at "rd"
          show (if true = true then _ else _)
          walk_at "rd"
          refine g_mko ?_
          walk_at "rd"
          have en : nmErr (hasK kA) (hasK kP) (csOf (pio b 0)) = some p := by
            rw [hw]
            simp only [nmErr]
            rw [if_pos ez, if_neg (by rw [ep]; exact Bool.false_ne_true)]
          refine ex_as fun d H' S3 hd => ?_
          rcases h with ⟨e, _⟩ | ⟨z', e, q⟩
          · rw [en] at e; cases e
          · rw [en] at e
            cases e
            exact q d H' (Same.trans S S3) hd
      | false =>
        have e1 : (valV kA (Sum.inr z)).isSome = false := ez
        rw [e1]
        walk_at "rd"
        show (if true = true then _ else _)
        walk_at "rd"
        refine g_mko ?_
        walk_at "rd"
        have en : nmErr (hasK kA) (hasK kP) (csOf (pio b 0)) = some z := by
          rw [hw]
          simp only [nmErr]
          rw [if_neg (by rw [ez]; exact Bool.false_ne_true)]
        refine ex_as fun d H' S3 hd => ?_
        rcases h with ⟨e, _⟩ | ⟨z', e, q⟩
        · rw [en] at e; cases e
        · rw [en] at e
          cases e
          exact q d H' (Same.trans S S3) hd
    · rintro σ H2 ⟨o3, o4, o5, rfl, S2, hw⟩
      rw [← ra.len, List.drop_length] at hw
      rcases h with ⟨_, q⟩ | ⟨z, e, _⟩
      · exact q _ (Same.trans S1 S2)
      · rw [hw] at e
        cases e
end
end K2

/-! a class made without keywords within a try -/
namespace Mx
open PySem PySem.Spec PyProof.Rows L2 Mc
section
variable {X : Cx} {CX : CXT} {k : Nat} {f C : Addr} {fd : FuncData} {ps : List Str} {sp : Sp} {E : L2.St → XK} {x : Str} {p pos : Pos} {e : Expr} {es : List Expr} {t : TA}
def tMakeS (C : Addr) (sp : Sp) (E : L2.St → XK) (t : TA) : TE := fun σ H Q => tMake C sp [] (E σ) t σ H Q
theorem run_makeS {pl : List (Addr × Obj)} {τ : L2.St} {G : Hp} {z : Shared} {R : VK} {EE : XK} {ua : List Value} {va : List V} (M : Mk X.K C f) (F : FnOk X.prog X.w X.K X.mg X.base CX k f fd ps sp) (room : Room (k + 1) X.A) (bd : Binds X.K fd ps []) (pass : PassesAt CX X τ EE)
    (I : Inv X pl τ G z) (ra : Vals va ua)
    (want : ∀ a da, G a = none → G da = none → da ≠ a → sp (.ref a :: va) (upd (upd G da (.own a)) a (.ins C da [])) (fun v G2 => v = .non ∧ R (.ref a) G2) EE) : wpAny (model X.prog X.w) X.A (call (.ref C) ua) (EP X pl τ R) X.xe z := by
  have q := want (z.heap.objs.size + 1) _ (I.hok.fresh (Nat.le_succ _)) (I.hok.fresh (Nat.le_refl _)) (Nat.ne_of_lt (Nat.lt_succ_self _))
  have J := Inv.made (C := C) I
  have rs : Vals (V.ref (z.heap.objs.size + 1) :: va) (Value.ref (z.heap.objs.size + 1) :: ua) := .cons rfl ra
  have hl : (Value.ref (z.heap.objs.size + 1) :: ua).length = ps.length := by
    rw [← rs.length]
    exact F.len _ _ _ _ q
  have bb := bd _ (Value.ref (z.heap.objs.size + 1) :: ua) J.kIn (by rw [List.append_nil]; exact hl)
  rw [List.append_nil] at bb
  have runs := F.run _ X.stack _ _ ⟨Value.ref (z.heap.objs.size + 1) :: ua, []⟩ _ _ _ EE (room.make C ua []) (J.env0.make C ua []) bb rs q
  refine wpAny_call (make_map (f := f) I.kIn M.makes M.init (beq_iff_eq.mp M.fn) (codeAny_mono runs fun res z2 hz => ?_))
  match res, hz with
  | .error e, hz => exact pass pl _ _ e z2 J hz
  | .ok (.ret u), hz =>
    obtain ⟨v, G2, J2, rv, ev, qq⟩ := J.after hz
    rw [ev] at rv
    exact ⟨rv, V.ref (z.heap.objs.size + 1), G2, J2, rfl, qq⟩
theorem pe_makeS (M : Mk X.K C f) (F : FnOk X.prog X.w X.K X.mg X.base CX k f fd ps sp) (room : Room (k + 1) X.A) (hg : Gl X x) (hm : X.mg x = some (.ref C)) (bd : Binds X.K fd ps []) (pass : ∀ σ, PassesAt CX X σ (E σ)) (pa : PA X (e :: es) t)
    (h3 : (x == ("__debug__" : Str)) = false := by decide) (he : starEach (e :: es) X.env = (false, eval e X.env) :: starEach es X.env := by rfl) (hpl : (backTo pos (starEach es X.env)).any (·.1) = false := by rfl) :
    PE X (.Call (.Name x p) (e :: es) [] pos) (tMakeS C sp E t) :=
  ⟨fun pl z τ G R I q => wpAny_Call_Name_kw (ld_glob I hg hm (PySem.W.callWith_K (h₀ := X.base) I.ok.mod.kin M.kp (thn (pa.run pos pl z τ G _ I q) fun ua z1 ⟨va, G1, I1, ra, q1⟩ => ⟨I1.kIn, by
    refine run_makeS M F room bd (pass τ) I1 ra fun a da h1 h2 h3 => ?_
    have q2 := q1 a da h1 h2 h3
    rw [List.append_nil] at q2
    exact q2⟩) he hpl) h3)⟩
end
end Mx

namespace Mx
open PySem PySem.Spec PyProof.Rows L2 Mc
/-! a dict of one pair, whatever its key is -/
def oddD (a : Addr) (k v : V) : HO := .ext fun h => (a == sysModules) = false ∧ ∃ (o : Obj) (e : DictEntry) (n : Nat), h.get? a = some o ∧ o.ExactDict ∧ o.data = .dict #[e] n ∧ RelV k e.key ∧ RelV v e.val
theorem odd_ok {P : Program} {w : World} {H : Hp} {h : Heap} {a : Addr} {k v : V} {o : Obj} {e : DictEntry} {n : Nat} (hs : (a == sysModules) = false) (ho : h.get? a = some o) (hx : o.ExactDict) (hd : o.data = .dict #[e] n) (rk : RelV k e.key) (rv : RelV v e.val) : ObjOk P w H h a (oddD a k v) :=
  ⟨⟨hs, o, e, n, ho, hx, hd, rk, rv⟩, ⟨o, ho⟩, fun h1 h2 ⟨z, o, e, n, q, r⟩ k => ⟨z, o, e, n, k _ q, r⟩⟩
theorem odd_at {P : Program} {w : World} {H : Hp} {h : Heap} {a : Addr} {k v : V} (hok : ObjOk P w H h a (oddD a k v)) : (a == sysModules) = false ∧ ∃ (o : Obj) (e : DictEntry) (n : Nat), h.get? a = some o ∧ o.ExactDict ∧ o.data = .dict #[e] n ∧ RelV k e.key ∧ RelV v e.val := hok.1
/-- the kind of one key -/
def oneKind (prog : Program) (w : World) (k : Leaf) (v0 : Value) (h0 : Leaf.isOf k v0 = true) (ns : ∀ x t, v0 ≠ .str x t) : KeyKind prog w Unit where
  is := fun _ v => v == v0
  hash := fun _ => k.key.hash w
  inj := fun _ _ _ _ _ => rfl
  byValue := fun _ v h => by
    have e : v = v0 := beq_iff_eq.mp h
    subst e
    exact Leaf.byValue h0
  pyHash := fun {A E s _ v Q} hv h => by
    have e : v = v0 := beq_iff_eq.mp hv
    subst e
    exact pyHash_leaf h0 h
  eqBool := fun {A E s a b u v Q} hu hv h => by
    have e : u = v0 := beq_iff_eq.mp hu
    have e2 : v = v0 := beq_iff_eq.mp hv
    subst e e2
    refine eqAt_leaf h0 h0 _ _ _ _ ?_
    have z : decide (k = k) = decide (a = b) := by simp
    rw [z]
    exact h
  «strs» := fun _ x t v h => by
    have e : Value.str x t = v0 := beq_iff_eq.mp h
    exact absurd e.symm (ns x t)
section
variable {X : Cx}
/-- {k: v}, k no int and no text -/
def tOdd (kv : V) (tk tv : TE) : TE := fun σ H Q => ∀ p, H p = none → tk σ (upd H p (.dK [])) fun x H1 => tv σ H1 fun y H2 => x = kv ∧ H2 p = some (.dK []) ∧ Q (.ref p) (upd H2 p (oddD p kv y))
theorem pe_oddL {k v : Expr} {tk tv : TE} {pos : Pos} (kv : V) (l : Leaf) (v0 : Value) (h0 : Leaf.isOf l v0 = true) (ns : ∀ x t, v0 ≠ .str x t) (rel : ∀ u, RelV kv u ↔ u = v0) (hk : PE X k tk) (hv : PE X v tv) : PE X (.Dict [some k] [v] pos) (tOdd kv tk tv) := by
  refine ⟨fun pins s σ H Q I q => ?_⟩
  have hn := I.hok.fresh (Nat.le_refl s.heap.objs.size)
  have I1 := I.laid (a := s.heap.objs.size) (o := .dK []) (h' := s.heap.push { cls := .type "dict", data := .dict #[] }) (t' := s.toks) (fun _ _ q => Heap.get?_push_of_some _ q) (Nat.le_refl _) (dk_empty s.heap I.big)
  refine wpAny_Dict_walk (knd := oneKind X.prog X.w l v0 h0 ns) rfl rfl (by simp) (by simp) (pairTrees_cons_walk (thn (hk.run pins _ σ _ _ I1 (q _ hn)) fun u1 s1 ⟨x, H1, J1, r1, q1⟩ => thn (hv.run pins s1 σ H1 _ J1 q1) fun u2 s2 ⟨y, H2, J2, r2, ex, e, q2⟩ => pairTrees_nil_walk ?_))
  subst ex
  have eu : u1 = v0 := (rel _).mp r1
  obtain ⟨z, hd, vs0, r0, dd⟩ := dk_of J2.hok e
  cases r0
  obtain ⟨o0, es0, ep0, ho0, hx0, hdt0, rest0⟩ := dd
  have hsz0 : es0 = #[] := by
    have l1 := rest0.2.1.length
    rw [List.length_nil, Array.length_toList] at l1
    exact Array.eq_empty_of_size_eq_zero l1
  subst hsz0
  have dd2 : s2.heap.DictOf (oneKind X.prog X.w l v0 h0 ns) s.heap.objs.size [] := ⟨o0, #[], ep0, ho0, hx0, hdt0, (fun e he => absurd he (by simp)), .nil, .nil⟩
  refine ⟨[((), u2)], ⟨by show (u1 == v0) = true; rw [eu]; simp, rfl, True.intro⟩, dd2, fun h' dd' hs => ⟨.ref s.heap.objs.size, _, ?_, rfl, q2⟩⟩
  obtain ⟨es, ep, ⟨o, ho, hx, hdt⟩, hsz, at_⟩ := dd'.raw
  have h1 : es.size = 1 := hsz
  obtain ⟨a1, a2⟩ := at_ 0 (by omega) () u2 rfl
  have ee : es = #[es[0]] := by
    apply Array.ext
    · simpa using h1
    · intro i hi1 hi2
      have : i = 0 := by omega
      subst this
      rfl
  rw [ee] at hdt
  have ek : es[0].key = v0 := beq_iff_eq.mp a1
  refine d_write J2 (by rw [e]; exact True.intro) hs ⟨o, ho⟩ (odd_ok hd ho hx hdt (by rw [ek]; exact (rel _).mpr rfl) ?_)
  rw [a2]
  exact r2
theorem pe_oddTrue {v : Expr} {tv : TE} {k : Expr} {tk : TE} {pos : Pos} (hk : PE X k tk) (hv : PE X v tv) : PE X (.Dict [some k] [v] pos) (tOdd (.bl true) tk tv) :=
  pe_oddL (.bl true) (.num 1) (.bool true) rfl (fun _ _ z => nomatch z) (fun u => Iff.rfl) hk hv
theorem pe_oddNone {v : Expr} {tv : TE} {k : Expr} {tk : TE} {pos : Pos} (hk : PE X k tk) (hv : PE X v tv) : PE X (.Dict [some k] [v] pos) (tOdd .non tk tv) :=
  pe_oddL .non .none .none rfl (fun _ _ z => nomatch z) (fun u => Iff.rfl) hk hv
end
end Mx

namespace PySem.SeqAt
open AutoSeq1 (wpAny_loadPart')
open MeetsSeq MeetsSeq2 MeetsSeq3 SeqRoads2
section
variable {prog : Program} {w : World}
theorem mx_ne_loopIn (l b : Addr) (items items2 : Array Value) (n n2 : Nat) (dd dd2 : Option Addr) (sl sl2 : Array (Option Value)) (hsz : items.size = items2.size) (e : Nat → Bool) (k : Nat) :
    ∀ i : Nat, items.size - i = k → MeetsIn prog w (Builtin.«list.__eq__.loop» ⟨[.ref l, .ref b, rawInt i, rawInt 3], []⟩)
      (fun A R s => s.heap.get? l = some { cls := .type "list", dict := dd, data := .seq items n, slots := sl } ∧ s.heap.get? b = some { cls := .type "list", dict := dd2, data := .seq items2 n2, slots := sl2 } ∧
        (∀ j (h1 : j < items.size) (h2 : j < items2.size), EqP prog w A.in1 s items[j] items2[j] (e j)) ∧
        R (.ok (.ret (.bool (!((List.range items.size).drop i).all e)))) s) := by
  induction k with
  | zero =>
    intro i hk A R s h
    obtain ⟨hp, g, d, tk, os⟩ := s; obtain ⟨hl, hb, he, h⟩ := h
    wp_walk using wpAny_loadPart' hl, wpAny_loadPart' hb
    have hi1 : items[((i : Nat) : Int).toNat]? = none := by simp; omega
    have hi2 : items2[((i : Nat) : Int).toNat]? = none := by simp; omega
    have hd : (List.range items.size).drop i = [] := by simp; omega
    rw [hd] at h
    rw [hi1, hi2]
    wp_walk using wpAny_loadPart' hl, wpAny_loadPart' hb
    show R (.ok (.ret (.bool (items.size != items2.size)))) _
    rw [hsz]
    simpa using h
  | succ k ih =>
    intro i hk A R s h
    obtain ⟨hp, g, d, tk, os⟩ := s; obtain ⟨hl, hb, he, h⟩ := h
    wp_walk using wpAny_loadPart' hl, wpAny_loadPart' hb
    have hlt : i < items.size := by omega
    have hlt2 : i < items2.size := by omega
    have hi1 : items[((i : Nat) : Int).toNat]? = some items[i] := by simp [hlt]
    have hi2 : items2[((i : Nat) : Int).toNat]? = some items2[i] := by simp [hlt2]
    have hd : (List.range items.size).drop i = i :: (List.range items.size).drop (i + 1) := by simp [List.drop_eq_getElem_cons, hlt]
    have hc : ((i : Int) + 1) = ((i + 1 : Nat) : Int) := by push_cast; rfl
    rw [hd, List.all_cons] at h
    rw [hi1, hi2]
    refine wpAny_bind (he i hlt hlt2 _ _ ?_)
    cases hb' : e i with
    | true =>
      rw [hb'] at h
      wp_walk
      rw [hc]
      exact ⟨plainId_quiet plain_eq_loop _, codeAny_builtin entry_eq_loop (by
        rw [Around.under_plainId plain_eq_loop _]
        exact ih (i + 1) (by omega) A R _ ⟨hl, hb, he, by simpa using h⟩)⟩
    | false =>
      rw [hb'] at h
      wp_walk using wpAny_loadPart' hl, wpAny_loadPart' hb
      rw [hi1, hi2]
      wp_walk
      simpa using h
theorem mx_list_neIn (l b : Addr) (items items2 : Array Value) (n n2 : Nat) (dd dd2 : Option Addr) (sl sl2 : Array (Option Value)) (hsz : items.size = items2.size) (e : Nat → Bool) :
    MeetsIn prog w (Builtin.«list.__ne__» ⟨[.ref l, .ref b], []⟩)
      (fun A R s => s.heap.get? l = some { cls := .type "list", dict := dd, data := .seq items n, slots := sl } ∧ s.heap.get? b = some { cls := .type "list", dict := dd2, data := .seq items2 n2, slots := sl2 } ∧
        (∀ j (h1 : j < items.size) (h2 : j < items2.size), EqP prog w A.in1 s items[j] items2[j] (e j)) ∧
        R (.ok (.ret (.bool (!(List.range items.size).all e)))) s) := by
  intro A R s h
  obtain ⟨hp, g, d, tk, os⟩ := s; obtain ⟨hl, hb, he, h⟩ := h
  have f3 := AutoSeq1.sub_list_list
  have hne : ¬ (items.size != items2.size) = true := by simp [hsz]
  wp_walk using wpAny_loadPart' hl, wpAny_loadPart' hb
  exact ⟨plainId_quiet plain_eq_loop _, codeAny_builtin entry_eq_loop (by
    rw [Around.under_plainId plain_eq_loop _]
    exact mx_ne_loopIn l b items items2 n n2 dd dd2 sl sl2 hsz e _ 0 rfl A R _ ⟨hl, hb, he, by simpa using h⟩)⟩
theorem mx_rcP_listsNe {A : Around} {s : Shared} {l b : Addr} {items items2 : Array Value} {e : Nat → Bool} (hl : s.heap.IsList l items) (hb : s.heap.IsList b items2) (hsz : items.size = items2.size) (hu : A.units < cLine)
    (he : ∀ j (h1 : j < items.size) (h2 : j < items2.size), EqP prog w A.in1 s items[j] items2[j] (e j)) (E Q : Value → Shared → Prop) (h : Q (.bool (!(List.range items.size).all e)) s) : wpAny (model prog w) A (richCompare .NotEq (.ref l) (.ref b)) Q E s := by
  obtain ⟨⟨cls, dd, data, sl⟩, ho, hc, n, hd⟩ := id hl
  obtain ⟨⟨cls2, dd2, data2, sl2⟩, ho2, hc2, n2, hd2⟩ := id hb
  simp only at hc hd hc2 hd2
  subst hc hd hc2 hd2
  have ta : s.TypeIs (.ref l) "list" := ⟨_, ho, rfl⟩
  have tb : s.TypeIs (.ref b) "list" := ⟨_, ho2, rfl⟩
  exact wpAny_richCompare_same_room (op := .NotEq) ta tb F.slot_list_ne (call_meetsIn F.slot_list_ne ta F.entry_list_ne (F.args_list_ne_2 _ _) (mx_list_neIn l b items items2 n n2 dd dd2 sl sl2 hsz e)
    ⟨ho, ho2, he, show Value.bool (!(List.range items.size).all e) ≠ Value.notImplemented ∧ Q (.bool (!(List.range items.size).all e)) s from ⟨(fun x => nomatch x), h⟩⟩) hu
end
end PySem.SeqAt
namespace Mx
open PySem PySem.Spec PyProof.Rows L2 Mc
/-! == of dicts of ints, of lists of such -/
def dEq (ks ls : List (Key × V)) : Bool := decide (ks.length = ls.length) && ks.all fun p => decide (valV ls p.1 = some p.2)
def IntsD (ks : List (Key × V)) : Prop := ∀ p ∈ ks, ∃ i, p.2 = V.int i
theorem hits_b {P : Program} {w : World} {A : Around} {s : Shared} {ls : List (Key × V)} {vb : List (Key × Value)} (rb : KV ls vb) (il : IntsD ls) {ks : List (Key × V)} {va : List (Key × Value)}
    (ra : KV ks va) (ik : IntsD ks) : PySem.W.KeqHitsP P w A s vb va (ks.all fun p => decide (valV ls p.1 = some p.2)) := by
  unfold KV at ra
  induction ra with
  | nil => exact .nil
  | @cons p q ps qs h t k =>
    obtain ⟨h1, h2⟩ := h
    obtain ⟨key, v⟩ := q
    have h1' : p.1 = key := h1
    subst h1'
    have k' := k fun p' hm => ik p' (List.mem_cons_of_mem _ hm)
    rw [List.all_cons]
    cases e : valV ls p.1 with
    | none =>
      have rr : RelO (none : Option V) (valueAt vb p.1) := by rw [← e]; exact rb.val p.1
      have hn : valueAt vb p.1 = none := RelO.none_of rr
      rw [decide_eq_false (show ¬ ((none : Option V) = some p.2) from fun z => by cases z)]
      exact .miss hn
    | some u =>
      have rr : RelO (some u) (valueAt vb p.1) := by rw [← e]; exact rb.val p.1
      obtain ⟨y, hy, ry⟩ := rr.some_of
      obtain ⟨i, hi⟩ := ik p List.mem_cons_self
      obtain ⟨j, hj⟩ : ∃ j, u = V.int j := by
        unfold valV at e
        obtain ⟨pr, hf, hu⟩ := Option.map_eq_some_iff.mp e
        obtain ⟨j, hj⟩ := il pr (List.mem_of_find?_eq_some hf)
        exact ⟨j, by rw [← hu, hj]⟩
      rw [hi] at h2 ⊢
      subst hj
      obtain ⟨t1, rfl⟩ := (show ∃ t, v = Value.int i t from h2)
      obtain ⟨t2, rfl⟩ := (show ∃ t, y = Value.int j t from ry)
      have ee : decide (some (V.int j) = some (V.int i)) = (i == j) := by
        by_cases z : i = j
        · subst z
          simp
        · rw [decide_eq_false (fun q => z (by injection q with q; injection q with q; exact q.symm))]
          exact (beq_eq_false_iff_ne.mpr z).symm
      rw [ee]
      exact .hit hy (SeqAt.EqAt.int_int i t1 j t2).eqP k'
theorem nodup_of {P : Program} {w : World} {H : Hp} {h : Heap} {a : Addr} {ks : List (Key × V)} (ok : HOk P w H h) (e : H a = some (.dK ks)) : (ks.map (·.1)).Nodup := by
  obtain ⟨_, _, vs, r, dd⟩ := dk_of ok e
  have e1 := KV.keys r
  rw [e1]
  obtain ⟨o, es, ep, h1, h2, h3, h4, h5, h6⟩ := dd
  exact h6
theorem valV_mem {ks : List (Key × V)} (nd : (ks.map (·.1)).Nodup) {p : Key × V} (h : p ∈ ks) : valV ks p.1 = some p.2 := by
  induction ks with
  | nil => cases h
  | cons q r ih =>
    rw [List.map_cons, List.nodup_cons] at nd
    rcases List.mem_cons.mp h with rfl | h
    · exact valV_pos rfl
    · rw [valV_neg (fun z => nd.1 (by rw [z]; exact List.mem_map_of_mem h))]
      exact ih nd.2 h
theorem dEq_refl {ks : List (Key × V)} (nd : (ks.map (·.1)).Nodup) : dEq ks ks = true := by
  unfold dEq
  rw [decide_eq_true rfl, Bool.true_and, List.all_eq_true]
  intro p hp
  exact decide_eq_true (valV_mem nd hp)
section
variable {X : Cx} {pins : List (Addr × Obj)} {σ : L2.St} {H : Hp} {s : Shared}
theorem eqP_dicts (I : Inv X pins σ H s) {A : Around} (hu : A.units < cLine) {a b : Addr} {ks ls : List (Key × V)} (ha : H a = some (.dK ks)) (hb : H b = some (.dK ls)) (ik : IntsD ks) (il : IntsD ls) : SeqAt.EqP X.prog X.w A s (.ref a) (.ref b) (dEq ks ls) := by
  by_cases e : a = b
  · subst e
    rw [ha] at hb
    cases hb
    rw [dEq_refl (nodup_of I.hok ha)]
    exact (SeqAt.EqAt.same _).eqP
  · refine SeqAt.eqP_refs e fun E Q q => ?_
    obtain ⟨_, ya, va, ra, da⟩ := dk_of I.hok ha
    obtain ⟨_, yb, vb, rb, db⟩ := dk_of I.hok hb
    refine PySem.W.rcP_dicts (knd := mixKind X.prog X.w) (r := ks.all fun p => decide (valV ls p.1 = some p.2)) ya yb da db hu (fun _ => hits_b rb il ra ik) E Q ?_
    have e1 : (va.length == vb.length) = decide (ks.length = ls.length) := by
      rw [← ra.length, ← rb.length]
      by_cases z : ks.length = ls.length
      · rw [decide_eq_true z, z]; simp
      · rw [decide_eq_false z]; exact beq_eq_false_iff_ne.mpr z
    rw [e1]
    exact q
abbrev AreD (H : Hp) : List Addr → List (List (Key × V)) → Prop := Paired fun a ks => H a = some (.dK ks) ∧ IntsD ks
def dEqs : List (List (Key × V)) → List (List (Key × V)) → Bool
  | k :: ks, l :: ls => dEq k l && dEqs ks ls
  | _, _ => true
theorem items_d (I : Inv X pins σ H s) {A : Around} (hu : A.units < cLine) : ∀ {as bs : List Addr} {kss lss : List (List (Key × V))}, AreD H as kss → AreD H bs lss → as.length = bs.length →
    ∃ e : Nat → Bool, (∀ j (h1 : j < (as.map Value.ref).length) (h2 : j < (bs.map Value.ref).length), SeqAt.EqP X.prog X.w A s (as.map Value.ref)[j] (bs.map Value.ref)[j] (e j)) ∧ (List.range as.length).all e = dEqs kss lss
  | [], [], _, _, .nil, .nil, _ => ⟨fun _ => true, fun j h1 _ => absurd h1 (Nat.not_lt_zero j), rfl⟩
  | a :: as, b :: bs, ks :: kss, ls :: lss, .cons ha ra, .cons hb rb, hl => by
    obtain ⟨e, he, hall⟩ := items_d I hu ra rb (Nat.succ.inj hl)
    refine ⟨fun j => match j with | 0 => dEq ks ls | j + 1 => e j, fun j h1 h2 => ?_, ?_⟩
    · cases j with
      | zero => exact eqP_dicts I hu ha.1 hb.1 ha.2 hb.2
      | succ j => exact he j (Nat.lt_of_succ_lt_succ h1) (Nat.lt_of_succ_lt_succ h2)
    · rw [List.length_cons, List.range_succ_eq_map, List.all_cons, List.all_map]
      show (dEq ks ls && (List.range as.length).all e) = _
      rw [hall]
      rfl
def rEqLD (K : PySem.W.Frag) (neg : Bool) : R2 := fun x y H Q => ∃ (a b : Addr) (as bs : List Addr) (kss lss : List (List (Key × V))), x = .ref a ∧ y = .ref b ∧ SqL K H a (as.map V.ref) ∧ SqL K H b (bs.map V.ref) ∧ AreD H as kss ∧ AreD H bs lss ∧ as.length = bs.length ∧
  Q (.bl (if neg then !(dEqs kss lss) else dEqs kss lss)) H
theorem op_eqLD (hu : X.A.units + 64 < cLine) : OpR X (compareOp .Eq) (rEqLD X.K false) := by
  intro pins s σ H x y v u Q I rx ry h
  obtain ⟨a, b, as, bs, kss, lss, rfl, rfl, ha, hb, da, db, hl, q⟩ := h
  cases rx
  cases ry
  obtain ⟨us, r1, p1, _⟩ := I.list ha
  obtain ⟨ws, r2, p2, _⟩ := I.list hb
  obtain rfl := refs_at r1
  obtain rfl := refs_at r2
  obtain ⟨e, he, hall⟩ := items_d I (A := X.A.in1) (by show X.A.units + 1 < cLine; omega) da db hl
  refine SeqAt.rcP_lists (e := e) p1.isList p2.isList (by simpa using hl) (by omega) (fun j h1 h2 => ?_) _ _ ?_
  · have k := he j (by simpa using h1) (by simpa using h2)
    simpa using k
  · rw [show (as.map Value.ref).toArray.size = as.length by simp, hall]
    exact ⟨.bl _, H, I, rfl, q⟩
theorem op_neLD (hu : X.A.units + 64 < cLine) : OpR X (compareOp .NotEq) (rEqLD X.K true) := by
  intro pins s σ H x y v u Q I rx ry h
  obtain ⟨a, b, as, bs, kss, lss, rfl, rfl, ha, hb, da, db, hl, q⟩ := h
  cases rx
  cases ry
  obtain ⟨us, r1, p1, _⟩ := I.list ha
  obtain ⟨ws, r2, p2, _⟩ := I.list hb
  obtain rfl := refs_at r1
  obtain rfl := refs_at r2
  obtain ⟨e, he, hall⟩ := items_d I (A := X.A.in1) (by show X.A.units + 1 < cLine; omega) da db hl
  refine SeqAt.mx_rcP_listsNe (e := e) p1.isList p2.isList (by simpa using hl) (by omega) (fun j h1 h2 => ?_) _ _ ?_
  · have k := he j (by simpa using h1) (by simpa using h2)
    simpa using k
  · rw [show (as.map Value.ref).toArray.size = as.length by simp, hall]
    exact ⟨.bl _, H, I, rfl, q⟩
end
end Mx

namespace Mx
open PySem PySem.Spec PyProof.Rows L2 Mc
/-! isinstance, the keys, list(d.values()), max with default -/
def rIsiO (K : PySem.W.Frag) : List V → Hp → VK → Prop := fun xs H Q => rIsi K xs H Q ∨ ∃ (a : Addr) (k v : V) (m : String) (b : Bool), xs = [.ref a, .ty m] ∧ H a = some (oddD a k v) ∧ kitB "dict" m = some b ∧ Q (.bl b) H
theorem call_isiO {X : Cx} : CallR X (.builtin "isinstance") (rIsiO X.K) := by
  intro pins s σ H xs us Q I r h
  rcases h with h | ⟨a, k, v, m, b, rfl, ha, e, q⟩
  · exact call_isi pins s σ H xs us Q I r h
  · obtain ⟨u1, u2, rfl, r1, r2⟩ := vals2 r
    cases (show u1 = Value.ref a from r1)
    cases (show u2 = Value.type m from r2)
    obtain ⟨hs, o, en, n, ho, hx, hd, _, _⟩ := odd_at (I.hok a _ ha)
    exact PySem.W.kia_one PySem.W.kitx_dict I.kIn ⟨o, ho, hx.1⟩ (kit_ty e) (fun z => nomatch z) fun tk => ⟨.bl b, H, I.tok tk, rfl, q⟩
def Ito (d : Addr) (o : Obj) (k v : V) : It :=
  ⟨fun i H => H d = some (.frz o (oddD d k v)) ∧ i < 1, fun i H x H' => H' = H ∧ x = k, fun i H => H d = some (.frz o (oddD d k v)) ∧ 1 ≤ i⟩
theorem frzO {X : Cx} {pins : List (Addr × Obj)} {σ : L2.St} {H : Hp} {s : Shared} {d : Addr} {o : Obj} {k v : V} (I : Inv X pins σ H s) (h : H d = some (.frz o (oddD d k v))) :
    (d == sysModules) = false ∧ s.heap.get? d = some o ∧ o.ExactDict ∧ ∃ (e : DictEntry) (n : Nat), o.data = .dict #[e] n ∧ RelV k e.key ∧ RelV v e.val := by
  obtain ⟨hd, z⟩ := I.hok d _ h
  obtain ⟨hs, o', e, n, ho, hx, hdt, r1, r2⟩ := odd_at z
  rw [hd] at ho
  cases ho
  exact ⟨hs, hd, hx, e, n, hdt, r1, r2⟩
section
variable {P : Program} {w : World} {K : PySem.W.Frag} {tg : Expr} {d : Addr} {o : Obj} {es : Array DictEntry} {ep : Nat} {k v : V}
theorem turn_odd (it : Addr) (hod : o.data = .dict es ep) : Turn P w K tg (Ito d o k v) [it] it (fun i h => h.IsKeyIter it d i 1 ep) where
  mem := by simp
  obj := fun i h st b hb => by
    have e : b = it := by simpa using hb
    subst e
    obtain ⟨oi, e, c, dd⟩ := st
    exact ⟨oi, e, fun v z => by rw [dd] at z; cases z⟩
  keep := fun i h h' st k => st.at fun oi e => k it (by simp) oi e
  item := by
    intro X hP hw hK hc i pins s σ H E I hf st hg
    subst hP hw hK
    obtain ⟨hd, hi⟩ := hg
    obtain ⟨f0, f1, f2, f3, f4, f5⟩ := hf it (by simp)
    obtain ⟨hs, hgd, hx, en, n, hdt, hkey, hval⟩ := frzO I hd
    obtain ⟨e1, e2⟩ := dict_ep hod hdt
    subst e2
    have i0 : i = 0 := by omega
    subst i0
    refine next_key_item (es := #[en]) (en := en) st hgd hdt rfl rfl fun h' st' sb => ?_
    have I1 : Inv X pins σ H { s with heap := h' } := I.turned (t' := s.toks) (fun b ob hb e => (sb.2 b hb).trans e) f0 f1 f3 f4 f5
    obtain ⟨oi, e, c, dd⟩ := id st'
    exact ⟨en.key, rfl, go_of (s := { s with heap := h' }) e c dd (by decide) ⟨k, H, I1, hkey, ⟨rfl, rfl⟩, st', fun b hb => (hf b hb).1⟩⟩
  done := by
    intro X hP hw hK hc i pins s σ H E I hf st hg
    subst hP hw hK
    obtain ⟨hd, hi⟩ := hg
    obtain ⟨f0, f1, f2, f3, f4, f5⟩ := hf it (by simp)
    obtain ⟨hs, hgd, hx, en, n, hdt, hkey, hval⟩ := frzO I hd
    obtain ⟨e1, e2⟩ := dict_ep hod hdt
    subst e2
    exact next_key_end (es := #[en]) (I.ok.hd hc) st hgd hdt rfl hi fun h' eb => ⟨rfl, I.turned (t' := s.toks) (fun b ob hb e => eb b ob hb e) f0 f1 f3 f4 f5⟩
  self := fun A i s Q E st h => by
    refine wpAny_pyIter_slot st.typeIs F.slot_dict_keyiterator_iter (wpAny_call_entry F.slot_dict_keyiterator_iter st.typeIs F.entry_dict_keyiterator_iter ?_ (F.args_dict_keyiterator_iter_1 _))
    show wpAny _ _ (ret (.ref it)) _ _ s
    exact wpAny_pure ⟨_, rfl, "dict_keyiterator", _, st.typeIs, F.slot_dict_keyiterator_next.lookup, h⟩
theorem walk_odd : Walk (Ito d o k v) 1 (fun H => H d = some (.frz o (oddD d k v))) (fun i H x H' => H' = H ∧ x = k) :=
  ⟨fun _ _ hi q => ⟨q, hi⟩, fun _ q => ⟨q, Nat.le_refl _⟩, fun _ _ _ _ _ _ y => y⟩
end
/-- the dict is locked -/
def iKeysO (td : TE) : TI := fun σ H R => td σ H fun x H1 => ∃ d o, x = .ref d ∧ ((∃ kvs, H1 d = some (.frz o (.dK kvs)) ∧ R (Itk d o kvs) H1) ∨ (∃ k v, H1 d = some (.frz o (oddD d k v)) ∧ R (Ito d o k v) H1) ∨ ∃ kvs, H1 d = some (.frz o (.dT kvs)) ∧ R (Itkt d o kvs) H1)
section
variable {X : Cx} {tg e : Expr} {td te : TE} {p apos cpos pos : Pos}
theorem pi_keysO (he : PE X e td) : PI X tg e (iKeysO td) := by
  refine ⟨fun pins s σ H R I h => ?_⟩
  refine thn (he.run pins s σ H _ I h) fun u s1 ⟨x, H1, I1, rx, d, o, ex, q⟩ => ?_
  subst ex
  obtain rfl : u = Value.ref d := rx
  rcases q with ⟨kvs, hd, q⟩ | ⟨k, v, hd, q⟩ | ⟨kvs, hd, q⟩
  · obtain ⟨hs, hgd, hx, es, ep, vs, hdt, hsz, kv, hm⟩ := I1.frzK hd
    refine iter_keys hs hgd hx hdt (pi_one (tk := s1.toks) I1 _ (turn_keys _ hdt) ⟨_, Heap.get?_push_size _ rfl, rfl, ?_⟩ q)
    rw [hsz] <;> rfl
  · obtain ⟨hs, hgd, hx, en, n, hdt, _, _⟩ := frzO I1 hd
    exact iter_keys hs hgd hx hdt (pi_one (tk := s1.toks) I1 _ (turn_odd _ hdt) ⟨_, Heap.get?_push_size _ rfl, rfl, rfl⟩ q)
  · obtain ⟨hs, hgd, hx, es, ep, hdt, hsz, ent⟩ := I1.frzT hd
    refine iter_keys hs hgd hx hdt (pi_one (tk := s1.toks) I1 _ (turn_keysT _ hdt) ⟨_, Heap.get?_push_size _ rfl, rfl, ?_⟩ q)
    rw [hsz] <;> rfl
theorem vals_of_kv {ks : List (Key × V)} {vs : List (Key × Value)} (h : KV ks vs) : Vals (ks.map (·.2)) (vs.map (·.2)) := by
  unfold KV at h
  induction h with
  | nil => exact .nil
  | cons r t ih => exact .cons r.2 ih
theorem vals_items {vs : List (Key × Value)} {acc : Array Value} (h : ItemsOf (fun i v => ∃ k, vs[i]? = some (k, v)) acc vs.length) : acc.toList = vs.map (·.2) := by
  apply List.ext_getElem?
  intro j
  rw [List.getElem?_map, Array.getElem?_toList]
  cases e : acc[j]? with
  | some v =>
    obtain ⟨k, hk⟩ := h.2 j v e
    rw [hk]
    rfl
  | none =>
    have : vs.length ≤ j := by rw [← h.1]; exact Array.getElem?_eq_none_iff.mp e
    rw [List.getElem?_eq_none this]
    rfl
def tListVals (te : TE) : TE := fun σ H Q => te σ H fun x H1 => ∃ (d : Addr) (kvs : List (Key × V)), x = .ref d ∧ H1 d = some (.dK kvs) ∧ ∀ l, H1 l = none → Q (.ref l) (upd H1 l (.lst (kvs.map (·.2))))
theorem pe_listVals (hc : X.calm = true) (he : PE X e te) (hg : Gl X "list") (hm : X.mg "list" = none) (hv : bootBuiltins "list" = some (.type "list")) (hbase : attributeBase e "values" X.env (eval e X.env) = eval e X.env := by rfl) (hline : (apos.endLine == cpos.line) = true := by rfl)
    (hs : starEach [.Call (.Attribute e "values" apos) [] [] cpos] X.env = (false, eval (.Call (.Attribute e "values" apos) [] [] cpos) X.env) :: starEach [] X.env := by rfl) :
    PE X (.Call (.Name "list" p) [.Call (.Attribute e "values" apos) [] [] cpos] [] pos) (tListVals te) := by
  refine ⟨fun pins s σ H Q I hq => ?_⟩
  refine wpAny_Call_Name_kw (ld_blt I hg hm hv ?_)
  refine PyProof.Rows.callWith_type1 ?_ hs rfl
  rw [hs]
  show wpAny _ _ (spliced ((false, eval (.Call (.Attribute e "values" apos) [] [] cpos) X.env) :: backTo pos (starEach [] X.env))) _ _ s
  refine Calls.spliced_cons ?_
  refine wpAny_Call_method (T := "dict") (id := "dict.values") hbase rfl hline F.plainAttrs_dict F.slot_dict_values F.type_dict_values (thn (he.run pins s σ H _ I hq) fun u s1 ⟨x, H1, I1, rx, d, kvs, ex, hd, q⟩ => ?_)
  subst ex
  obtain rfl : u = Value.ref d := rx
  obtain ⟨hz, hs0, vs, kv, hdo⟩ := I1.hok d _ hd
  obtain ⟨ep, hat⟩ := hdo.dictAt
  have lk : kvs.length = vs.length := Paired.length kv
  have I2 : Inv X pins σ H1 { s1 with heap := s1.heap.push { cls := .type "dict_values", data := .fields #[.ref d] } } := I1.kept (t' := s1.toks) fun b ob q => Heap.get?_push_of_some _ q
  refine ⟨hdo.typeIs, hdo.mapOf.noDict, ?_⟩
  show wpAny _ _ (callWith cpos (.builtin "dict.values") [.ref d] [] []) _ X.xe s1
  refine method_meetsIn F.slot_dict_values F.entry_dict_values rfl (PySem.evalArgs_none ⟨rfl, hdo.typeIs, F.args_dict_values_1 _, _, meets_dict_values (mixKind X.prog X.w) d hs0, ⟨vs, hdo⟩, ?_⟩)
  refine Calls.spliced_nil ?_
  refine PySem.W.kdl_call (PySem.W.kdl_values (knd := mixKind X.prog X.w) (kvs := vs) (ep := ep)) (I1.ok.hd hc) ⟨⟨_, Heap.get?_push_size _ rfl, rfl, rfl⟩, hat.push _⟩ (by omega) fun h' tk acc' c' hk hS hacc => ?_
  refine ⟨.ref _, _, I2.laid (t' := tk) (o := .lst (kvs.map (·.2))) hk (Nat.le_refl _) ?_, rfl, q _ (I2.hok.fresh (Nat.le_refl _))⟩
  refine ⟨by rw [List.length_map]; exact hz, acc'.toList, c', ?_, ?_⟩
  · rw [vals_items hacc]
    exact vals_of_kv kv
  · rw [Array.toArray_toList]
    exact hS
theorem dpAll_ints {K : PySem.W.Frag} {H : Hp} : ∀ ns : List Int, DpAll K H (ns.map V.int) (ns.map PyData.int)
  | [] => .nil
  | n :: r => .cons (.int n) (dpAll_ints r)
theorem depth_ints : ∀ ns : List Int, PyData.depthAll (ns.map PyData.int) ≤ 1
  | [] => Nat.zero_le _
  | n :: r => Nat.max_le.mpr ⟨Nat.le_of_ble_eq_true rfl, depth_ints r⟩
theorem alike_ints (ns : List Int) : PySem.W.AlikeAll (ns.map PyData.int) := by
  refine ⟨fun x hx y hy => ?_, fun x hx => ?_⟩
  · obtain ⟨i, _, rfl⟩ := List.mem_map.mp hx
    obtain ⟨j, _, rfl⟩ := List.mem_map.mp hy
    rfl
  · obtain ⟨i, _, rfl⟩ := List.mem_map.mp hx
    exact fun z => nomatch z
theorem foldl_max_spec : ∀ (r : List Int) (n : Int), (r.foldl max n = n ∨ r.foldl max n ∈ r) ∧ n ≤ r.foldl max n ∧ ∀ y ∈ r, y ≤ r.foldl max n
  | [], n => ⟨.inl rfl, Int.le_refl _, fun y h => nomatch h⟩
  | k :: r, n => by
    obtain ⟨h1, h2, h3⟩ := foldl_max_spec r (max n k)
    show (r.foldl max (max n k) = n ∨ r.foldl max (max n k) ∈ k :: r) ∧ n ≤ r.foldl max (max n k) ∧ ∀ y ∈ k :: r, y ≤ r.foldl max (max n k)
    refine ⟨?_, by omega, fun y hy => ?_⟩
    · rcases h1 with h1 | h1
      · rw [h1]
        by_cases z : n ≤ k
        · right
          rw [show max n k = k by omega]
          exact List.mem_cons_self
        · left
          omega
      · exact .inr (List.mem_cons_of_mem _ h1)
    · rcases List.mem_cons.mp hy with rfl | hy
      · omega
      · exact h3 y hy
def rMaxD (K : PySem.W.Frag) : List V → List V → Hp → VK → Prop := fun xs zs H Q => ∃ (a : Addr) (d : V) (ns : List Int), xs = [.ref a] ∧ zs = [d] ∧ SqL K H a (ns.map V.int) ∧ (ns = [] → Q d H) ∧ ∀ m, m ∈ ns → (∀ y, y ∈ ns → y ≤ m) → Q (.int m) H
theorem call_maxD (hc : X.calm = true) (hu : X.A.units + 64 < cLine) : CallRK X (.builtin "max") [Str.ofString "default"] (rMaxD X.K) := by
  intro pins s σ H xs zs us ws Q I r rz h
  obtain ⟨a, d, ns, rfl, rfl, hs, q0, q1⟩ := h
  obtain rfl := Vals.ref1 r
  obtain ⟨w1, rfl, rd⟩ := vals1 rz
  obtain ⟨its, rv, hl, hz⟩ := I.list hs
  obtain ⟨as, R⟩ := Dp.readsAll I (ns.map PyData.int) _ its (dpAll_ints ns) rv
  refine PySem.W.max_list_default (I.ok.hd hc) hl.isList (by simpa using R) (alike_ints ns) (by have := depth_ints ns; omega) (fun e h' tk hk => ?_) (fun y ys i v h' tk bs e hv hr hk => ?_)
  · have en : ns = [] := by cases ns with | nil => rfl | cons n r => cases e
    exact ⟨d, H, I.kept hk, rd, q0 en⟩
  · match ns, e with
    | n :: r, e =>
      injection e with e1 e2
      subst e1 e2
      rw [PySem.W.maxD_ints] at hr
      cases hr
      exact ⟨.int (r.foldl max n), H, I.kept hk, ⟨_, rfl⟩, q1 _ (by
        rcases (foldl_max_spec r n).1 with z | z
        · rw [z]
          exact List.mem_cons_self
        · exact List.mem_cons_of_mem _ z) fun y hy => by
          rcases List.mem_cons.mp hy with rfl | hy
          · exact (foldl_max_spec r y).2.1
          · exact (foldl_max_spec r n).2.2 y hy⟩
end
end Mx

/-! enumerate over a tuple; loops over a list or a tuple; == that is also False -/
namespace PySem
open Sem (wp)
theorem meets_enumerate_newB1 {v : Value} {o : Obj} {H : Heap → Prop} (B : Begins v o H) :
    Meets (Builtin.«enumerate.__new__» ⟨[.type "enumerate", v], []⟩) (fun _ R s => H s.heap ∧
      R (.ok (.ret (.ref (s.heap.push o).objs.size))) { s with heap := (s.heap.push o).push { cls := .type "enumerate", data := .fields #[.none, .bool false, .ref s.heap.objs.size, rawInt 0, .none, .none] } }) :=
  .of_wp fun prog w A R s h => by
    obtain ⟨hp, g, d, tk, os⟩ := s; obtain ⟨h1, h⟩ := h
    have hsub := sub_enumerate
    have q1 : ∀ {A' : Around} {E : Value → Shared → Prop} {Q : Value → Shared → Prop}, Q (.ref hp.objs.size) ⟨hp.push o, g, d, tk, os⟩ → wpAny (model prog w) A' (pyIter v) Q E ⟨hp, g, d, tk, os⟩ :=
      fun q => B.iter prog w _ _ ⟨hp, g, d, tk, os⟩ _ h1 q
    wp_walk using q1
    refine wpAny_stack_any fun st => wpAny_pure ?_
    split
    · rename_i c _ _ _ _ _
      cases (c == Value.type "enumerate")
      · wp_walk using q1
        exact ⟨_, rfl, h⟩
      · wp_walk using q1
        exact ⟨_, rfl, h⟩
    · wp_walk using q1
      exact ⟨_, rfl, h⟩
section
variable {prog : Program} {w : World} {A : Around} {E : Value → Shared → Prop} {s : Shared}
theorem enum_begins1 {v : Value} {o : Obj} {H : Heap → Prop} {Q : Value → Shared → Prop} (B : Begins v o H) (h1 : H s.heap)
    (h : ∀ h', IsEnum h' (s.heap.objs.size + 1) s.heap.objs.size 0 .none → h'.get? s.heap.objs.size = some o → h'.objs.size = s.heap.objs.size + 2 →
      (∀ b o, s.heap.get? b = some o → h'.get? b = some o) → Q (.ref (s.heap.objs.size + 1)) { s with heap := h' }) :
    wpAny (model prog w) A (call (.type "enumerate") [v]) Q E s := by
  refine callType_new F.called_enumerate (by decide) (F.typeCall_enumerate_1 _) (F.newCall_enumerate_1 _) (fun obj => F.args_object_init_2 obj _) F.entry_enumerate_new
    (meets_enumerate_newB1 B) ⟨h1, ?_⟩
  have hz : (s.heap.push o).objs.size = s.heap.objs.size + 1 := Heap.size_push ..
  show _ ∧ _
  rw [hz]
  have he : IsEnum ((s.heap.push o).push { cls := .type "enumerate", data := .fields #[.none, .bool false, .ref s.heap.objs.size, rawInt 0, .none, .none] }) (s.heap.objs.size + 1) s.heap.objs.size 0 .none := by
    have := Heap.get?_push_size (s.heap.push o) (o := { cls := .type "enumerate", data := .fields #[.none, .bool false, .ref s.heap.objs.size, rawInt 0, .none, .none] }) rfl
    rw [hz] at this; exact this
  refine ⟨⟨_, he, rfl⟩, h _ he (Heap.get?_push_of_some _ (Heap.get?_push_size _ B.free)) (by rw [Heap.size_push, hz]) fun b o x => Heap.get?_push_of_some _ (Heap.get?_push_of_some _ x)⟩
end
end PySem
namespace Mn
open PySem PySem.Spec PyProof.Rows L2 Mc
/-- the tuple at a, each item in a new pair -/
def Iut (K : PySem.W.Frag) (a : Addr) : It :=
  ⟨fun i H => ∃ (xs : List V) (x : V), SqT K H a xs ∧ xs[i]? = some x, fun i H v H' => ∃ T x, v = .ref T ∧ H T = none ∧ H' = upd H T (.tup [.int (i : Nat), x]) ∧ ∀ xs, SqT K H a xs → xs[i]? = some x, fun i H => ∃ xs : List V, SqT K H a xs ∧ xs.length ≤ i⟩
theorem turn_enumT {P : Program} {w : World} {K : PySem.W.Frag} {elts : List Expr} {kk : Nat} {tpos : Pos} (a e it : Addr) :
    Turn P w K (.Tuple elts kk tpos) (Iut K a) [e, it] e (fun i h => (∃ old, IsEnum h e it ((i : Nat) : Int) old) ∧ h.IsTupleIter it a i ∧ e ≠ it ∧ a ≠ it ∧ a ≠ e) where
  mem := by simp
  obj := fun i h st b hb => by
    obtain ⟨⟨old, he⟩, ⟨o, ho, hc, hd⟩, _⟩ := st
    have e' : b = e ∨ b = it := by simpa using hb
    rcases e' with z | z
    · rw [z]; exact ⟨_, he, fun v q => nomatch q⟩
    · rw [z]; exact ⟨o, ho, fun v q => by rw [hd] at q; cases q⟩
  keep := fun i h h' st k => let ⟨⟨old, he⟩, hi, hne⟩ := st; ⟨⟨old, k e (by simp) _ he⟩, hi.at fun o q => k it (by simp) o q, hne⟩
  item := by
    intro X hP hw hK hc i pins s σ H E I hf st hg
    subst hP hw hK
    obtain ⟨⟨old, he⟩, hit, hne, nai, nae⟩ := st
    obtain ⟨xs, x, hq, hx⟩ := hg
    obtain ⟨its, rv, p, hz⟩ := I.tuple hq
    obtain ⟨u, hu, ru⟩ := rv.get hx
    have hel : e < s.heap.objs.size := Heap.lt_size he
    have hil : it < s.heap.objs.size := by obtain ⟨_, q, _⟩ := hit; exact Heap.lt_size q
    have hlt : i < its.toArray.size := by
      have := (List.getElem?_eq_some_iff.mp hu).1
      simpa using this
    have D := Draws.tuple (prog := X.prog) (w := X.w) (A := X.A.in1) (I.ok.hd hc) it a nai its.toArray
    refine wpAny_pyNext_enum_itemD D he ⟨hit, (show s.heap.IsTuple a its.toArray from p)⟩ hlt hne (by simp [hne, Ne.symm nae]) fun y h' tk hy ho hit' hT hsz hk => ?_
    obtain rfl : y = u := by
      have hu' : its.toArray[i]? = some u := by simpa using hu
      rw [hu'] at hy
      exact (Option.some.inj hy).symm
    refine ⟨_, rfl, wpAny_letOwnedTupleGo_enum (s := { s with heap := h', toks := tk + 1 }) ho fun h'' he' sb => ?_⟩
    have hT2 : h''.get? s.heap.objs.size = some { cls := .type "tuple", data := .seq #[.int i tk, y] } := (sb.2 _ (Nat.ne_of_gt hel)).trans hT
    have new : ObjOk X.prog X.w (upd H s.heap.objs.size (.tup [.int (i : Nat), x])) h'' s.heap.objs.size (.tup [.int (i : Nat), x]) :=
      ⟨by show 2 ≤ sizeLine; decide, [.int i tk, y], .cons ⟨_, rfl⟩ (.cons ru .nil), ⟨_, hT2, rfl, _, rfl⟩⟩
    have I1 : Inv X pins σ (upd H s.heap.objs.size (.tup [.int (i : Nat), x])) { s with heap := h'', toks := tk + 1 } :=
      I.turnedNew (ch := [e, it]) (fun b ob hb q => (sb.2 b (fun z => hb (by simp [z]))).trans (hk b ob (fun z => hb (by simp [z])) (fun z => hb (by simp [z])) q)) hf (Nat.le_refl _) new
    refine ⟨.ref s.heap.objs.size, _, I1, rfl, ⟨_, x, rfl, I.hok.fresh (Nat.le_refl _), rfl, fun ys hy => by rw [I.tuple_inj hy hq]; exact hx⟩, ⟨⟨y, ?_⟩, hit'.1.at fun o q => (sb.2 it (Ne.symm hne)).trans q, hne, nai, nae⟩, fun b hb => ?_⟩
    · have e1 : ((i + 1 : Nat) : Int) = (i : Int) + 1 := by omega
      rw [e1]; exact he'
    · have hb' : b < s.heap.objs.size := by
        have e' : b = e ∨ b = it := by simpa using hb
        rcases e' with z | z
        · rw [z]; exact hel
        · rw [z]; exact hil
      rw [upd_ne (Nat.ne_of_lt hb')]
      exact (hf b hb).1
  done := by
    intro X hP hw hK hc i pins s σ H E I hf st hg
    subst hP hw hK
    obtain ⟨⟨old, he⟩, hit, hne, nai, nae⟩ := st
    obtain ⟨xs, hq, hx⟩ := hg
    obtain ⟨its, rv, p, hz⟩ := I.tuple hq
    obtain ⟨f0, f1, f2, f3, f4, f5⟩ := hf it (by simp)
    have hl := rv.length
    have hT : s.TypeIs (.ref e) "enumerate" := ⟨_, he, rfl⟩
    unfold pyNext
    refine wpAny_bind (wpAny_attempt (wpAny_callSpecial?_slot (name := Str.ofString "__next__") hT F.slot_enumerate_next
      (wpAny_call_entry F.slot_enumerate_next hT F.entry_enumerate_next ?_ (F.args_enumerate_next_1 _))))
    show wpAny _ _ (field (.ref e) 2 >>= _) _ _ _
    refine wpAny_bind (wpAny_field he rfl (x := .ref it) rfl ?_)
    refine wpAny_bind (wpAny_nextOf_tuple_end (A := X.A.in1) (I.ok.hd hc) hit (show s.heap.IsTuple a its.toArray from p) (by simp; omega) fun h' x he' hx' => ?_)
    obtain ⟨o, ho, hcl⟩ := hx'
    refine wpAny_bind (wpAny_isInstance (T := "StopIteration") (b := true) ⟨o, ho, hcl⟩ isSubtype_stop ?_)
    exact wpAny_pure ⟨rfl, I.turned (t' := s.toks) (fun b o hb q => he' b o hb q) f0 f1 f3 f4 f5⟩
  self := fun A i s Q E st h => let ⟨⟨_, he⟩, _⟩ := st; wpAny_pyIter_enum he h
/-- enumerate(list) or enumerate(tuple) -/
def SqB (K : PySem.W.Frag) (b : Bool) (H : Hp) (a : Addr) (xs : List V) : Prop := match b with
  | true => SqL K H a xs
  | false => SqT K H a xs
def EnB (K : PySem.W.Frag) (b : Bool) (a : Addr) : It := match b with
  | true => Ite K a
  | false => Iut K a
def ItB (K : PySem.W.Frag) (b : Bool) (a : Addr) : It := match b with
  | true => Itl K a
  | false => Itt K a
def iEnumS (K : PySem.W.Frag) (ta : TA) : TI := fun σ H R => ta σ H fun vs H1 => ∃ a b xs, vs = [.ref a] ∧ SqB K b H1 a xs ∧ R (EnB K b a) H1
theorem pi_enumS {X : Cx} {e : Expr} {ta : TA} {p pos tpos : Pos} {elts : List Expr} {kk : Nat} (hg : Gl X "enumerate") (hm : X.mg "enumerate" = none) (ha : PA X [e] ta) (hs : starEach [e] X.env = [(false, eval e X.env)] := by rfl) :
    PI X (.Tuple elts kk tpos) (.Call (.Name "enumerate" p) [e] [] pos) (iEnumS X.K ta) := by
  refine ⟨fun pins s σ H R I h => ?_⟩
  refine Call_ (ld_blt I hg hm boot_enumerate (PyProof.Rows.callWith_type1 (thn (ha.run pos pins s σ H _ I h) fun us s1 ⟨vs, H1, I1, r1, q1⟩ => ?_) hs rfl))
  obtain ⟨a, b, xs, ex, hq, q⟩ := q1
  subst ex
  cases r1 with
  | cons r rr =>
    cases rr
    cases r
    cases b with
    | true =>
      have hq : SqL X.K H1 a xs := hq
      obtain ⟨its, rv, p', hz⟩ := I1.list hq
      refine call_enumerate_list p'.isList fun h' he hit hsz hk => wpAny_pyIter_enum he ?_
      have I2 : Inv X pins σ H1 { s1 with heap := h' } := I1.kept (t' := s1.toks) hk
      refine ⟨s1.heap.objs.size + 1, [s1.heap.objs.size + 1, s1.heap.objs.size], _, _, H1, rfl, I2, turn_enum a (s1.heap.objs.size + 1) s1.heap.objs.size, ⟨⟨.none, he⟩, hit, Nat.succ_ne_self _⟩, fun b hb => ?_, q⟩
      have e' : b = s1.heap.objs.size + 1 ∨ b = s1.heap.objs.size := by simpa using hb
      have hle : s1.heap.objs.size ≤ b := by
        rcases e' with z | z
        · rw [z]; exact Nat.le_add_right _ _
        · rw [z]; exact Nat.le_refl _
      exact I1.fpOk hle (I1.hok.fresh hle)
    | false =>
      have hq : SqT X.K H1 a xs := hq
      obtain ⟨its, rv, p', hz⟩ := I1.tuple hq
      have hal : a < s1.heap.objs.size := by obtain ⟨_, q, _⟩ := p'; exact Heap.lt_size q
      refine enum_begins1 (begins_tuple a its.toArray) (show s1.heap.IsTuple a its.toArray from p') fun h' he ho hsz hk => wpAny_pyIter_enum he ?_
      have I2 : Inv X pins σ H1 { s1 with heap := h' } := I1.kept (t' := s1.toks) hk
      refine ⟨s1.heap.objs.size + 1, [s1.heap.objs.size + 1, s1.heap.objs.size], _, _, H1, rfl, I2, turn_enumT a (s1.heap.objs.size + 1) s1.heap.objs.size, ⟨⟨.none, he⟩, ⟨_, ho, rfl, rfl⟩, Nat.succ_ne_self _, Nat.ne_of_lt hal, Nat.ne_of_lt (Nat.lt_succ_of_lt hal)⟩, fun b hb => ?_, q⟩
      have e' : b = s1.heap.objs.size + 1 ∨ b = s1.heap.objs.size := by simpa using hb
      have hle : s1.heap.objs.size ≤ b := by
        rcases e' with z | z
        · rw [z]; exact Nat.le_add_right _ _
        · rw [z]; exact Nat.le_refl _
      exact I1.fpOk hle (I1.hok.fresh hle)
/-- a list or a tuple, walked -/
def iSeq (K : PySem.W.Frag) (tl : TE) : TI := fun σ H R => tl σ H fun x H1 => ∃ a b xs, x = .ref a ∧ SqB K b H1 a xs ∧ R (ItB K b a) H1
theorem pi_seq {X : Cx} {tg l : Expr} {tl : TE} (hl : PE X l tl) : PI X tg l (iSeq X.K tl) := by
  refine ⟨fun pins s σ H R I h => ?_⟩
  refine thn (hl.run pins s σ H _ I h) fun v s1 ⟨x, H1, I1, r1, q1⟩ => ?_
  obtain ⟨a, b, xs, e, hq, q⟩ := q1
  subst e
  cases r1
  cases b with
  | true =>
    have hq : SqL X.K H1 a xs := hq
    obtain ⟨its, rv, p, hz⟩ := I1.list hq
    refine wpAny_pyIter_list p.isList ?_
    refine ⟨s1.heap.objs.size, [s1.heap.objs.size], _, _, H1, rfl, I1.kept (t' := s1.toks) fun b o e => Heap.get?_push_of_some _ e, turn_list a _, ⟨_, Heap.get?_push_size _ rfl, rfl, rfl⟩, fun b hb => ?_, q⟩
    have e : b = s1.heap.objs.size := by simpa using hb
    subst e
    exact I1.fpOk (Nat.le_refl _) (I1.hok.fresh (Nat.le_refl _))
  | false =>
    have hq : SqT X.K H1 a xs := hq
    obtain ⟨its, rv, p, hz⟩ := I1.tuple hq
    refine wpAny_pyIter_tuple (show s1.heap.IsTuple a its.toArray from p) ?_
    refine ⟨s1.heap.objs.size, [s1.heap.objs.size], _, _, H1, rfl, I1.kept (t' := s1.toks) fun b o e => Heap.get?_push_of_some _ e, turn_tuple a _, ⟨_, Heap.get?_push_size _ rfl, rfl, rfl⟩, fun b hb => ?_, q⟩
    have e : b = s1.heap.objs.size := by simpa using hb
    subst e
    exact I1.fpOk (Nat.le_refl _) (I1.hok.fresh (Nat.le_refl _))
theorem for_itB {K : PySem.W.Frag} {b : Bool} {a : Addr} {xs : List V} {g : TG} {tb : TS} {D : Ends} {σ : L2.St} {H : Hp} (Pv : Nat → L2.St → Hp → Prop) (h0 : Pv 0 σ H) (hl : ∀ i σ H, i ≤ xs.length → Pv i σ H → SqB K b H a xs)
    (hs : ∀ i x σ H, xs[i]? = some x → Pv i σ H → g x σ H fun σ2 H2 => tb { D with nx := Pv (i + 1), ct := Pv (i + 1), bk := D.nx } σ2 H2) (hd : ∀ σ H, Pv xs.length σ H → D.nx σ H) :
    ∃ W : Nat → Nat → L2.St → Hp → Prop, (∃ m, W 0 m σ H) ∧ ∀ i m σ H, W i m σ H →
      ((ItB K b a).stop i H ∧ D.nx σ H) ∨ ((ItB K b a).go i H ∧ ∃ N : L2.St → Hp → Prop, (∀ σ' H', N σ' H' → ∃ m', m' < m ∧ W (i + 1) m' σ' H') ∧ ∀ x H', (ItB K b a).yld i H x H' → g x σ H' fun σ2 H2 => tb { D with nx := N, ct := N, bk := D.nx } σ2 H2) := by
  cases b with
  | true => exact for_list Pv h0 hl hs hd
  | false => exact for_tup Pv h0 hl hs hd
theorem for_enumB {K : PySem.W.Frag} {b : Bool} {a : Addr} {xs : List V} {g : TG} {tb : TS} {D : Ends} {σ : L2.St} {H : Hp} (Pv : Nat → L2.St → Hp → Prop) (h0 : Pv 0 σ H) (hl : ∀ i σ H, i ≤ xs.length → Pv i σ H → SqB K b H a xs)
    (hs : ∀ i x σ H T, xs[i]? = some x → Pv i σ H → H T = none → g (.ref T) σ (upd H T (.tup [.int (i : Nat), x])) fun σ2 H2 => tb { D with nx := Pv (i + 1), ct := Pv (i + 1), bk := D.nx } σ2 H2) (hd : ∀ σ H, Pv xs.length σ H → D.nx σ H) :
    ∃ W : Nat → Nat → L2.St → Hp → Prop, (∃ m, W 0 m σ H) ∧ ∀ i m σ H, W i m σ H →
      ((EnB K b a).stop i H ∧ D.nx σ H) ∨ ((EnB K b a).go i H ∧ ∃ N : L2.St → Hp → Prop, (∀ σ' H', N σ' H' → ∃ m', m' < m ∧ W (i + 1) m' σ' H') ∧ ∀ x H', (EnB K b a).yld i H x H' → g x σ H' fun σ2 H2 => tb { D with nx := N, ct := N, bk := D.nx } σ2 H2) := by
  refine ⟨fun i m σ H => m = xs.length - i ∧ i ≤ xs.length ∧ Pv i σ H, ⟨_, rfl, Nat.zero_le _, h0⟩, fun i m σ H ⟨em, le, pv⟩ => ?_⟩
  have sq := hl i σ H le pv
  cases b with
  | true =>
    rcases Nat.lt_or_ge i xs.length with lt | ge
    · refine .inr ⟨⟨xs, xs[i], sq, List.getElem?_eq_getElem lt⟩, Pv (i + 1), fun σ' H' p => ⟨_, ?_, rfl, lt, p⟩, fun x H' y => ?_⟩
      · omega
      · obtain ⟨T, z, e1, nT, e2, ez⟩ := y
        rw [e1, e2]
        exact hs i z σ H T (ez xs sq) pv nT
    · obtain rfl : i = xs.length := Nat.le_antisymm le ge
      exact .inl ⟨⟨xs, sq, Nat.le_refl _⟩, hd σ H pv⟩
  | false =>
    rcases Nat.lt_or_ge i xs.length with lt | ge
    · refine .inr ⟨⟨xs, xs[i], sq, List.getElem?_eq_getElem lt⟩, Pv (i + 1), fun σ' H' p => ⟨_, ?_, rfl, lt, p⟩, fun x H' y => ?_⟩
      · omega
      · obtain ⟨T, z, e1, nT, e2, ez⟩ := y
        rw [e1, e2]
        exact hs i z σ H T (ez xs sq) pv nT
    · obtain rfl : i = xs.length := Nat.le_antisymm le ge
      exact .inl ⟨⟨xs, sq, Nat.le_refl _⟩, hd σ H pv⟩
/-- {..} over a list or a tuple that stays -/
theorem dc_itB {K : PySem.W.Frag} {b : Bool} {a : Addr} {xs : List V} {g : TG} {tt : TT} {tk tv : TE} {vs : List Nat} {σ : L2.St} {H1 : Hp} {D : Addr} {Qd : Hp → Prop} (Pv : Nat → Hp → Prop) (h0 : Pv 0 (upd H1 D (.dK []))) (hl : ∀ i H, i ≤ xs.length → Pv i H → SqB K b H a xs)
    (hs : ∀ i x H, xs[i]? = some x → Pv i H → g x (wipe σ vs) H fun σ2 H2 => wipe σ2 vs = wipe σ vs ∧ tt σ2 H2 fun c H3 =>
      if c = true then tk σ2 H3 fun y H4 => tv σ2 H4 fun z H5 => ∃ kvs k, y = kV k ∧ H5 D = some (.dK kvs) ∧ kvs.length < sizeLine ∧ Pv (i + 1) (upd H5 D (.dK (putK kvs k z))) else Pv (i + 1) H3) (hd : ∀ H, Pv xs.length H → Qd H) :
    ∃ W : Nat → Nat → Hp → Prop, (∃ m, W 0 m (upd H1 D (.dK []))) ∧ ∀ i m H, W i m H →
      ((ItB K b a).stop i H ∧ Qd H) ∨ ((ItB K b a).go i H ∧ ∃ Nx : Hp → Prop, (∀ H', Nx H' → ∃ m', m' < m ∧ W (i + 1) m' H') ∧ ∀ x H', (ItB K b a).yld i H x H' → g x (wipe σ vs) H' fun σ2 H2 => wipe σ2 vs = wipe σ vs ∧ tt σ2 H2 fun c H3 =>
        if c = true then tk σ2 H3 fun y H4 => tv σ2 H4 fun z H5 => ∃ kvs k, y = kV k ∧ H5 D = some (.dK kvs) ∧ kvs.length < sizeLine ∧ Nx (upd H5 D (.dK (putK kvs k z))) else Nx H3) := by
  refine ⟨fun i m H => m = xs.length - i ∧ i ≤ xs.length ∧ Pv i H, ⟨xs.length, by simp, Nat.zero_le _, h0⟩, ?_⟩
  rintro i m H ⟨rfl, hi, p⟩
  have q := hl i H hi p
  cases b with
  | true =>
    by_cases hlt : i < xs.length
    · refine .inr ⟨⟨xs, xs[i], q, by simp [hlt]⟩, Pv (i + 1), fun H' p' => ⟨xs.length - (i + 1), by omega, rfl, hlt, p'⟩, fun x H' y => ?_⟩
      obtain ⟨e, y⟩ := y
      subst e
      exact hs i x _ (y xs q) p
    · have e : i = xs.length := by omega
      subst e
      exact .inl ⟨⟨xs, q, Nat.le_refl _⟩, hd H p⟩
  | false =>
    by_cases hlt : i < xs.length
    · refine .inr ⟨⟨xs, xs[i], q, by simp [hlt]⟩, Pv (i + 1), fun H' p' => ⟨xs.length - (i + 1), by omega, rfl, hlt, p'⟩, fun x H' y => ?_⟩
      obtain ⟨e, y⟩ := y
      subst e
      exact hs i x _ (y xs q) p
    · have e : i = xs.length := by omega
      subst e
      exact .inl ⟨⟨xs, q, Nat.le_refl _⟩, hd H p⟩
end Mn

namespace K2
open PySem PySem.Spec PyProof.Rows L2 Mc Mx
section
variable {P : Program} {w : World} {K : PySem.W.Frag} {mg : Str → Option Value} {base : Heap}
local macro_rules | `(tactic| walk_at "rd1") => `(tactic| first
  | with_reducible refine g_seq ?_
  | with_reducible refine g_asg ?_
  | with_reducible refine g_name ?_
  | with_reducible refine g_c ?_
  | with_reducible refine g_op ?_
  | with_reducible refine g_ifS ?_
  | with_reducible refine g_if ?_
  | with_reducible refine g_test ?_
  | with_reducible refine g_B ?_
  | with_reducible refine g_bl ?_
  | with_reducible refine g_blV ?_
  | with_reducible refine g_not ?_
  | with_reducible refine g_and ?_
  | with_reducible refine g_or ?_
  | with_reducible refine g_notV ?_
  | with_reducible refine g_andV ?_
  | with_reducible refine g_orV ?_
  | with_reducible refine g_ret ?_
  | with_reducible refine g_drop ?_
  | with_reducible refine g_next ?_
  | with_reducible refine g_retN ?_
  | with_reducible refine g_call ?_
  | with_reducible refine g_cb ?_
  | with_reducible refine g_cons ?_
  | with_reducible refine g_nil ?_
  | with_reducible refine g_tup ?_
  | with_reducible refine g_lst ?_
  | with_reducible refine g_prop ?_
  | with_reducible refine g_fld ?_
  | with_reducible refine g_meth ?_
  | with_reducible refine g_chain ?_
  | with_reducible refine g_yes ?_
  | with_reducible refine g_make ?_
  | with_reducible refine g_makeK ?_
  | with_reducible refine g_gsub ?_
  | with_reducible refine g_sfld ?_
  | with_reducible refine g_un ?_
  | with_reducible refine g_bm ?_
  | with_reducible refine g_iteT ?_
  | with_reducible refine g_iteF ?_
  | with_reducible refine g_I0 ?_
  | with_reducible refine g_add ?_
  | with_reducible refine g_sub ?_
  | ((with_reducible refine' g_var ?hv ?_); (case hv => rfl))
  | ((with_reducible refine g_eq ?hv ?_); (case hv => rfl))
  | ((with_reducible refine g_ne ?hv ?_); (case hv => rfl)))
local macro_rules | `(tactic| walk_at "rd") => `(tactic| repeat (walk_at "rd1"))

local macro_rules | `(tactic| walk_at "ty") => `(tactic| first | exact .non | exact .bl _ | exact .int _ | exact .str _ | exact .lst (by assumption) | exact .tup (by assumption) | exact .dK (by assumption) | exact .kTup (by assumption) (by assumption))
local macro_rules | `(tactic| walk_at "isiF") => `(tactic| refine g_isi (by walk_at "ty") (b := false) (by decide +kernel) ?_)
local macro_rules | `(tactic| walk_at "isiT") => `(tactic| refine g_isi (by walk_at "ty") (b := true) (by decide +kernel) ?_)

theorem kit_lt : PySem.W.kitAny K (.type "list") [.type "list", .type "tuple"] = some true := by
  show (PySem.W.kitOne K (.type "list") (.type "list")).bind _ = _
  rw [kit_ty (r := true) (by decide +kernel)]
  rfl
theorem sqL_ext {H H' : Hp} {a : Addr} {xs : List V} (e : Same H H') (h : SqL K H a xs) : SqL K H' a xs := by
  rcases h with (h | ⟨o, h⟩) | h
  · exact .inl (.inl (e _ _ h))
  · exact .inl (.inr ⟨o, e _ _ h⟩)
  · exact .inr h
/-- a list or a tuple -/
def SeqV (K : PySem.W.Frag) (H : Hp) (a : Addr) (xs : List V) : Prop := H a = some (.lst xs) ∨ TupV K H a xs
theorem SeqV.ext {H H' : Hp} {a : Addr} {xs : List V} (e : Same H H') (h : SeqV K H a xs) : SeqV K H' a xs := h.imp (fun h => e _ _ h) fun h => TupV.ext e h
theorem SeqV.sq {H : Hp} {a : Addr} {xs : List V} (h : SeqV K H a xs) : SqL K H a xs ∨ SqT K H a xs := h.imp SqL.of fun h => h.sq
theorem kit_tt : PySem.W.kitAny K (.type "tuple") [.type "list", .type "tuple"] = some true := by
  have h1 : PySem.W.kitOne K (.type "tuple") (.type "list") = some false := kit_ty (r := false) (by decide +kernel)
  have h2 : PySem.W.kitOne K (.type "tuple") (.type "tuple") = some true := kit_ty (r := true) (by decide +kernel)
  simp only [PySem.W.kitAny, h1, h2]
theorem SeqV.ty {H : Hp} {a : Addr} {xs : List V} (h : SeqV K H a xs) : ∃ t, TyX K H (.ref a) t ∧ PySem.W.kitAny K t [.type "list", .type "tuple"] = some true := by
  rcases h with h | h
  · exact ⟨_, TyX.base (.lst h), kit_lt⟩
  · exact ⟨_, h.ty.x, kit_tt⟩
theorem SeqV.b {H : Hp} {a : Addr} {xs : List V} (h : SeqV K H a xs) : ∃ b, ∀ H', Same H H' → Mn.SqB K b H' a xs := by
  rcases h with h | h
  · exact ⟨true, fun H' e => SqL.of (e _ _ h)⟩
  · exact ⟨false, fun H' e => (TupV.ext e h).sq⟩
theorem g_ienumS {ta : TA} {σ : L2.St} {H : Hp} {R : It → Hp → Prop} (q : ta σ H fun vs H1 => ∃ a b xs, vs = [.ref a] ∧ Mn.SqB K b H1 a xs ∧ R (Mn.EnB K b a) H1) : Mn.iEnumS K ta σ H R := q
theorem kit_same {C : Addr} : PySem.W.kitOne K (.ref C) (.ref C) = some true := if_pos (by simp)
theorem g_tup2' {i j m : Nat} {a : Addr} {x y : V} {σ : L2.St} {H : Hp} {Q : L2.St → Hp → Prop} (hm : m = 2) (sq : SqT K H a [x, y]) (q : Q ((σ.set i (some x)).set j (some y)) H) : gTup K m (gCons (gName i) (gCons (gName j) gNil)) (.ref a) σ H Q :=
  ⟨a, [x, y], rfl, sq, hm.symm, x, [y], rfl, y, [], rfl, rfl, q⟩
structure ICls (K : PySem.W.Frag) (C : Addr) : Prop where
  ha : PySem.W.findIn K (.ref C) "__class__" = some (some (.builtin "object.__class__"))
  hn : PySem.W.specialIn K (.builtin "object.__class__") "__get__" = some (some (.builtin "getset_descriptor.__get__"))
  tk : PySem.W.takesIn K (.builtin "object.__class__") = some true
  hm : PySem.W.mroIn K C (.type "object") = some true
def spIsServ (K : PySem.W.Frag) : Sp := fun vs H Q _ => ∃ (r c : Addr) (z : Str), vs = [.ref r] ∧ TupV K H r [.str z, .ref c] ∧ Mc.TyB K H (.ref c) "tuple" ∧ isNm z = true ∧ z.length ≤ 1000 ∧ ∀ H', Same H H' → Q (.bl true) H'
theorem ok_is_service (T : Txt K mg) (D : Def K mg "_is_service" s_is_service ["row"]) (c_is_name : Cal P w K mg base 1 "is_name" (spName K)) : Cal P w K mg base 2 "_is_service" (spIsServ K) := by
  refine cal_of D sc_is_service (fun vs H Q E h => ?_) (fun f cdv A outer s H vs Q E hr h => ?_)
  · obtain ⟨r, c, z, rfl, _⟩ := h
    rfl
  · obtain ⟨r, c, z, rfl, tr, tc, hz, hl, q⟩ := h
    refine ⟨_, (pss_one (ps_ret (pe_and (pe_callB call_isi (by rfl) T.n_isinstance (by decide +kernel) (pa_cons (pv 0) (pa_cons (pe_ty "tuple" (by rfl) T.n_tuple (by decide +kernel)) pa_nil))) (pe_and (pe_cmpR op_eq (pe_callB call_len_seq (by rfl) T.n_len (by decide +kernel) (pa_cons (pv 0) pa_nil)) pe_int (nomark _)) (pe_and (pe_f c_is_name hr (by decide) (by rfl) (pa_cons (pe_ix ix_tup (pv 0) pe_int (fun _ _ => rfl)) pa_nil)) (pe_one (pe_callB call_isi (by rfl) T.n_isinstance (by decide +kernel) (pa_cons (pe_ix ix_tup (pv 0) pe_int (fun _ _ => rfl)) (pa_cons (pe_ty "tuple" (by rfl) T.n_tuple (by decide +kernel)) pa_nil))))))))), ?_⟩
    walk_at "rd"
    refine g_isi tr.ty (b := true) (by decide +kernel) ?_
    walk_at "rd"
    refine ⟨r, _, rfl, .inr tr.sq, ?_⟩
    walk_at "rd"
    refine g_andC (len_yes (by simp)) ?_
    walk_at "rd"
    refine g_ixT tr.sq (v := .str z) (atI_nat (j := 0) rfl) ?_
    walk_at "rd"
    refine ⟨.str z, "str", rfl, .str _, (fun y hy => by cases hy; exact hl), fun H1 S1 => ?_⟩
    rw [show nmV (.str z) = true from hz]
    walk_at "rd"
    refine g_ixT (TupV.ext S1 tr).sq (v := .ref c) (atI_nat (j := 1) rfl) ?_
    walk_at "rd"
    refine g_isi (K2.TyB.ext S1 tc) (b := true) (by decide +kernel) ?_
    exact q _ S1
theorem inV_str {z : Str} : ∀ {l : List Str}, inV (.str z) (l.map V.str) = decide (z ∈ l)
  | [] => rfl
  | y :: l => by
    have ih := inV_str (z := z) (l := l)
    have e : inV (.str z) ((y :: l).map V.str) = ((y == z) || inV (.str z) (l.map V.str)) := rfl
    rw [e, ih]
    by_cases h : y = z
    · subst h; simp
    · have h2 : (y == z) = false := beq_false_of_ne h
      rw [h2, Bool.false_or]
      have : (z ∈ y :: l) ↔ z ∈ l := by
        rw [List.mem_cons]
        exact ⟨fun k => k.elim (fun k => absurd k.symm h) id, .inr⟩
      exact (decide_eq_decide.mpr this).symm
theorem flat_strs (l : List Str) : (l.map V.str).all flatV = true := by
  rw [List.all_map, List.all_eq_true]
  intro z _
  rfl
theorem nodup_take {l : List Str} (h : l.Nodup) {i : Nat} {z : Str} (hz : l[i]? = some z) : z ∉ l.take i := fun hm => by
  obtain ⟨j, hj⟩ := List.mem_iff_getElem?.mp hm
  rw [List.getElem?_take] at hj
  split at hj
  · rename_i lt
    obtain ⟨h1, e1⟩ := List.getElem?_eq_some_iff.mp hj
    obtain ⟨h2, e2⟩ := List.getElem?_eq_some_iff.mp hz
    have := (List.getElem_inj h).mp (e1.trans e2.symm)
    omega
  · cases hj
abbrev nmP (ps : Ps) : List Str := ps.map fun x => x.2.z
abbrev rfP (ps : Ps) : List V := ps.map fun x => V.ref x.1
def spChkPol (K : PySem.W.Frag) (C : Addr) : Sp := fun vs H Q _ => ∃ (a : Addr) (ps : Ps), vs = [.ref a] ∧ SeqV K H a (rfP ps) ∧ PolsAt K C H ps ∧ ps.length ≤ 8 ∧ (nmP ps).Nodup ∧ ∀ H', Same H H' → Q .non H'
theorem ok_chk_pol {C : Addr} (T : Txt K mg) (D : Def K mg "_check_policies" s_check_policies ["policies"]) (PR : Prps P w K mg base C) (TC : CTxt K C) (IC : ICls K C) (gP : mg "Policy" = some (.ref C)) : Cal P w K mg base 3 "_check_policies" (spChkPol K C) := by
  have pr_name := PR.name
  refine cal_of D sc_check_policies (fun vs H Q E h => ?_) (fun f cdv A outer s H vs Q E hr h => ?_)
  · obtain ⟨a, ps, rfl, _⟩ := h
    rfl
  · obtain ⟨a, ps, rfl, ha, pa, hl, hnd, q⟩ := h
    refine ⟨_, (pss_cons (ps_if (PW.pt (pw_or (pt_not (pt_val (pe_callB call_isiT (by rfl) T.n_isinstance (by decide +kernel) (pa_cons (pv 0) (pa_cons (pe_tup (pa_cons (pe_ty "list" (by rfl) T.n_list (by decide +kernel)) (pa_cons (pe_ty "tuple" (by rfl) T.n_tuple (by decide +kernel)) pa_nil))) pa_nil))))) (pw_or1 (pt_cmpR op_gt (pe_callB call_len_seq (by rfl) T.n_len (by decide +kernel) (pa_cons (pv 0) pa_nil)) (pe_gx rfl T.g_MOST_POLICIES) (nomark _))))) (pss_one ps_never) pss_nil)
      (pss_cons (ps_set (i := 1) sc_check_policies.nd rfl (Or.inl rfl) (pe_lst pa_nil))
      (pss_one (ps_for PassesOwn.never rfl (Mn.pi_enumS (by rfl) T.n_enumerate (pa_cons (pv 0) pa_nil)) (pg_tup rfl (pgs_cons (pg_name (i := 2) sc_check_policies.nd rfl (Or.inl rfl)) (pgs_cons (pg_name (i := 3) sc_check_policies.nd rfl (Or.inl rfl)) pgs_nil))) (pss_cons (ps_if (PW.pt (pw_or (pt_not (pt_val (pe_callB call_isi (by rfl) T.n_isinstance (by decide +kernel) (pa_cons (pv 3) (pa_cons (pe_gx (v := .ref C) rfl ⟨_, gP, rfl⟩) pa_nil))))) (pw_or1 (pt_cmpR op_in_seq (pe_pr pr_name hr (by decide) (pv 3)) (pv 1) (by rfl))))) (pss_one ps_never) pss_nil)
      (pss_one (ps_expr (pe_bm PySem.F.plainAttrs_list PySem.F.slot_list_append PySem.F.type_list_append mt_append (pv 1) (pa_cons (pe_pr pr_name hr (by decide) (pv 3)) pa_nil))))))))), ?_⟩
    walk_at "rd"
    refine tupG_same (by decide) fun tp H1 _ S1 htp => ?_
    walk_at "rd"
    obtain ⟨ta, tya, kta⟩ := (SeqV.ext S1 ha).ty
    refine ⟨.ref a, tp, _, _, _, true, rfl, htp, .cons (.ty _) (.cons (.ty _) .nil), tya, kta, ?_⟩
    walk_at "rd"
    show (if false = true then _ else _)
    walk_at "rd"
    refine ⟨a, _, rfl, (SeqV.ext S1 ha).sq, ?_⟩
    walk_at "rd"
    refine g_andC0 (decide_eq_false (by rw [List.length_map]; omega)) ?_
    walk_at "rd"
    refine ⟨(by show 0 ≤ sizeLine; decide), fun L hL => ?_⟩
    walk_at "rd"
    have S2 := Same.trans S1 (same_new (o := .lst []) hL)
    have hL2 : upd H1 L (.lst []) L = some (.lst []) := upd_same
    have hL0 : H L = none := by
      cases e : H L with
      | none => rfl
      | some o => rw [S1 _ _ e] at hL; cases hL
    generalize upd H1 L (.lst []) = H2 at S2 hL2 ⊢
    dsimp only
    obtain ⟨b, sb⟩ := SeqV.b ha
    refine g_for (g_ienumS ?_)
    walk_at "rd"
    refine ⟨a, b, _, rfl, sb _ S2, ?_⟩
    refine Mn.for_enumB (fun i σ H' => ∃ o2 o3 : Option V, σ = [some (.ref a), some (.ref L), o2, o3] ∧ Same H H' ∧ H' L = some (.lst (((nmP ps).take i).map V.str))) ⟨_, _, rfl, S2, by rw [hL2]; rfl⟩ (fun i σ H' _ ⟨_, _, _, e, _⟩ => sb _ e) ?_ ?_
    · rintro i x σ H3 U hx ⟨o2, o3, rfl, S3, h3⟩ hU
      rw [List.getElem?_map] at hx
      obtain ⟨y, hy, rfl⟩ := Option.map_eq_some_iff.mp hx
      have hn : (nmP ps)[i]? = some y.2.z := by rw [List.getElem?_map, hy]; rfl
      have hi : i < 8 := by have := (List.getElem?_eq_some_iff.mp hy).1; omega
      have hUL : U ≠ L := fun z => by rw [z, h3] at hU; cases hU
      refine g_tup2' rfl (SqT.of upd_same) ?_
      have S4 := Same.trans S3 (same_new (o := .tup [.int (i : Nat), .ref y.1]) hU)
      have h4 : upd H3 U (.tup [.int (i : Nat), .ref y.1]) L = some (.lst (((nmP ps).take i).map V.str)) := by rw [upd_ne hUL.symm]; exact h3
      generalize upd H3 U (.tup [.int (i : Nat), .ref y.1]) = H4 at S4 h4 ⊢
      obtain ⟨dx, pp, ga, hpp, _⟩ := (pa y (List.mem_of_getElem? hy)).1.ext S4
      walk_at "rd"
      refine ⟨_, _, _, _, true, rfl, .own _, TyX.base (.ins hpp TC.cl IC.ha IC.hn IC.tk IC.hm), kit_same, ?_⟩
      walk_at "rd"
      show (if false = true then _ else _)
      walk_at "rd"
      refine ⟨y.1, dx, _, rfl, hpp, y.1, dx, _, _, rfl, hpp, lk1, ?_⟩
      walk_at "rd"
      refine ⟨L, _, rfl, .inl (SqL.of h4), rfl, flat_strs _, ?_⟩
      walk_at "rd"
      refine g_andC0 (by
        show inV (.str y.2.z) _ = false
        rw [inV_str]
        exact decide_eq_false (nodup_take hnd hn)) ?_
      walk_at "rd"
      refine ⟨.inl ⟨rfl, _, SqL.of h4⟩, ?_⟩
      walk_at "rd"
      refine ⟨y.1, dx, _, rfl, hpp, y.1, dx, _, _, rfl, hpp, lk1, ?_⟩
      walk_at "rd"
      refine ⟨L, _, _, rfl, rfl, h4, small1000 (by rw [List.length_map, List.length_take]; omega), ?_⟩
      refine ⟨_, _, rfl, same_upd hL0 S4, ?_⟩
      rw [upd_same, ← take_map V.str hn]
    · rintro σ H3 ⟨o2, o3, rfl, S3, _⟩
      walk_at "rd"
      exact q _ S3
/-- a service: its name, its block -/
structure Rw where
  z : Str
  c : Addr
  b : List Tr
  xs : List V
structure RwAt (K : PySem.W.Frag) (H : Hp) (x : Rw) : Prop where
  c : TupV K H x.c x.xs
  b : RepB K H x.b x.xs
  nm : isNm x.z = true
  hl : (pio x.b 0).length ≤ 1000
theorem RwAt.ext {H H' : Hp} {x : Rw} (e : Same H H') (h : RwAt K H x) : RwAt K H' x := ⟨h.c.ext e, RepB.kp (Kp.of e) _ _ h.b, h.nm, h.hl⟩
def RwsAt (K : PySem.W.Frag) (H : Hp) (rs : List Rw) : Prop := ∀ x ∈ rs, RwAt K H x
theorem RwsAt.ext {H H' : Hp} {rs : List Rw} (e : Same H H') (h : RwsAt K H rs) : RwsAt K H' rs := fun x hx => (h x hx).ext e
/-- the tuples of services -/
def SrvAt (K : PySem.W.Frag) (H : Hp) : List Addr → List Rw → Prop
  | [], rs => rs = []
  | r :: rr, rs => ∃ x ys, rs = x :: ys ∧ TupV K H r [.str x.z, .ref x.c] ∧ SrvAt K H rr ys
theorem SrvAt.ext {H H' : Hp} (e : Same H H') : ∀ {rr : List Addr} {rs : List Rw}, SrvAt K H rr rs → SrvAt K H' rr rs
  | [], _, h => h
  | r :: rr, _, ⟨x, ys, e1, t, h⟩ => ⟨x, ys, e1, t.ext e, SrvAt.ext e h⟩
theorem SrvAt.len {H : Hp} : ∀ {rr : List Addr} {rs : List Rw}, SrvAt K H rr rs → rr.length = rs.length
  | [], rs, h => by
    have h : rs = [] := h
    rw [h]; rfl
  | r :: rr, rs, ⟨x, ys, e1, t, h⟩ => by
    subst e1
    exact congrArg (· + 1) (SrvAt.len h)
theorem SrvAt.get {H : Hp} : ∀ {rr : List Addr} {rs : List Rw} {i : Nat} {r : Addr}, SrvAt K H rr rs → rr[i]? = some r → ∃ x, rs[i]? = some x ∧ TupV K H r [.str x.z, .ref x.c]
  | [], rs, i, r, h, e => by cases e
  | q :: rr, rs, i, r, ⟨x, ys, e1, t, h⟩, e => by
    subst e1
    cases i with
    | zero => cases e; exact ⟨x, rfl, t⟩
    | succ i => exact SrvAt.get (rr := rr) (i := i) h e
theorem SrvAt.app {H : Hp} : ∀ {rr qq : List Addr} {rs ss : List Rw}, SrvAt K H rr rs → SrvAt K H qq ss → SrvAt K H (rr ++ qq) (rs ++ ss)
  | [], qq, rs, ss, h, h' => by
    have h : rs = [] := h
    subst h
    exact h'
  | r :: rr, qq, rs, ss, ⟨x, ys, e1, t, h⟩, h' => by
    subst e1
    exact ⟨x, ys ++ ss, rfl, t, SrvAt.app h h'⟩
theorem SrvAt.one {H : Hp} {r : Addr} {x : Rw} (t : TupV K H r [.str x.z, .ref x.c]) : SrvAt K H [r] [x] := ⟨x, [], rfl, t, rfl⟩
abbrev nmR (rs : List Rw) : List Str := rs.map fun x => x.z
def spChkServ (K : PySem.W.Frag) : Sp := fun vs H Q _ => ∃ (a : Addr) (rr : List Addr) (rs : List Rw), vs = [.ref a] ∧ SeqV K H a (rr.map V.ref) ∧ SrvAt K H rr rs ∧ RwsAt K H rs ∧ 1 ≤ rs.length ∧ rs.length ≤ 6 ∧ (nmR rs).Nodup ∧ ∀ H', Same H H' → Q .non H'
theorem ok_chk_serv (T : Txt K mg) (D : Def K mg "_check_services" s_check_services ["services"]) (c_is_service : Cal P w K mg base 2 "_is_service" (spIsServ K)) : Cal P w K mg base 3 "_check_services" (spChkServ K) := by
  refine cal_of D sc_check_services (fun vs H Q E h => ?_) (fun f cdv A outer s H vs Q E hr h => ?_)
  · obtain ⟨a, rr, rs, rfl, _⟩ := h
    rfl
  · obtain ⟨a, rr, rs, rfl, ha, hsr, hrs, hl1, hl, hnd, q⟩ := h
    have hrl := hsr.len
    refine ⟨_, (pss_cons (ps_if (PW.pt (pw_or (pt_not (pt_val (pe_callB call_isiT (by rfl) T.n_isinstance (by decide +kernel) (pa_cons (pv 0) (pa_cons (pe_tup (pa_cons (pe_ty "list" (by rfl) T.n_list (by decide +kernel)) (pa_cons (pe_ty "tuple" (by rfl) T.n_tuple (by decide +kernel)) pa_nil))) pa_nil))))) (pw_or1 (pt_not (pt_chain op_le op_le pe_int (pe_callB call_len_seq (by rfl) T.n_len (by decide +kernel) (pa_cons (pv 0) pa_nil)) (pe_gx rfl T.g_MOST_SERVICES)))))) (pss_one ps_never) pss_nil)
      (pss_cons (ps_set (i := 1) sc_check_services.nd rfl (Or.inl rfl) (pe_lst pa_nil))
      (pss_one (ps_for PassesOwn.never rfl (Mn.pi_enumS (by rfl) T.n_enumerate (pa_cons (pv 0) pa_nil)) (pg_tup rfl (pgs_cons (pg_name (i := 2) sc_check_services.nd rfl (Or.inl rfl)) (pgs_cons (pg_name (i := 3) sc_check_services.nd rfl (Or.inl rfl)) pgs_nil))) (pss_cons (ps_if (PW.pt (pw_or (pt_not (pt_val (pe_f c_is_service hr (by decide) (by rfl) (pa_cons (pv 3) pa_nil)))) (pw_or1 (pt_cmpR op_in_seq (pe_ix ix_tup (pv 3) pe_int (fun _ _ => rfl)) (pv 1) (by rfl))))) (pss_one ps_never) pss_nil)
      (pss_one (ps_expr (pe_bm PySem.F.plainAttrs_list PySem.F.slot_list_append PySem.F.type_list_append mt_append (pv 1) (pa_cons (pe_ix ix_tup (pv 3) pe_int (fun _ _ => rfl)) pa_nil))))))))), ?_⟩
    walk_at "rd"
    refine tupG_same (by decide) fun tp H1 _ S1 htp => ?_
    walk_at "rd"
    obtain ⟨ta, tya, kta⟩ := (SeqV.ext S1 ha).ty
    refine ⟨.ref a, tp, _, _, _, true, rfl, htp, .cons (.ty _) (.cons (.ty _) .nil), tya, kta, ?_⟩
    walk_at "rd"
    show (if false = true then _ else _)
    walk_at "rd"
    refine ⟨a, _, rfl, (SeqV.ext S1 ha).sq, ?_⟩
    walk_at "rd"
    refine g_andC (decide_eq_true (by rw [List.length_map]; omega)) ?_
    walk_at "rd"
    rw [show decide (((rr.map V.ref).length : Int) ≤ 6) = true from decide_eq_true (by rw [List.length_map]; omega)]
    walk_at "rd"
    show (if false = true then _ else _)
    walk_at "rd"
    refine ⟨(by show 0 ≤ sizeLine; decide), fun L hL => ?_⟩
    walk_at "rd"
    have S2 := Same.trans S1 (same_new (o := .lst []) hL)
    have hL2 : upd H1 L (.lst []) L = some (.lst []) := upd_same
    have hL0 : H L = none := by
      cases e : H L with
      | none => rfl
      | some o => rw [S1 _ _ e] at hL; cases hL
    generalize upd H1 L (.lst []) = H2 at S2 hL2 ⊢
    dsimp only
    obtain ⟨b, sb⟩ := SeqV.b ha
    refine g_for (g_ienumS ?_)
    walk_at "rd"
    refine ⟨a, b, _, rfl, sb _ S2, ?_⟩
    refine Mn.for_enumB (fun i σ H' => ∃ o2 o3 : Option V, σ = [some (.ref a), some (.ref L), o2, o3] ∧ Same H H' ∧ H' L = some (.lst (((nmR rs).take i).map V.str))) ⟨_, _, rfl, S2, by rw [hL2]; rfl⟩ (fun i σ H' _ ⟨_, _, _, e, _⟩ => sb _ e) ?_ ?_
    · rintro i x σ H3 U hx ⟨o2, o3, rfl, S3, h3⟩ hU
      rw [List.getElem?_map] at hx
      obtain ⟨y, hy, rfl⟩ := Option.map_eq_some_iff.mp hx
      have hi : i < 6 := by have := (List.getElem?_eq_some_iff.mp hy).1; omega
      obtain ⟨x, hx, ty⟩ := hsr.get hy
      have hn : (nmR rs)[i]? = some x.z := by rw [List.getElem?_map, hx]; rfl
      have ry := hrs x (List.mem_of_getElem? hx)
      have hUL : U ≠ L := fun z => by rw [z, h3] at hU; cases hU
      refine g_tup2' rfl (SqT.of upd_same) ?_
      have S4 := Same.trans S3 (same_new (o := .tup [.int (i : Nat), .ref y]) hU)
      have h4 : upd H3 U (.tup [.int (i : Nat), .ref y]) L = some (.lst (((nmR rs).take i).map V.str)) := by rw [upd_ne hUL.symm]; exact h3
      generalize upd H3 U (.tup [.int (i : Nat), .ref y]) = H4 at S4 h4 ⊢
      have r4 := ry.ext S4
      walk_at "rd"
      refine ⟨y, x.c, x.z, rfl, ty.ext S4, r4.c.ty, r4.nm, nm_short r4.nm, fun H5 S45 => ?_⟩
      walk_at "rd"
      show (if false = true then _ else _)
      walk_at "rd"
      have S5 := Same.trans S4 S45
      have h5 : H5 L = some (.lst (((nmR rs).take i).map V.str)) := S45 _ _ h4
      refine g_ixT (ty.ext S5).sq (v := .str x.z) (atI_nat (j := 0) rfl) ?_
      walk_at "rd"
      refine ⟨L, _, rfl, .inl (SqL.of h5), rfl, flat_strs _, ?_⟩
      walk_at "rd"
      refine g_andC0 (by
        show inV (.str x.z) _ = false
        rw [inV_str]
        exact decide_eq_false (nodup_take hnd hn)) ?_
      walk_at "rd"
      refine ⟨.inl ⟨rfl, _, SqL.of h5⟩, ?_⟩
      walk_at "rd"
      refine g_ixT (ty.ext S5).sq (v := .str x.z) (atI_nat (j := 0) rfl) ?_
      walk_at "rd"
      refine ⟨L, _, _, rfl, rfl, h5, small1000 (by rw [List.length_map, List.length_take]; omega), ?_⟩
      refine ⟨_, _, rfl, same_upd hL0 S5, ?_⟩
      rw [upd_same, ← take_map V.str hn]
    · rintro σ H3 ⟨o2, o3, rfl, S3, _⟩
      walk_at "rd"
      exact q _ S3
end
end K2

namespace K2
open PySem PySem.Spec PyProof.Rows L2 Mc Mx
/-- {..} over a list that stays -/
theorem dc_list {K : PySem.W.Frag} {a : Addr} {xs : List V} {g : TG} {tt : TT} {tk tv : TE} {vs : List Nat} {σ : L2.St} {H1 : Hp} {D : Addr} {Qd : Hp → Prop} (Pv : Nat → Hp → Prop) (h0 : Pv 0 (upd H1 D (.dK []))) (hl : ∀ i H, i ≤ xs.length → Pv i H → SqL K H a xs)
    (hs : ∀ i x H, xs[i]? = some x → Pv i H → g x (wipe σ vs) H fun σ2 H2 => wipe σ2 vs = wipe σ vs ∧ tt σ2 H2 fun b H3 =>
      if b = true then tk σ2 H3 fun y H4 => tv σ2 H4 fun z H5 => ∃ kvs k, y = kV k ∧ H5 D = some (.dK kvs) ∧ kvs.length < sizeLine ∧ Pv (i + 1) (upd H5 D (.dK (putK kvs k z))) else Pv (i + 1) H3) (hd : ∀ H, Pv xs.length H → Qd H) :
    ∃ W : Nat → Nat → Hp → Prop, (∃ m, W 0 m (upd H1 D (.dK []))) ∧ ∀ i m H, W i m H →
      ((Itl K a).stop i H ∧ Qd H) ∨ ((Itl K a).go i H ∧ ∃ Nx : Hp → Prop, (∀ H', Nx H' → ∃ m', m' < m ∧ W (i + 1) m' H') ∧ ∀ x H', (Itl K a).yld i H x H' → g x (wipe σ vs) H' fun σ2 H2 => wipe σ2 vs = wipe σ vs ∧ tt σ2 H2 fun b H3 =>
        if b = true then tk σ2 H3 fun y H4 => tv σ2 H4 fun z H5 => ∃ kvs k, y = kV k ∧ H5 D = some (.dK kvs) ∧ kvs.length < sizeLine ∧ Nx (upd H5 D (.dK (putK kvs k z))) else Nx H3) := by
  refine ⟨fun i m H => m = xs.length - i ∧ i ≤ xs.length ∧ Pv i H, ⟨xs.length, by simp, Nat.zero_le _, h0⟩, ?_⟩
  rintro i m H ⟨rfl, hi, p⟩
  have q := hl i H hi p
  by_cases hlt : i < xs.length
  · refine .inr ⟨⟨xs, xs[i], q, by simp [hlt]⟩, Pv (i + 1), fun H' p' => ⟨xs.length - (i + 1), by omega, rfl, hlt, p'⟩, fun x H' y => ?_⟩
    obtain ⟨e, y⟩ := y
    subst e
    exact hs i x _ (y xs q) p
  · have e : i = xs.length := by omega
    subst e
    exact .inl ⟨⟨xs, q, Nat.le_refl _⟩, hd H p⟩
theorem g_iseq {K : PySem.W.Frag} {te : TE} {σ : L2.St} {H : Hp} {R : It → Hp → Prop} (q : te σ H fun x H1 => ∃ a b xs, x = .ref a ∧ Mn.SqB K b H1 a xs ∧ R (Mn.ItB K b a) H1) : Mn.iSeq K te σ H R := q
section
variable {P : Program} {w : World} {K : PySem.W.Frag} {mg : Str → Option Value} {base : Heap}
local macro_rules | `(tactic| walk_at "rd1") => `(tactic| first
  | with_reducible refine g_seq ?_
  | with_reducible refine g_asg ?_
  | with_reducible refine g_name ?_
  | with_reducible refine g_c ?_
  | with_reducible refine g_op ?_
  | with_reducible refine g_ifS ?_
  | with_reducible refine g_if ?_
  | with_reducible refine g_test ?_
  | with_reducible refine g_B ?_
  | with_reducible refine g_bl ?_
  | with_reducible refine g_blV ?_
  | with_reducible refine g_not ?_
  | with_reducible refine g_and ?_
  | with_reducible refine g_or ?_
  | with_reducible refine g_notV ?_
  | with_reducible refine g_andV ?_
  | with_reducible refine g_orV ?_
  | with_reducible refine g_ret ?_
  | with_reducible refine g_drop ?_
  | with_reducible refine g_next ?_
  | with_reducible refine g_retN ?_
  | with_reducible refine g_call ?_
  | with_reducible refine g_cb ?_
  | with_reducible refine g_cons ?_
  | with_reducible refine g_nil ?_
  | with_reducible refine g_tup ?_
  | with_reducible refine g_lst ?_
  | with_reducible refine g_prop ?_
  | with_reducible refine g_fld ?_
  | with_reducible refine g_meth ?_
  | with_reducible refine g_chain ?_
  | with_reducible refine g_yes ?_
  | with_reducible refine g_make ?_
  | with_reducible refine g_makeK ?_
  | with_reducible refine g_gsub ?_
  | with_reducible refine g_sfld ?_
  | with_reducible refine g_un ?_
  | with_reducible refine g_bm ?_
  | with_reducible refine g_iteT ?_
  | with_reducible refine g_iteF ?_
  | with_reducible refine g_I0 ?_
  | with_reducible refine g_add ?_
  | with_reducible refine g_sub ?_
  | ((with_reducible refine' g_var ?hv ?_); (case hv => rfl))
  | ((with_reducible refine g_eq ?hv ?_); (case hv => rfl))
  | ((with_reducible refine g_ne ?hv ?_); (case hv => rfl)))
local macro_rules | `(tactic| walk_at "rd") => `(tactic| repeat (walk_at "rd1"))

local macro_rules | `(tactic| walk_at "ty") => `(tactic| first | exact .non | exact .bl _ | exact .int _ | exact .str _ | exact .lst (by assumption) | exact .tup (by assumption) | exact .dK (by assumption) | exact .kTup (by assumption) (by assumption))
local macro_rules | `(tactic| walk_at "isiF") => `(tactic| refine g_isi (by walk_at "ty") (b := false) (by decide +kernel) ?_)
local macro_rules | `(tactic| walk_at "isiT") => `(tactic| refine g_isi (by walk_at "ty") (b := true) (by decide +kernel) ?_)

structure STx (K : PySem.W.Frag) (C : Addr) : Prop where
  cl : Cls K C
  n1 : NoAttr K C "_policies"
  n2 : NoAttr K C "_blocks"
  n3 : NoAttr K C "_spans"
def sfs (dp db ds : Addr) : List (Str × V) := [("_policies", .ref dp), ("_blocks", .ref db), ("_spans", .ref ds)]
theorem sf_all {a b c : V} : putF "_spans" c (putF "_blocks" b (putF "_policies" a [])) = ([("_policies", a), ("_blocks", b), ("_spans", c)] : List (Str × V)) := by
  rw [pf_nil, pf_skip (f := "_blocks") (h := "_policies") (by decide +kernel), pf_nil, pf_skip (f := "_spans") (h := "_policies") (by decide +kernel), pf_skip (f := "_spans") (h := "_blocks") (by decide +kernel), pf_nil]
theorem slk1 {dp db ds : Addr} : (sfs dp db ds).lookup ("_policies" : Str) = some (.ref dp) := rfl
theorem slk2 {dp db ds : Addr} : (sfs dp db ds).lookup ("_blocks" : Str) = some (.ref db) := rfl
theorem slk3 {dp db ds : Addr} : (sfs dp db ds).lookup ("_spans" : Str) = some (.ref ds) := rfl
theorem none_of {H H' : Hp} {a : Addr} (e : Same H H') (h : H' a = none) : H a = none := by
  cases q : H a with
  | none => rfl
  | some o => rw [e _ _ q] at h; cases h
theorem ne_obj {H : Hp} {a b : Addr} {o u : HO} (h : H a = some o) (h' : H b = some u) (n : o ≠ u) : a ≠ b := fun e => by
  rw [e, h'] at h
  exact n (Option.some.inj h).symm
theorem g_dc {wi : TI} {g : TG} {tt : TT} {tk tv : TE} {vs : List Nat} {σ : L2.St} {H : Hp} {Q : VK} (q : wi σ H fun J H1 => ∀ D, H1 D = none → ∃ W : Nat → Nat → Hp → Prop, (∃ m, W 0 m (upd H1 D (.dK []))) ∧ ∀ i m H, W i m H →
  (J.stop i H ∧ Q (.ref D) H) ∨ (J.go i H ∧ ∃ Nx : Hp → Prop, (∀ H', Nx H' → ∃ m', m' < m ∧ W (i + 1) m' H') ∧ ∀ x H', J.yld i H x H' → g x (wipe σ vs) H' fun σ2 H2 => wipe σ2 vs = wipe σ vs ∧ tt σ2 H2 fun b H3 =>
    if b = true then tk σ2 H3 fun y H4 => tv σ2 H4 fun z H5 => ∃ kvs k, y = kV k ∧ H5 D = some (.dK kvs) ∧ kvs.length < sizeLine ∧ Nx (upd H5 D (.dK (putK kvs k z))) else Nx H3)) : tDc wi g tt tk tv vs σ H Q := q
abbrev psS : List Str := ["self", "policies", "services"]
abbrev tlOE : List Value := [.type "OverflowError", .type "ArithmeticError", .type "Exception", .type "BaseException", .type "object"]
theorem ok_TooLong {C f cda cc : Addr} {fd : FuncData} (D : SupD P K "__init__" "TooLong.__init__" (defArgs s_TooLonginit) (defBody s_TooLonginit) (defScope s_TooLonginit) C f fd cda cc) (T : SupCB "OverflowError" "OverflowError.__new__" "OverflowError.__init__" tlOE P K mg C) (nf : PySem.W.findIn K (.ref C) "service" = some none) :
    FnOk P w K mg base CX0 1 f fd ["self", "service"] (spEx C "service") := by
  refine fn_supB base_OE D T sc_TooLonginit rfl rfl (by decide +kernel) (by decide +kernel) (fun vs H Q E h => ?_) (fun L => ⟨_, rfl⟩) (fun A outer s H vs Q E h => ?_)
  · obtain ⟨a, v, rfl, _⟩ := h
    rfl
  · obtain ⟨a, v, rfl, ha, q⟩ := h
    refine ⟨a, rfl, ha, _, pss_one (ps_ostB base_OE (pv 0) (pv 1)), ?_⟩
    refine g_ostB ?_
    walk_at "rd"
    exact ⟨a, C, rfl, T.ox, nf, ha, q⟩
theorem val_by {α : Type} (f : α → Str) (g : α → V) (z : Str) : ∀ l : List α, valV (l.map fun x => ((Sum.inr (f x) : Key), g x)) (Sum.inr z) = (l.find? fun x => decide (f x = z)).map g
  | [] => rfl
  | x :: l => by
    by_cases h : f x = z
    · have e1 : valV ((x :: l).map fun x => ((Sum.inr (f x) : Key), g x)) (Sum.inr z) = some (g x) := valV_pos (p := ((Sum.inr (f x) : Key), g x)) (by rw [h])
      rw [e1]
      simp [h]
    · have e1 : valV ((x :: l).map fun x => ((Sum.inr (f x) : Key), g x)) (Sum.inr z) = valV (l.map fun x => ((Sum.inr (f x) : Key), g x)) (Sum.inr z) := valV_neg (p := ((Sum.inr (f x) : Key), g x)) (fun k => h (Sum.inr.inj k))
      rw [e1, val_by f g z l]
      simp [h]
theorem find_no {α : Type} {f : α → Str} {l : List α} {z : Str} (h : z ∉ l.map f) : (l.find? fun x => decide (f x = z)) = none := by
  rw [List.find?_eq_none]
  intro x hx
  simp only [decide_eq_true_eq]
  exact fun e => h (List.mem_map.mpr ⟨x, hx, e⟩)
/-- the next key of a dict that is filled in order -/
theorem put_by {α : Type} {f : α → Str} {g : α → V} {l : List α} {i : Nat} {x : α} (hn : (l.map f).Nodup) (h : l[i]? = some x) : putK ((l.take i).map fun x => ((Sum.inr (f x) : Key), g x)) (Sum.inr (f x)) (g x) = (l.take (i + 1)).map fun x => ((Sum.inr (f x) : Key), g x) := by
  have hz : (l.map f)[i]? = some (f x) := by rw [List.getElem?_map, h]; rfl
  have no := nodup_take hn hz
  rw [← List.map_take] at no
  rw [putK_new _ (by rw [val_by, find_no no]; rfl), List.take_add_one, h, List.map_append]
  rfl
inductive Er where
  | part (z : Str) (i : Nat)
  | name (z : Str)
  | long (z : Str)
abbrev bk (rs : List Rw) : List (Key × V) := rs.map fun x => (Sum.inr x.z, V.ref x.c)
abbrev sk (ps : Ps) (rs : List Rw) : List (Key × V) := rs.map fun x => (Sum.inr x.z, V.int (spanB (spOf ps) x.b))
/-- what becomes of a system -/
def sysOut (ps : Ps) : List Rw → List (Key × V) → Option Er
  | [], _ => none
  | x :: rs, k => match wr (pio x.b 0) 0 with
    | some i => some (.part x.z i)
    | none => match nmErr (hasK k) (hasP ps) (csOf (pio x.b 0)) with
      | some z => some (.name z)
      | none => if 400 < spanB (spOf ps) x.b then some (.long x.z) else sysOut ps rs (k ++ [(Sum.inr x.z, V.ref x.c)])
def ErE (CI CU CT : Addr) (H0 : Hp) (E : XK) : Er → Prop
  | .part z i => ∀ d H', Same H0 H' → H' d = some (.xd [("place", .int (i : Nat)), ("service", .str z)]) → E (.ref CI) (some d) H'
  | .name z => ∀ d H', Same H0 H' → H' d = some (.xd [("value", .str z)]) → E (.ref CU) (some d) H'
  | .long z => ∀ d H', Same H0 H' → H' d = some (.xd [("service", .str z)]) → E (.ref CT) (some d) H'
/-- a system that stands -/
structure SysAt (K : PySem.W.Frag) (C CS : Addr) (H : Hp) (s : Addr) (ps : Ps) (rs : List Rw) : Prop where
  at_ : ∃ dx dp db ds, H s = some (.ins CS dx (sfs dp db ds)) ∧ H dp = some (.dK (PDk ps)) ∧ H db = some (.dK (bk rs)) ∧ H ds = some (.dK (sk ps rs))
  pol : PolsAt K C H ps
  rows : RwsAt K H rs
  pn : (nmP ps).Nodup
  rn : (nmR rs).Nodup
  pl : ps.length ≤ 8
  r1 : 1 ≤ rs.length
  rl : rs.length ≤ 6
  ok : sysOut ps rs [] = none
theorem SysAt.ext {C CS s : Addr} {H H' : Hp} {ps : Ps} {rs : List Rw} (e : Same H H') (h : SysAt K C CS H s ps rs) : SysAt K C CS H' s ps rs := by
  obtain ⟨⟨dx, dp, db, ds, h1, h2, h3, h4⟩, h5, h6, h7, h8, h9, h10, h11, h12⟩ := h
  exact ⟨⟨dx, dp, db, ds, e _ _ h1, e _ _ h2, e _ _ h3, e _ _ h4⟩, h5.ext e, h6.ext e, h7, h8, h9, h10, h11, h12⟩
def spSys (K : PySem.W.Frag) (C CS CI CU CT : Addr) : Sp := fun vs H Q E => ∃ (s dx pl sv : Addr) (ps : Ps) (rr : List Addr) (rs : List Rw) (H0 : Hp), vs = [.ref s, .ref pl, .ref sv] ∧ H s = some (.ins CS dx []) ∧ H0 s = none ∧ Same H0 H ∧
  SeqV K H0 pl (rfP ps) ∧ PolsAt K C H0 ps ∧ ps.length ≤ 8 ∧ (nmP ps).Nodup ∧ SeqV K H0 sv (rr.map V.ref) ∧ SrvAt K H0 rr rs ∧ RwsAt K H0 rs ∧ 1 ≤ rs.length ∧ rs.length ≤ 6 ∧ (nmR rs).Nodup ∧
  ((sysOut ps rs [] = none ∧ ∀ H', Same H0 H' → SysAt K C CS H' s ps rs → Q .non H') ∨ ∃ e, sysOut ps rs [] = some e ∧ ErE CI CU CT H0 E e)
theorem hasK_ps (ps : Ps) : hasK (PDk ps) = hasP ps := by
  funext z
  unfold hasK hasP
  rw [val_pol]
  cases polOf ps z <;> rfl
theorem ok_sys {C CS CI CU CT f fT : Addr} {fd fdT : FuncData} (F : Fun K "__init__" "System.__init__" s_Systeminit f fd) (T : Txt K mg) (TS : STx K CS) (pr_name : Prp P w K mg base 1 C "name" (getSp C "_name"))
    (c_check_policies : Cal P w K mg base 3 "_check_policies" (spChkPol K C)) (c_check_services : Cal P w K mg base 3 "_check_services" (spChkServ K))
    (c_check_parts : CalX P w K mg base 5 "_check_parts" (spChkParts K CI)) (c_check_names : CalX P w K mg base 6 "_check_names" (spChkNames K CU)) (c_block_span : Cal P w K mg base 9 "block_span" (spBS K C 2))
    (TT : SupCB "OverflowError" "OverflowError.__new__" "OverflowError.__init__" tlOE P K mg CT) (ET : ExK P w K mg base "TooLong" CT fT fdT ["self", "service"] (spEx CT "service")) :
    FnOk P w K mg base (CX P w) 10 f fd psS (spSys K C CS CI CU CT) := by
  refine F.okX sc_Systeminit (fun vs H Q E h => ?_) (fun cdv A outer st H vs Q E hr h => ?_)
  · obtain ⟨s, dx, pl, sv, ps, rr, rs, H0, rfl, _⟩ := h
    rfl
  · obtain ⟨s, dx, pl, sv, ps, rr, rs, H0, rfl, hs, s0, S0, hpl, hpa, pl8, pnd, hsv, hsr, hra, r1, r6, rnd, hout⟩ := h
    refine ⟨_, (pss_cons (ps_expr (pe_f c_check_policies hr (by decide) (by rfl) (pa_cons (pv 1) pa_nil)))
      (pss_cons (ps_expr (pe_f c_check_services hr (by decide) (by rfl) (pa_cons (pv 2) pa_nil)))
      (pss_cons (ps_fld (pv 0) (pe_dc (own := [("policy", 3)]) (g := gName 3) (by rfl) sc_Systeminit.nd (Mn.pi_seq (pv 1)) (blkOk_by (own := [("policy", 3)]) (N := N_Systeminit) (sc := defScope s_Systeminit) (by decide +kernel)) (fun _ _ _ _ _ => pg_name (i := 3) sc_Systeminit.nd rfl (Or.inl rfl)) (fun _ _ _ _ _ => pts_nil) (fun _ _ _ _ _ => (pe_pr pr_name hr (by decide) (pv 3))) (fun _ _ _ _ _ => (pv 3))) rfl)
      (pss_cons (ps_fld (pv 0) pe_dnewK rfl)
      (pss_cons (ps_fld (pv 0) pe_dnewK rfl)
      (pss_one (ps_for (passes_of rfl) rfl (Mn.pi_seq (pv 2)) (pg_tup rfl (pgs_cons (pg_name (i := 4) sc_Systeminit.nd rfl (Or.inl rfl)) (pgs_cons (pg_name (i := 5) sc_Systeminit.nd rfl (Or.inl rfl)) pgs_nil))) (pss_cons (ps_expr (pe_fX c_check_parts (takes_of rfl rfl rfl rfl) hr (by decide) (by rfl) (pa_cons (pv 4) (pa_cons (pv 5) pa_nil))))
      (pss_cons (ps_expr (pe_fX c_check_names (takes_of rfl rfl rfl rfl) hr (by decide) (by rfl) (pa_cons (pv 5) (pa_cons (pe_fld (pv 0) rfl) (pa_cons (pe_fld (pv 0) rfl) pa_nil)))))
      (pss_cons (ps_set (i := 6) sc_Systeminit.nd rfl (Or.inl rfl) (pe_f c_block_span hr (by decide) (by rfl) (pa_cons (pv 5) (pa_cons (pe_fld (pv 0) rfl) pa_nil))))
      (pss_cons (ps_if (pt_cmpR op_gt (pv 6) (pe_gx rfl T.g_MOST_SPAN) (nomark _)) (pss_one (ps_raise rfl (takes_of rfl rfl rfl rfl) (pmk_oexB base_OE TT.ox ET.iC ET.tI ET.ok (hr.mono (by decide)) ET.bi .nil pass0 (by rfl) ET.gl (pa_cons (pv 4) pa_nil)))) pss_nil)
      (pss_cons (ps_asg (pv 5) (pg_sub (pe_fld (pv 0) rfl) (pv 4) (set_dict (Nat.lt_of_le_of_lt (Nat.add_le_add_left (by decide : 1 ≤ 64) _) hr.units))))
      (pss_one (ps_asg (pv 6) (pg_sub (pe_fld (pv 0) rfl) (pv 4) (set_dict (Nat.lt_of_le_of_lt (Nat.add_le_add_left (by decide : 1 ≤ 64) _) hr.units))))))))))))))))), ?_⟩
    walk_at "rd"
    refine ⟨pl, ps, rfl, hpl.ext S0, hpa.ext S0, pl8, pnd, fun H1 S1 => ?_⟩
    walk_at "rd"
    have S01 := Same.trans S0 S1
    refine ⟨sv, rr, rs, rfl, hsv.ext S01, hsr.ext S01, hra.ext S01, r1, r6, rnd, fun H2 S2 => ?_⟩
    walk_at "rd"
    have S02 := Same.trans S01 S2
    have h2s := S2 _ _ (S1 _ _ hs)
    obtain ⟨bp, sbp⟩ := SeqV.b hpl
    obtain ⟨bs, sbs⟩ := SeqV.b hsv
    refine g_dc (g_iseq ?_)
    walk_at "rd"
    refine ⟨pl, bp, _, rfl, sbp _ S02, fun dp hdp => ?_⟩
    refine Mn.dc_itB (K := K) (a := pl) (xs := rfP ps) (fun i H' => Same H2 H' ∧ H' dp = some (.dK (PDk (ps.take i)))) ⟨same_new hdp, by rw [upd_same]; rfl⟩ (fun i H' _ e => sbp _ (Same.trans S02 e.1)) ?_ ?_
    · rintro i x H3 hx ⟨S3, h3⟩
      rw [List.getElem?_map] at hx
      obtain ⟨y, hy, rfl⟩ := Option.map_eq_some_iff.mp hx
      obtain ⟨dx', pp, ga, hpp, _⟩ := (hpa y (List.mem_of_getElem? hy)).1.ext (Same.trans S02 S3)
      have hi : i < 8 := by have := (List.getElem?_eq_some_iff.mp hy).1; omega
      walk_at "rd"
      refine ⟨rfl, ?_⟩
      walk_at "rd"
      refine ⟨y.1, dx', _, rfl, hpp, y.1, dx', _, _, rfl, hpp, lk1, ?_⟩
      walk_at "rd"
      refine ⟨_, Sum.inr y.2.z, rfl, h3, small1000 (by unfold PDk; rw [List.length_map, List.length_take]; omega), same_upd hdp S3, ?_⟩
      rw [upd_same]
      exact congrArg (fun k => some (HO.dK k)) (put_by (f := fun x : Addr × Pol => x.2.z) (g := fun x => V.ref x.1) pnd hy)
    · rintro H3 ⟨S3, h3⟩
      rw [List.length_map, List.take_length] at h3
      have p0 : H0 dp = none := none_of S02 hdp
      have nsp : s ≠ dp := fun z => by rw [← z, h2s] at hdp; cases hdp
      walk_at "rd"
      refine ⟨s, CS, dx, _, rfl, S3 _ _ h2s, TS.cl, TS.n1, by show 0 < 1000; decide, ?_⟩
      have S03 : Same H0 (upd H3 s (.ins CS dx (putF "_policies" (.ref dp) []))) := same_upd s0 (Same.trans S02 S3)
      have h4s : upd H3 s (.ins CS dx (putF "_policies" (.ref dp) [])) s = some (.ins CS dx (putF "_policies" (.ref dp) [])) := upd_same
      have h4p : upd H3 s (.ins CS dx (putF "_policies" (.ref dp) [])) dp = some (.dK (PDk ps)) := by rw [upd_ne nsp.symm]; exact h3
      generalize upd H3 s (.ins CS dx (putF "_policies" (.ref dp) [])) = H4 at S03 h4s h4p ⊢
      walk_at "rd"
      refine fun db hdb => ?_
      have b0 : H0 db = none := none_of S03 hdb
      have nsb : s ≠ db := fun z => by rw [← z, h4s] at hdb; cases hdb
      have npb : dp ≠ db := fun z => by rw [← z, h4p] at hdb; cases hdb
      have S5 : Same H4 (upd H4 db (.dK [])) := same_new hdb
      have h5b : upd H4 db (.dK []) db = some (.dK []) := upd_same
      generalize upd H4 db (.dK []) = H5 at S5 h5b ⊢
      walk_at "rd"
      refine ⟨s, CS, dx, _, rfl, S5 _ _ h4s, TS.cl, TS.n2, ltP 1 (lenP (Nat.zero_le _)) (by decide), ?_⟩
      have S06 : Same H0 (upd H5 s (.ins CS dx (putF "_blocks" (.ref db) (putF "_policies" (.ref dp) [])))) := same_upd s0 (Same.trans S03 S5)
      have h6s : upd H5 s (.ins CS dx (putF "_blocks" (.ref db) (putF "_policies" (.ref dp) []))) s = some (.ins CS dx (putF "_blocks" (.ref db) (putF "_policies" (.ref dp) []))) := upd_same
      have h6p : upd H5 s (.ins CS dx (putF "_blocks" (.ref db) (putF "_policies" (.ref dp) []))) dp = some (.dK (PDk ps)) := by rw [upd_ne nsp.symm]; exact S5 _ _ h4p
      have h6b : upd H5 s (.ins CS dx (putF "_blocks" (.ref db) (putF "_policies" (.ref dp) []))) db = some (.dK []) := by rw [upd_ne nsb.symm]; exact h5b
      generalize upd H5 s (.ins CS dx (putF "_blocks" (.ref db) (putF "_policies" (.ref dp) []))) = H6 at S06 h6s h6p h6b ⊢
      clear h4s h4p S5 h5b S03
      walk_at "rd"
      refine fun ds hds => ?_
      have d0 : H0 ds = none := none_of S06 hds
      have nsd : s ≠ ds := fun z => by rw [← z, h6s] at hds; cases hds
      have npd : dp ≠ ds := fun z => by rw [← z, h6p] at hds; cases hds
      have nbd : db ≠ ds := fun z => by rw [← z, h6b] at hds; cases hds
      have S7 : Same H6 (upd H6 ds (.dK [])) := same_new hds
      have h7d : upd H6 ds (.dK []) ds = some (.dK []) := upd_same
      generalize upd H6 ds (.dK []) = H7 at S7 h7d ⊢
      walk_at "rd"
      refine ⟨s, CS, dx, _, rfl, S7 _ _ h6s, TS.cl, TS.n3, ltP 2 (lenP (lenP (Nat.zero_le _))) (by decide), ?_⟩
      rw [sf_all]
      have S08 : Same H0 (upd H7 s (.ins CS dx (sfs dp db ds))) := same_upd s0 (Same.trans S06 S7)
      have h8s : upd H7 s (.ins CS dx (sfs dp db ds)) s = some (.ins CS dx (sfs dp db ds)) := upd_same
      have h8p : upd H7 s (.ins CS dx (sfs dp db ds)) dp = some (.dK (PDk ps)) := by rw [upd_ne nsp.symm]; exact S7 _ _ h6p
      have h8b : upd H7 s (.ins CS dx (sfs dp db ds)) db = some (.dK []) := by rw [upd_ne nsb.symm]; exact S7 _ _ h6b
      have h8d : upd H7 s (.ins CS dx (sfs dp db ds)) ds = some (.dK []) := by rw [upd_ne nsd.symm]; exact h7d
      have eq8 : (HO.ins CS dx [("_policies", .ref dp), ("_blocks", .ref db), ("_spans", .ref ds)]) = .ins CS dx (sfs dp db ds) := rfl
      rw [eq8]
      generalize upd H7 s (.ins CS dx (sfs dp db ds)) = H8 at S08 h8s h8p h8b h8d ⊢
      clear h6s h6p h6b S06 S7 h7d eq8
      dsimp only
      refine g_for (g_iseq ?_)
      walk_at "rd"
      refine ⟨sv, bs, _, rfl, sbs _ S08, ?_⟩
      refine Mn.for_itB (K := K) (a := sv) (xs := rr.map V.ref) (fun i σ H' => ∃ (o3 o4 o5 o6 : Option V), σ = [some (.ref s), some (.ref pl), some (.ref sv), o3, o4, o5, o6] ∧ Same H0 H' ∧ H' s = some (.ins CS dx (sfs dp db ds)) ∧ H' dp = some (.dK (PDk ps)) ∧
        H' db = some (.dK (bk (rs.take i))) ∧ H' ds = some (.dK (sk ps (rs.take i))) ∧ sysOut ps rs [] = sysOut ps (rs.drop i) (bk (rs.take i))) ⟨_, _, _, _, rfl, S08, h8s, h8p, h8b, h8d, rfl⟩ (fun i σ H' _ ⟨_, _, _, _, _, e, _⟩ => sbs _ e) ?_ ?_
      · rintro i x σ H4 hx ⟨o3, o4, o5, o6, rfl, S4, h4s, h4p, h4b, h4d, hso⟩
        rw [List.getElem?_map] at hx
        obtain ⟨r, hr0, rfl⟩ := Option.map_eq_some_iff.mp hx
        obtain ⟨y, hy, ty⟩ := hsr.get hr0
        obtain ⟨hi, hy'⟩ := List.getElem?_eq_some_iff.mp hy
        have ry := hra y (List.mem_of_getElem? hy)
        have r4 := ry.ext S4
        have hsl : (bk (rs.take i)).length ≤ 900 := by rw [List.length_map, List.length_take]; omega
        have hss : (sk ps (rs.take i)).length ≤ 900 := by rw [List.length_map, List.length_take]; omega
        rw [List.drop_eq_getElem_cons hi, hy'] at hso
        simp only [sysOut] at hso
        refine g_tup2' rfl (ty.ext S4).sq ?_
        walk_at "rd"
        refine g_callS ?_
        walk_at "rd"
        refine ⟨y.z, y.c, y.b, y.xs, rfl, r4.c, r4.b, ry.hl, ?_⟩
        cases hw : wr (pio y.b 0) 0 with
        | some n =>
          rw [hw] at hso
          refine .inr ⟨n, rfl, ?_⟩
          rcases hout with ⟨e, _⟩ | ⟨er, e, q⟩
          · rw [hso] at e; cases e
          · rw [hso] at e
            cases e
            exact fun d H' S hd => q d H' (Same.trans S4 S) hd
        | none =>
          rw [hw] at hso
          refine .inl ⟨rfl, fun H5 S5 => ?_⟩
          walk_at "rd"
          refine g_callS ?_
          walk_at "rd"
          have S05 := Same.trans S4 S5
          refine ⟨s, CS, dx, _, _, rfl, S5 _ _ h4s, TS.cl, TS.n2, slk2, ?_⟩
          walk_at "rd"
          refine ⟨s, CS, dx, _, _, rfl, S5 _ _ h4s, TS.cl, TS.n1, slk1, ?_⟩
          walk_at "rd"
          have r5 := ry.ext S05
          refine ⟨y.c, db, dp, _, _, y.b, y.xs, rfl, r5.c, r5.b, ry.hl, wr_parts hw, S5 _ _ h4b, S5 _ _ h4p, ?_⟩
          rw [hasK_ps]
          cases hn : nmErr (hasK (bk (rs.take i))) (hasP ps) (csOf (pio y.b 0)) with
          | some z =>
            simp only [hn] at hso
            refine .inr ⟨z, rfl, ?_⟩
            rcases hout with ⟨e, _⟩ | ⟨er, e, q⟩
            · rw [hso] at e; cases e
            · rw [hso] at e
              cases e
              exact fun d H' S hd => q d H' (Same.trans S05 S) hd
          | none =>
            simp only [hn] at hso
            have fine := fine_of hw hn
            refine .inl ⟨rfl, fun H6 S6 => ?_⟩
            have S6' := Same.trans S5 S6
            walk_at "rd"
            refine ⟨s, CS, dx, _, _, rfl, S6' _ _ h4s, TS.cl, TS.n1, slk1, ?_⟩
            walk_at "rd"
            have S06 := Same.trans S4 S6'
            have r6' := ry.ext S06
            refine ⟨y.c, dp, y.b, y.xs, 0, ps, rfl, r6'.c, r6'.b, by omega, fine, ry.hl, ⟨S6' _ _ h4p, hpa.ext S06⟩, fun H7 S7 => ?_⟩
            have S7' := Same.trans S6' S7
            have S07 := Same.trans S4 S7'
            walk_at "rd"
            refine g_ite (fun e1 => ?_) (fun e1 => ?_)
            · have lg : 400 < spanB (spOf ps) y.b := of_decide_eq_true e1
              rw [if_pos lg] at hso
              walk_at "rd"
              refine g_mko ?_
              walk_at "rd"
              refine ex_as fun d H' S hd => ?_
              rcases hout with ⟨e, _⟩ | ⟨er, e, q⟩
              · rw [hso] at e; cases e
              · rw [hso] at e
                cases e
                exact q d H' (Same.trans S07 S) hd
            · have lg : ¬ 400 < spanB (spOf ps) y.b := of_decide_eq_false e1
              rw [if_neg lg] at hso
              walk_at "rd"
              refine ⟨s, CS, dx, _, _, rfl, S7' _ _ h4s, TS.cl, TS.n2, slk2, ?_⟩
              walk_at "rd"
              refine ⟨db, _, rfl, DPut.k (k := Sum.inr y.z) (S7' _ _ h4b) (small1000 (by omega)), ?_⟩
              rw [put_by (f := fun x : Rw => x.z) (g := fun x => V.ref x.c) rnd hy]
              walk_at "rd"
              have g7s : upd H7 db (.dK (bk (rs.take (i + 1)))) s = some (.ins CS dx (sfs dp db ds)) := by
                rw [upd_ne nsb]; exact S7' _ _ h4s
              refine ⟨s, CS, dx, _, _, rfl, g7s, TS.cl, TS.n3, slk3, ?_⟩
              walk_at "rd"
              have g7d : upd H7 db (.dK (bk (rs.take (i + 1)))) ds = some (.dK (sk ps (rs.take i))) := by
                rw [upd_ne nbd.symm]; exact S7' _ _ h4d
              refine ⟨ds, _, rfl, DPut.k (k := Sum.inr y.z) g7d (small1000 (by omega)), ?_⟩
              rw [put_by (f := fun x : Rw => x.z) (g := fun x => V.int (spanB (spOf ps) x.b)) rnd hy]
              refine ⟨_, _, _, _, rfl, same_upd d0 (same_upd b0 S07), ?_, ?_, ?_, ?_, ?_⟩
              · rw [upd_ne nsd, upd_ne nsb]; exact S7' _ _ h4s
              · rw [upd_ne npd, upd_ne npb]; exact S7' _ _ h4p
              · rw [upd_ne nbd, upd_same]
              · rw [upd_same]
              · rw [hso]
                have : bk (rs.take (i + 1)) = bk (rs.take i) ++ [(Sum.inr y.z, V.ref y.c)] := by rw [List.take_add_one, hy]; exact List.map_append
                rw [this]
      · rintro σ H4 ⟨o3, o4, o5, o6, rfl, S4, h4s, h4p, h4b, h4d, hso⟩
        rw [List.length_map, hsr.len, List.drop_length] at hso
        rw [List.length_map, hsr.len, List.take_length] at h4b h4d
        walk_at "rd"
        rcases hout with ⟨e, q⟩ | ⟨er, e, _⟩
        · exact q _ S4 ⟨⟨dx, dp, db, ds, h4s, h4p, h4b, h4d⟩, hpa.ext S4, hra.ext S4, pnd, rnd, pl8, r1, r6, e⟩
        · rw [hso] at e
          cases e
end
end K2

/-! own special methods: x in o, o[i], len(o) -/
namespace Mc
open PySem PySem.Spec PyProof.Rows L2
structure OwnSp (K : PySem.W.Frag) (C : Addr) (n : Str) (f : Addr) : Prop where
  at_ : PySem.W.findIn K (.ref C) n = some (some (.ref f))
  fn : PySem.W.isFn K (.ref f) = true
section
variable {X : Cx} {CX : CXT} {k : Nat} {C f : Addr} {fd : FuncData} {ps : List Str} {sp : Sp} {E : XK}
def rInO (C : Addr) (sp : Sp) (E : XK) (neg : Bool) : R2 := fun x y H Q => ∃ (a dx : Addr) (fs : List (Str × V)), y = .ref a ∧ H a = some (.ins C dx fs) ∧ sp [y, x] H (fun v H' => ∃ b, v = .bl b ∧ Q (.bl (if neg then !b else b)) H') E
theorem op_inO (G : FnOk X.prog X.w X.K X.mg X.base CX k f fd ps sp) (O : OwnSp X.K C "__contains__" f) (hb : Binds X.K fd ps []) (hx : Passes CX X E) (hr : Room k X.A) : OpR X (compareOp .In) (rInO C sp E false) := by
  intro pins s σ H x y u v Q I rx ry h
  obtain ⟨a, dx, fs, rfl, ha, q⟩ := h
  cases ry
  obtain ⟨mA, J, _⟩ := ins_get I.hok ha
  obtain ⟨od, J, _⟩ := J.look
  obtain ⟨m, hF⟩ := I.fr
  refine PySem.W.in_K hF I.ok.mod.kin J O.at_ O.fn ?_
  refine thn (run_in rfl G hr hb hx I (.cons (show RelV (.ref a) (.ref a) from rfl) (.cons rx .nil)) q) ?_
  rintro w s' ⟨z, H', I', rz, b, rfl, q'⟩
  cases rz
  exact wpAny_truthy_bool ⟨.bl b, H', I', rfl, q'⟩
theorem op_notInO (G : FnOk X.prog X.w X.K X.mg X.base CX k f fd ps sp) (O : OwnSp X.K C "__contains__" f) (hb : Binds X.K fd ps []) (hx : Passes CX X E) (hr : Room k X.A) : OpR X (compareOp .NotIn) (rInO C sp E true) := by
  intro pins s σ H x y u v Q I rx ry h
  obtain ⟨a, dx, fs, rfl, ha, q⟩ := h
  cases ry
  obtain ⟨mA, J, _⟩ := ins_get I.hok ha
  obtain ⟨od, J, _⟩ := J.look
  obtain ⟨m, hF⟩ := I.fr
  refine PySem.W.notIn_K hF I.ok.mod.kin J O.at_ O.fn ?_
  refine thn (run_in rfl G hr hb hx I (.cons (show RelV (.ref a) (.ref a) from rfl) (.cons rx .nil)) q) ?_
  rintro w s' ⟨z, H', I', rz, b, rfl, q'⟩
  cases rz
  exact wpAny_truthy_bool ⟨.bl (!b), H', I', rfl, q'⟩
def rIxO (C : Addr) (sp : Sp) (E : XK) : R2 := fun x y H Q => ∃ (a dx : Addr) (fs : List (Str × V)), x = .ref a ∧ H a = some (.ins C dx fs) ∧ sp [x, y] H Q E
theorem pe_ixO {a b : Expr} {ta tb : TE} {pos : Pos} (G : FnOk X.prog X.w X.K X.mg X.base CX k f fd ps sp) (O : OwnSp X.K C "__getitem__" f) (hfn : PySem.W.fnIn X.K f = true) (hb : Binds X.K fd ps []) (hx : Passes CX X E) (hr : Room (k + 1) X.A) (pa : PE X a ta) (pb : PE X b tb)
    (hs : ∀ v u, subscripted b true v u = runValue (.builtin "lifetime.subscript" ⟨[v, u], []⟩) := by intros; rfl) : PE X (.Subscript a b pos) (tOp (rIxO C sp E) ta tb) := by
  refine ⟨fun pins s σ H Q I h => ?_⟩
  refine Subscript_ (binT pa pb I h fun v u s2 x y H2 I2 rx ry q => ?_)
  obtain ⟨a, dx, fs, rfl, ha, q⟩ := q
  cases rx
  obtain ⟨mA, J, _⟩ := ins_get I2.hok ha
  obtain ⟨od, J, _⟩ := J.look
  obtain ⟨m, hF⟩ := I2.fr
  exact PySem.W.sub_K hF I2.ok.mod.kin J O.at_ hfn O.fn (run_in (A := X.A.in1) rfl G hr.in1 hb hx I2 (.cons (show RelV (.ref a) (.ref a) from rfl) (.cons ry .nil)) q) (hs _ _)
def rLenO (C : Addr) (sp : Sp) (E : XK) : List V → Hp → VK → Prop := fun vs H Q => ∃ (a dx : Addr) (fs : List (Str × V)), vs = [.ref a] ∧ H a = some (.ins C dx fs) ∧ sp [.ref a] H (fun v H' => ∃ n : Int, v = .int n ∧ 0 ≤ n ∧ n < 2 ^ 63 ∧ Q (.int n) H') E
end
end Mc

namespace K2
open PySem PySem.Spec PyProof.Rows L2 Mc Mx
/-- all but d is as it was, which was locked -/
def Sd (d : Addr) (H H' : Hp) : Prop := ∀ b o, b ≠ d → H b = some o → H' b = some o
theorem same_unlock {H H' : Hp} {d : Addr} {u : HO} (h : H d = some u) (e : Sd d H H') : Same H (upd H' d u) := fun b o k => by
  by_cases hb : b = d
  · subst hb; rw [upd_same]; rw [h] at k; exact k
  · rw [upd_ne hb]; exact e b o hb k
section
variable {P : Program} {w : World} {K : PySem.W.Frag} {mg : Str → Option Value} {base : Heap}
local macro_rules | `(tactic| walk_at "rd1") => `(tactic| first
  | with_reducible refine g_seq ?_
  | with_reducible refine g_asg ?_
  | with_reducible refine g_name ?_
  | with_reducible refine g_c ?_
  | with_reducible refine g_op ?_
  | with_reducible refine g_ifS ?_
  | with_reducible refine g_if ?_
  | with_reducible refine g_test ?_
  | with_reducible refine g_B ?_
  | with_reducible refine g_bl ?_
  | with_reducible refine g_blV ?_
  | with_reducible refine g_not ?_
  | with_reducible refine g_and ?_
  | with_reducible refine g_or ?_
  | with_reducible refine g_notV ?_
  | with_reducible refine g_andV ?_
  | with_reducible refine g_orV ?_
  | with_reducible refine g_ret ?_
  | with_reducible refine g_drop ?_
  | with_reducible refine g_next ?_
  | with_reducible refine g_retN ?_
  | with_reducible refine g_call ?_
  | with_reducible refine g_cb ?_
  | with_reducible refine g_cons ?_
  | with_reducible refine g_nil ?_
  | with_reducible refine g_tup ?_
  | with_reducible refine g_lst ?_
  | with_reducible refine g_prop ?_
  | with_reducible refine g_fld ?_
  | with_reducible refine g_meth ?_
  | with_reducible refine g_chain ?_
  | with_reducible refine g_yes ?_
  | with_reducible refine g_make ?_
  | with_reducible refine g_makeK ?_
  | with_reducible refine g_gsub ?_
  | with_reducible refine g_sfld ?_
  | with_reducible refine g_un ?_
  | with_reducible refine g_bm ?_
  | with_reducible refine g_iteT ?_
  | with_reducible refine g_iteF ?_
  | with_reducible refine g_I0 ?_
  | with_reducible refine g_add ?_
  | with_reducible refine g_sub ?_
  | ((with_reducible refine' g_var ?hv ?_); (case hv => rfl))
  | ((with_reducible refine g_eq ?hv ?_); (case hv => rfl))
  | ((with_reducible refine g_ne ?hv ?_); (case hv => rfl)))
local macro_rules | `(tactic| walk_at "rd") => `(tactic| repeat (walk_at "rd1"))

local macro_rules | `(tactic| walk_at "ty") => `(tactic| first | exact .non | exact .bl _ | exact .int _ | exact .str _ | exact .lst (by assumption) | exact .tup (by assumption) | exact .dK (by assumption) | exact .kTup (by assumption) (by assumption))
local macro_rules | `(tactic| walk_at "isiF") => `(tactic| refine g_isi (by walk_at "ty") (b := false) (by decide +kernel) ?_)
local macro_rules | `(tactic| walk_at "isiT") => `(tactic| refine g_isi (by walk_at "ty") (b := true) (by decide +kernel) ?_)

theorem pe_m {X : Cx} {k j : Nat} {C : Addr} {m : Str} {sp : Sp} {o e : Expr} {es : List Expr} {ta : TE} {t : TA} {pos apos : Pos} {pl : Sem Bool} (c : Mth X.prog X.w X.K X.mg X.base k C m sp) (hr : Room j X.A) (hk : k ≤ j) (he : PE X o ta) (ha : PA X (e :: es) t)
    (hst : starEach (e :: es) X.env = (false, eval e X.env) :: starEach es X.env := by rfl) (hpl : (backTo pos (starEach es X.env)).any (·.1) = false := by rfl)
    (ht : eval (.Call (.Attribute o m apos) (e :: es) [] pos) X.env = (do
      let ov ← eval o X.env
      standAt apos.atName
      let (f, first) ← holding [ov] (getMethod ov m pl)
      callWith pos f first (backTo pos (starEach (e :: es) X.env)) (backToKw pos (keywordEach [] X.env))) := by rfl) : PE X (.Call (.Attribute o m apos) (e :: es) [] pos) (tMeth C m sp [] E0 ta t) := by
  obtain ⟨f, fd, ps, cl, me, G, b⟩ := c.ex
  exact pe_meth (pl := pl) he cl me G (hr.mono hk) b .nil pass0 ha hst hpl ht
theorem g_lockE {σ : L2.St} {H : Hp} {Q : VK} {t : TE} {d : Addr} {u : HO} (h : H d = some u) (m : Mut (some u)) (q : ∀ od, t σ (upd H d (.frz od u)) fun v H' => H' d = some (.frz od u) ∧ Q v (upd H' d u)) : tLockE t σ H Q := ⟨d, u, h, m, q⟩
theorem g_ikeys {td : TE} {σ : L2.St} {H : Hp} {R : It → Hp → Prop} (q : td σ H fun x H1 => ∃ d o, x = .ref d ∧ ((∃ kvs, H1 d = some (.frz o (.dK kvs)) ∧ R (Itk d o kvs) H1) ∨ ∃ kvs, H1 d = some (.frz o (.dT kvs)) ∧ R (Itkt d o kvs) H1)) : iKeys td σ H R := q
theorem g_din {ty td : TE} {σ : L2.St} {H : Hp} {Q : VK} (q : ty σ H fun y H1 => td σ H1 fun x H2 => ∃ a o, x = .ref a ∧ DGet H2 a y o ∧ Q (.bl o.isSome) H2) : tDIn ty td σ H Q := q
def rowOf (rs : List Rw) (z : Str) : Option Rw := rs.find? fun x => decide (x.z = z)
def hasR (rs : List Rw) : V → Bool
  | .str z => (rowOf rs z).isSome
  | _ => false
theorem val_bk (z : Str) (rs : List Rw) : valV (bk rs) (Sum.inr z) = (rowOf rs z).map fun x => V.ref x.c := val_by _ _ z rs
theorem val_sk (ps : Ps) (z : Str) (rs : List Rw) : valV (sk ps rs) (Sum.inr z) = (rowOf rs z).map fun x => V.int (spanB (spOf ps) x.b) := val_by _ _ z rs
theorem rowOf_mem {rs : List Rw} {z : Str} {x : Rw} (h : rowOf rs z = some x) : x ∈ rs ∧ x.z = z := by
  unfold rowOf at h
  exact ⟨List.mem_of_find?_eq_some h, by have := List.find?_some h; simpa using this⟩
/-! ### what a system tells -/
def spContains (K : PySem.W.Frag) (C CS : Addr) : Sp := fun vs H Q _ => ∃ (s : Addr) (ps : Ps) (rs : List Rw) (v : V) (n : String), vs = [.ref s, v] ∧ SysAt K C CS H s ps rs ∧ Mc.TyB K H v n ∧ Q (.bl (hasR rs v)) H
theorem ok_contains {C CS f : Addr} {fd : FuncData} (F : Fun K "__contains__" "System.__contains__" s_Systemcontains f fd) (T : Txt K mg) (TS : STx K CS) : FnOk P w K mg base CX0 1 f fd ["self", "x"] (spContains K C CS) := by
  refine F.ok sc_Systemcontains (fun vs H Q E h => ?_) (fun cdv A outer st H vs Q E hr h => ?_)
  · obtain ⟨s, ps, rs, v, n, rfl, _⟩ := h
    rfl
  · obtain ⟨s, ps, rs, v, n, rfl, sy, ty, q⟩ := h
    obtain ⟨dx, dp, db, ds, h1, h2, h3, h4⟩ := sy.at_
    refine ⟨_, (pss_one (ps_ret (pe_and (pe_callB call_isi (by rfl) T.n_isinstance (by decide +kernel) (pa_cons (pv 1) (pa_cons (pe_ty "str" (by rfl) T.n_str (by decide +kernel)) pa_nil))) (pe_one (pe_cmp (pc_din (Nat.lt_of_le_of_lt (Nat.add_le_add_left (by decide : 1 ≤ 64) _) hr.units) (pv 1) (pe_fld (pv 0) rfl)) (by rfl)))))), ?_⟩
    walk_at "rd"
    refine g_isi ty (kb_str ty.mem) ?_
    walk_at "rd"
    rcases not_str ty with ⟨z, rfl, rfl⟩ | ⟨ns, nz⟩
    · refine g_iteT ?_
      refine g_din ?_
      walk_at "rd"
      refine ⟨s, CS, dx, _, _, rfl, h1, TS.cl, TS.n2, slk2, ?_⟩
      refine ⟨db, _, rfl, DGet.k (k := Sum.inr z) h3, ?_⟩
      rw [val_bk]
      have e : hasR rs (.str z) = ((rowOf rs z).map fun x => V.ref x.c).isSome := by
        show (rowOf rs z).isSome = _
        cases rowOf rs z <;> rfl
      rw [← e]
      exact q
    · rw [ns]
      walk_at "rd"
      have e : hasR rs v = false := by cases v <;> first | rfl | exact absurd rfl (nz _)
      rw [e] at q
      exact q
/-- the system's own contains, for the other methods -/
structure SysC (P : Program) (w : World) (K : PySem.W.Frag) (mg : Str → Option Value) (base : Heap) (C CS fc : Addr) (fdc : FuncData) : Prop where
  ok : FnOk P w K mg base CX0 1 fc fdc ["self", "x"] (spContains K C CS)
  sp : OwnSp K CS "__contains__" fc
  b : Binds K fdc ["self", "x"] []
def spGetItem (K : PySem.W.Frag) (C CS : Addr) : Sp := fun vs H Q _ => ∃ (s : Addr) (ps : Ps) (rs : List Rw) (z : Str) (x : Rw), vs = [.ref s, .str z] ∧ SysAt K C CS H s ps rs ∧ rowOf rs z = some x ∧ Q (.ref x.c) H
theorem ok_getitem {C CS f fc : Addr} {fd fdc : FuncData} (F : Fun K "__getitem__" "System.__getitem__" s_Systemgetitem f fd) (T : Txt K mg) (TS : STx K CS) (SC : SysC P w K mg base C CS fc fdc) : FnOk P w K mg base CX0 2 f fd ["self", "at"] (spGetItem K C CS) := by
  refine F.ok sc_Systemgetitem (fun vs H Q E h => ?_) (fun cdv A outer st H vs Q E hr h => ?_)
  · obtain ⟨s, ps, rs, z, x, rfl, _⟩ := h
    rfl
  · obtain ⟨s, ps, rs, z, x, rfl, sy, hx, q⟩ := h
    obtain ⟨dx, dp, db, ds, h1, h2, h3, h4⟩ := sy.at_
    refine ⟨_, (pss_cons (ps_if (pt_cmpR (op_notInO SC.ok SC.sp SC.b pass0 (hr.mono (by decide))) (pv 1) (pv 0) (by rfl)) (pss_one ps_never) pss_nil)
      (pss_one (ps_ret (pe_dget (Nat.lt_of_le_of_lt (Nat.add_le_add_left (by decide : 1 ≤ 64) _) hr.units) (pe_fld (pv 0) rfl) (pv 1) (fun _ _ => rfl))))), ?_⟩
    walk_at "rd"
    refine ⟨s, dx, _, rfl, h1, s, ps, rs, .str z, _, rfl, sy, .str z, true, ?_, ?_⟩
    · show V.bl (rowOf rs z).isSome = _
      rw [hx]; rfl
    walk_at "rd"
    show (if false = true then _ else _)
    walk_at "rd"
    refine g_dget ?_
    walk_at "rd"
    refine ⟨s, CS, dx, _, _, rfl, h1, TS.cl, TS.n2, slk2, ?_⟩
    walk_at "rd"
    have e := val_bk z rs
    rw [hx] at e
    have g := DGet.k (k := Sum.inr z) h3
    rw [e] at g
    exact ⟨db, _, rfl, g, q⟩
def spSpan (K : PySem.W.Frag) (C CS : Addr) : Sp := fun vs H Q _ => ∃ (s : Addr) (ps : Ps) (rs : List Rw) (z : Str) (x : Rw), vs = [.ref s, .str z] ∧ SysAt K C CS H s ps rs ∧ rowOf rs z = some x ∧ Q (.int (spanB (spOf ps) x.b)) H
theorem ok_span {C CS f fc : Addr} {fd fdc : FuncData} (F : Fun K "span" "System.span" s_System_span f fd) (T : Txt K mg) (TS : STx K CS) (me : Meth K CS "span" f) (b : Binds K fd ["self", "name"] []) (SC : SysC P w K mg base C CS fc fdc) : Mth P w K mg base 2 CS "span" (spSpan K C CS) := by
  refine ⟨f, fd, _, TS.cl, me, F.ok sc_System_span (fun vs H Q E h => ?_) (fun cdv A outer st H vs Q E hr h => ?_), b⟩
  · obtain ⟨s, ps, rs, z, x, rfl, _⟩ := h
    rfl
  · obtain ⟨s, ps, rs, z, x, rfl, sy, hx, q⟩ := h
    obtain ⟨dx, dp, db, ds, h1, h2, h3, h4⟩ := sy.at_
    refine ⟨_, (pss_cons (ps_if (pt_cmpR (op_notInO SC.ok SC.sp SC.b pass0 (hr.mono (by decide))) (pv 1) (pv 0) (by rfl)) (pss_one ps_never) pss_nil)
      (pss_one (ps_ret (pe_dget (Nat.lt_of_le_of_lt (Nat.add_le_add_left (by decide : 1 ≤ 64) _) hr.units) (pe_fld (pv 0) rfl) (pv 1) (fun _ _ => rfl))))), ?_⟩
    walk_at "rd"
    refine ⟨s, dx, _, rfl, h1, s, ps, rs, .str z, _, rfl, sy, .str z, true, ?_, ?_⟩
    · show V.bl (rowOf rs z).isSome = _
      rw [hx]; rfl
    walk_at "rd"
    show (if false = true then _ else _)
    walk_at "rd"
    refine g_dget ?_
    walk_at "rd"
    refine ⟨s, CS, dx, _, _, rfl, h1, TS.cl, TS.n3, slk3, ?_⟩
    walk_at "rd"
    have e := val_sk ps z rs
    rw [hx] at e
    have g := DGet.k (k := Sum.inr z) h4
    rw [e] at g
    exact ⟨ds, _, rfl, g, q⟩
def spPolicyOf (K : PySem.W.Frag) (C CS : Addr) : Sp := fun vs H Q _ => ∃ (s : Addr) (ps : Ps) (rs : List Rw) (z : Str) (x : Addr × Pol), vs = [.ref s, .str z] ∧ SysAt K C CS H s ps rs ∧ polOf ps z = some x ∧ Q (.ref x.1) H
theorem ok_policy_of {C CS f : Addr} {fd : FuncData} (F : Fun K "policy" "System.policy" s_System_policy f fd) (T : Txt K mg) (TS : STx K CS) (me : Meth K CS "policy" f) (b : Binds K fd ["self", "name"] []) : Mth P w K mg base 1 CS "policy" (spPolicyOf K C CS) := by
  refine ⟨f, fd, _, TS.cl, me, F.ok sc_System_policy (fun vs H Q E h => ?_) (fun cdv A outer st H vs Q E hr h => ?_), b⟩
  · obtain ⟨s, ps, rs, z, x, rfl, _⟩ := h
    rfl
  · obtain ⟨s, ps, rs, z, x, rfl, sy, hx, q⟩ := h
    obtain ⟨dx, dp, db, ds, h1, h2, h3, h4⟩ := sy.at_
    have e := val_pol z ps
    rw [hx] at e
    refine ⟨_, (pss_cons (ps_if (PW.pt (pw_or (pt_not (pt_val (pe_callB call_isi (by rfl) T.n_isinstance (by decide +kernel) (pa_cons (pv 1) (pa_cons (pe_ty "str" (by rfl) T.n_str (by decide +kernel)) pa_nil))))) (pw_or1 (pt_cmp (pc_dnotin (Nat.lt_of_le_of_lt (Nat.add_le_add_left (by decide : 1 ≤ 64) _) hr.units) (pv 1) (pe_fld (pv 0) rfl)) (by rfl))))) (pss_one ps_never) pss_nil)
      (pss_one (ps_ret (pe_dget (Nat.lt_of_le_of_lt (Nat.add_le_add_left (by decide : 1 ≤ 64) _) hr.units) (pe_fld (pv 0) rfl) (pv 1) (fun _ _ => rfl))))), ?_⟩
    walk_at "rd"
    refine g_isi (.str z) (b := true) (by decide +kernel) ?_
    walk_at "rd"
    show (if false = true then _ else _)
    walk_at "rd"
    refine g_dnotin ?_
    walk_at "rd"
    refine ⟨s, CS, dx, _, _, rfl, h1, TS.cl, TS.n1, slk1, ?_⟩
    refine ⟨dp, _, rfl, DGet.k (k := Sum.inr z) h2, ?_⟩
    rw [e]
    walk_at "rd"
    show (if false = true then _ else _)
    walk_at "rd"
    refine g_dget ?_
    walk_at "rd"
    refine ⟨s, CS, dx, _, _, rfl, h1, TS.cl, TS.n1, slk1, ?_⟩
    walk_at "rd"
    have g := DGet.k (k := Sum.inr z) h2
    rw [e] at g
    exact ⟨dp, _, rfl, g, q⟩
def spNames (K : PySem.W.Frag) (C CS : Addr) (g : Ps → List Rw → List Str) : Sp := fun vs H Q _ => ∃ (s : Addr) (ps : Ps) (rs : List Rw), vs = [.ref s] ∧ SysAt K C CS H s ps rs ∧ ∀ r H', Same H H' → H r = none → H' r = some (.lst ((g ps rs).map V.str)) → Q (.ref r) H'
theorem ok_policies {C CS f : Addr} {fd : FuncData} (F : Fun K "policies" "System.policies" s_System_policies f fd) (T : Txt K mg) (TS : STx K CS) (me : Meth K CS "policies" f) (b : Binds K fd ["self"] []) : Mth P w K mg base 1 CS "policies" (spNames K C CS fun ps _ => nmP ps) := by
  refine ⟨f, fd, _, TS.cl, me, F.ok sc_System_policies (fun vs H Q E h => ?_) (fun cdv A outer st H vs Q E hr h => ?_), b⟩
  · obtain ⟨s, ps, rs, rfl, _⟩ := h
    rfl
  · obtain ⟨s, ps, rs, rfl, sy, q⟩ := h
    obtain ⟨dx, dp, db, ds, h1, h2, h3, h4⟩ := sy.at_
    refine ⟨_, (pss_one (ps_ret (pe_callTy (call_listD rfl) (by rfl) T.n_list (by decide +kernel) (pa_cons (pe_fld (pv 0) rfl) pa_nil)))), ?_⟩
    walk_at "rd"
    refine ⟨s, CS, dx, _, _, rfl, h1, TS.cl, TS.n1, slk1, ?_⟩
    walk_at "rd"
    refine ⟨dp, _, rfl, .inl h2, fun r hr0 => q r _ (same_new hr0) hr0 ?_⟩
    rw [upd_same]
    unfold PDk
    rw [List.map_map, List.map_map]
    rfl
theorem ok_services {C CS f : Addr} {fd : FuncData} (F : Fun K "services" "System.services" s_System_services f fd) (T : Txt K mg) (TS : STx K CS) (me : Meth K CS "services" f) (b : Binds K fd ["self"] []) : Mth P w K mg base 1 CS "services" (spNames K C CS fun _ rs => nmR rs) := by
  refine ⟨f, fd, _, TS.cl, me, F.ok sc_System_services (fun vs H Q E h => ?_) (fun cdv A outer st H vs Q E hr h => ?_), b⟩
  · obtain ⟨s, ps, rs, rfl, _⟩ := h
    rfl
  · obtain ⟨s, ps, rs, rfl, sy, q⟩ := h
    obtain ⟨dx, dp, db, ds, h1, h2, h3, h4⟩ := sy.at_
    refine ⟨_, (pss_one (ps_ret (pe_callTy (call_listD rfl) (by rfl) T.n_list (by decide +kernel) (pa_cons (pe_fld (pv 0) rfl) pa_nil)))), ?_⟩
    walk_at "rd"
    refine ⟨s, CS, dx, _, _, rfl, h1, TS.cl, TS.n2, slk2, ?_⟩
    walk_at "rd"
    refine ⟨db, _, rfl, .inl h3, fun r hr0 => q r _ (same_new hr0) hr0 ?_⟩
    rw [upd_same]
    unfold bk
    rw [List.map_map, List.map_map]
    rfl
end
end K2

namespace K2
open PySem PySem.Spec PyProof.Rows L2 Mc
section
variable {P : Program} {w : World} {K : PySem.W.Frag} {mg : Str → Option Value} {base : Heap}
local macro_rules | `(tactic| walk_at "rd1") => `(tactic| first
  | with_reducible refine g_seq ?_
  | with_reducible refine g_asg ?_
  | with_reducible refine g_name ?_
  | with_reducible refine g_c ?_
  | with_reducible refine g_op ?_
  | with_reducible refine g_ifS ?_
  | with_reducible refine g_if ?_
  | with_reducible refine g_test ?_
  | with_reducible refine g_B ?_
  | with_reducible refine g_bl ?_
  | with_reducible refine g_blV ?_
  | with_reducible refine g_not ?_
  | with_reducible refine g_and ?_
  | with_reducible refine g_or ?_
  | with_reducible refine g_notV ?_
  | with_reducible refine g_andV ?_
  | with_reducible refine g_orV ?_
  | with_reducible refine g_ret ?_
  | with_reducible refine g_drop ?_
  | with_reducible refine g_next ?_
  | with_reducible refine g_retN ?_
  | with_reducible refine g_call ?_
  | with_reducible refine g_cb ?_
  | with_reducible refine g_cons ?_
  | with_reducible refine g_nil ?_
  | with_reducible refine g_tup ?_
  | with_reducible refine g_lst ?_
  | with_reducible refine g_prop ?_
  | with_reducible refine g_fld ?_
  | with_reducible refine g_meth ?_
  | with_reducible refine g_chain ?_
  | with_reducible refine g_yes ?_
  | with_reducible refine g_make ?_
  | with_reducible refine g_makeK ?_
  | with_reducible refine g_gsub ?_
  | with_reducible refine g_sfld ?_
  | with_reducible refine g_un ?_
  | with_reducible refine g_bm ?_
  | with_reducible refine g_iteT ?_
  | with_reducible refine g_iteF ?_
  | with_reducible refine g_I0 ?_
  | with_reducible refine g_add ?_
  | with_reducible refine g_sub ?_
  | ((with_reducible refine' g_var ?hv ?_); (case hv => rfl))
  | ((with_reducible refine g_eq ?hv ?_); (case hv => rfl))
  | ((with_reducible refine g_ne ?hv ?_); (case hv => rfl)))
local macro_rules | `(tactic| walk_at "rd") => `(tactic| repeat (walk_at "rd1"))

local macro_rules | `(tactic| walk_at "ty") => `(tactic| first | exact .non | exact .bl _ | exact .int _ | exact .str _ | exact .lst (by assumption) | exact .tup (by assumption) | exact .dK (by assumption) | exact .kTup (by assumption) (by assumption))
local macro_rules | `(tactic| walk_at "isiF") => `(tactic| refine g_isi (by walk_at "ty") (b := false) (by decide +kernel) ?_)
local macro_rules | `(tactic| walk_at "isiT") => `(tactic| refine g_isi (by walk_at "ty") (b := true) (by decide +kernel) ?_)

/-- all but the pool is as it was -/
def Sx (p : Addr) (H H' : Hp) : Prop := ∀ b o, b ≠ p → H b = some o → H' b = some o
theorem Sx.refl {p : Addr} (H : Hp) : Sx p H H := fun _ _ _ h => h
theorem Sx.trans {p : Addr} {H H1 H2 : Hp} (a : Sx p H H1) (b : Sx p H1 H2) : Sx p H H2 := fun c o hc h => b c o hc (a c o hc h)
theorem Same.sx {p : Addr} {H H' : Hp} (h : Same H H') : Sx p H H' := fun c o _ e => h c o e
def PoolAt (H : Hp) (p : Addr) : Prop := ∃ c z : Int, H p = some (.lst [.int c, .int z]) ∧ 0 ≤ c ∧ 0 ≤ z ∧ z < 2147483647
theorem PoolAt.ext {p : Addr} {H H' : Hp} (h : PoolAt H p) (e : Same H H') : PoolAt H' p := by
  obtain ⟨c, z, h1, h2⟩ := h
  exact ⟨c, z, e _ _ h1, h2⟩
theorem PoolAt.not {p a : Addr} {H : Hp} {o : HO} (h : PoolAt H p) (e : H a = some o) (n : ∀ xs, o ≠ .lst xs) : a ≠ p := by
  obtain ⟨c, z, h1, _⟩ := h
  intro q
  rw [q, h1] at e
  exact n _ (Option.some.inj e).symm
theorem TyB.sx {p : Addr} {H H' : Hp} {v : V} (pl : PoolAt H p) (e : Sx p H H') (h : Mc.TyB K H v "tuple") : Mc.TyB K H' v "tuple" := by
  generalize hn : "tuple" = n at h ⊢
  cases h with
  | tup z => exact .tup (e _ _ (pl.not z (by intro _ k; cases k)) z)
  | kTup z c => exact .kTup z c
  | lst z => exact absurd hn (by decide)
  | dK z => exact absurd hn (by decide)
  | non => exact absurd hn (by decide)
  | bl z => exact absurd hn (by decide)
  | int z => exact absurd hn (by decide)
  | str z => exact absurd hn (by decide)
theorem sqT_sx {p a : Addr} {H H' : Hp} {xs : List V} (pl : PoolAt H p) (e : Sx p H H') (h : SqT K H a xs) : SqT K H' a xs := by
  rcases h with (h | ⟨o, h⟩) | h
  · exact .inl (.inl (e _ _ (pl.not h (by intro _ k; cases k)) h))
  · exact .inl (.inr ⟨o, e _ _ (pl.not h (by intro _ k; cases k)) h⟩)
  · exact .inr h
theorem TupV.sx {p a : Addr} {H H' : Hp} {xs : List V} (pl : PoolAt H p) (e : Sx p H H') (h : TupV K H a xs) : TupV K H' a xs := ⟨TyB.sx pl e h.ty, sqT_sx pl e h.sq⟩
theorem PolAt.sx {p a C : Addr} {H H' : Hp} {q : Pol} (pl : PoolAt H p) (e : Sx p H H') (h : PolAt K C H a q) : PolAt K C H' a q := by
  obtain ⟨dx, pa, ga, h1, h2⟩ := h
  exact ⟨dx, pa, ga, e _ _ (pl.not h1 (by intro _ k; cases k)) h1, TupV.sx pl e h2.p, TupV.sx pl e h2.g⟩
theorem Sx.free {p a : Addr} {H H' : Hp} (pl' : PoolAt H' p) (e : Sx p H H') (h : H' a = none) : H a = none := by
  cases q : H a with
  | none => rfl
  | some o =>
    by_cases ha : a = p
    · obtain ⟨c, z, h1, _⟩ := pl'
      rw [ha, h1] at h
      cases h
    · rw [e a o ha q] at h
      cases h

def spPool (K : PySem.W.Frag) : Sp := fun vs H Q _ => ∃ (a : Addr) (k : Int) (ns : List Int), vs = [.ref a, .int k] ∧ SqL K H a (ns.map V.int) ∧ 0 ≤ k ∧ k ≤ 100 ∧ ∀ p H', H p = none → Same H H' → PoolAt H' p → Q (.ref p) H'
theorem ok_pool (T : Txt K mg) (D : Def K mg "_law_pool" s_law_pool ["_law_script", "_law_k"]) : Cal P w K mg base 1 "_law_pool" (spPool K) := by
  refine cal_of D sc_law_pool (fun vs H Q E h => ?_) (fun f cdv A outer s H vs Q E hr h => ?_)
  · obtain ⟨a, k, ns, rfl, _⟩ := h
    rfl
  · obtain ⟨a, k, ns, rfl, sq, k0, k1, q⟩ := h
    have hk1 : 7919 * k ≤ 791900 := by omega
    have hk2 : (7919 * k) * k ≤ 791900 * 100 := Int.mul_le_mul hk1 k1 k0 (by decide)
    have hk3 : 0 ≤ (7919 * k) * k := Int.mul_nonneg (by omega) k0
    refine ⟨_, (pss_cons (ps_set (i := 2) sc_law_pool.nd rfl (Or.inl rfl) pe_int)
      (pss_cons (ps_if (pt_cmpR op_lt (pv 1) (pe_callB call_len_seq (by rfl) T.n_len (by decide +kernel) (pa_cons (pv 0) pa_nil)) (nomark _)) (pss_one (ps_set (i := 2) sc_law_pool.nd rfl (Or.inl rfl) (pe_ix ix_list (pv 0) (pv 1) (fun _ _ => rfl)))) pss_nil)
      (pss_cons (ps_set (i := 3) sc_law_pool.nd rfl (Or.inl rfl) (pe_op op_mod (pe_op op_pow (pe_op op_add (pe_op op_add (pe_op op_mod (pe_callTy call_int1 (by rfl) T.n_int (by decide +kernel) (pa_cons (pv 2) pa_nil)) pe_int) (pe_op op_mul (pe_op op_mul pe_int (pv 1)) (pv 1))) pe_int) pe_int) pe_int))
      (pss_cons (ps_if (pt_cmpR op_lt (pv 2) (pe_op op_pow pe_int pe_int) (nomark _)) (pss_one (ps_set (i := 2) sc_law_pool.nd rfl (Or.inl rfl) pe_int)) pss_nil)
      (pss_one (ps_ret (pe_lst (pa_cons (pv 2) (pa_cons (pv 3) pa_nil))))))))), ?_⟩
    walk_at "rd"
    refine ⟨a, _, rfl, .inl sq, ?_⟩
    walk_at "rd"
    refine g_ite (fun e => ?_) (fun e => ?_)
    · have hk : k < ((ns.map V.int).length : Int) := of_decide_eq_true e
      have hk' : k.toNat < ns.length := by rw [List.length_map] at hk; omega
      walk_at "rd"
      refine g_ixL sq (v := .int ns[k.toNat]) (at_of (j := k.toNat) (by omega) (by rw [List.getElem?_map, List.getElem?_eq_getElem hk']; rfl)) ?_
      generalize ns[k.toNat] = c
      walk_at "rd"
      refine .inl ⟨_, rfl, ?_⟩
      walk_at "rd"
      refine g_I (show (0 : Int) < 2147483629 by decide) ?_
      walk_at "rd"
      refine g_I (.inl ⟨by decide, by decide⟩) ?_
      walk_at "rd"
      refine g_I (.inl ⟨by omega, by omega⟩) ?_
      walk_at "rd"
      refine g_I ⟨by decide, by decide, by omega⟩ ?_
      walk_at "rd"
      refine g_I (show (0 : Int) < 2147483647 by decide) ?_
      walk_at "rd"
      refine g_I ⟨by decide, by decide, by decide⟩ ?_
      walk_at "rd"
      refine g_ite (fun e2 => ?_) (fun e2 => ?_)
      · walk_at "rd"
        refine ⟨(by show 2 ≤ sizeLine; decide), fun p hp => ?_⟩
        refine q p _ hp (same_new hp) ⟨0, _, upd_same, by decide, Int.emod_nonneg _ (by decide), Int.emod_lt_of_pos _ (by decide)⟩
      · walk_at "rd"
        refine ⟨(by show 2 ≤ sizeLine; decide), fun p hp => ?_⟩
        have e3 := of_decide_eq_false e2
        refine q p _ hp (same_new hp) ⟨_, _, upd_same, ?_, Int.emod_nonneg _ (by decide), Int.emod_lt_of_pos _ (by decide)⟩
        exact Int.le_trans (by decide) (Int.not_lt.mp e3)
    · walk_at "rd"
      walk_at "rd"
      refine .inl ⟨_, rfl, ?_⟩
      walk_at "rd"
      refine g_I (show (0 : Int) < 2147483629 by decide) ?_
      walk_at "rd"
      refine g_I (.inl ⟨by decide, by decide⟩) ?_
      walk_at "rd"
      refine g_I (.inl ⟨by omega, by omega⟩) ?_
      walk_at "rd"
      refine g_I ⟨by decide, by decide, by omega⟩ ?_
      walk_at "rd"
      refine g_I (show (0 : Int) < 2147483647 by decide) ?_
      walk_at "rd"
      refine g_I ⟨by decide, by decide, by decide⟩ ?_
      walk_at "rd"
      refine g_ite (fun e2 => ?_) (fun e2 => ?_)
      · walk_at "rd"
        refine ⟨(by show 2 ≤ sizeLine; decide), fun p hp => ?_⟩
        refine q p _ hp (same_new hp) ⟨0, _, upd_same, by decide, Int.emod_nonneg _ (by decide), Int.emod_lt_of_pos _ (by decide)⟩
      · walk_at "rd"
        refine ⟨(by show 2 ≤ sizeLine; decide), fun p hp => ?_⟩
        have e3 := of_decide_eq_false e2
        refine q p _ hp (same_new hp) ⟨_, _, upd_same, ?_, Int.emod_nonneg _ (by decide), Int.emod_lt_of_pos _ (by decide)⟩
        exact Int.le_trans (by decide) (Int.not_lt.mp e3)

def spDraw : Sp := fun vs H Q _ => ∃ (p : Addr) (m : Int), vs = [.ref p, .int m] ∧ PoolAt H p ∧ 1 ≤ m ∧ m ≤ 1000000 ∧ ∀ (r : Int) H', 0 ≤ r → r < m → PoolAt H' p → Sx p H H' → Q (.int r) H'
theorem sx_upd {p : Addr} {H : Hp} {o : HO} : Sx p H (upd H p o) := fun b u hb e => by rw [upd_ne hb]; exact e
theorem ok_draw (T : Txt K mg) (D : Def K mg "_law_draw" s_law_draw ["_law_pool_here", "_law_many"]) : Cal P w K mg base 1 "_law_draw" spDraw := by
  refine cal_of D sc_law_draw (fun vs H Q E h => ?_) (fun f cdv A outer s H vs Q E hr h => ?_)
  · obtain ⟨p, m, rfl, _⟩ := h
    rfl
  · obtain ⟨p, m, rfl, ⟨c, z, hp, hc, hz, hz2⟩, m0, m1, q⟩ := h
    refine ⟨_, (pss_cons (ps_if (pt_cmpR op_gt (pe_ix ix_list (pv 0) pe_int (fun _ _ => rfl)) pe_int (nomark _)) (pss_cons (ps_set (i := 2) sc_law_draw.nd rfl (Or.inl rfl) (pe_op op_mod (pe_callTy call_int1 (by rfl) T.n_int (by decide +kernel) (pa_cons (pe_ix ix_list (pv 0) pe_int (fun _ _ => rfl)) pa_nil)) (pv 1)))
      (pss_cons (ps_asg (pe_op op_fdiv (pe_ix ix_list (pv 0) pe_int (fun _ _ => rfl)) (pv 1)) (pg_sub (pv 0) pe_int set_list))
      (pss_one (ps_ret (pv 2))))) pss_nil)
      (pss_cons (ps_asg (pe_op op_mod (pe_callTy call_int1 (by rfl) T.n_int (by decide +kernel) (pa_cons (pe_op op_add (pe_op op_mul (pe_ix ix_list (pv 0) pe_int (fun _ _ => rfl)) pe_int) pe_int) pa_nil)) pe_int) (pg_sub (pv 0) pe_int set_list))
      (pss_one (ps_ret (pe_op op_mod (pe_op op_fdiv (pe_op op_mod (pe_callTy call_int1 (by rfl) T.n_int (by decide +kernel) (pa_cons (pe_op op_mul (pe_ix ix_list (pv 0) pe_int (fun _ _ => rfl)) (pe_ix ix_list (pv 0) pe_int (fun _ _ => rfl))) pa_nil)) pe_int) pe_int) (pv 1)))))), ?_⟩
    walk_at "rd"
    refine g_ixL (SqL.of hp) (v := .int c) (atI_nat (j := 0) rfl) ?_
    walk_at "rd"
    refine g_ite (fun e => ?_) (fun e => ?_)
    · have cp : 0 < c := of_decide_eq_true e
      walk_at "rd"
      refine g_ixL (SqL.of hp) (v := .int c) (atI_nat (j := 0) rfl) ?_
      walk_at "rd"
      refine .inl ⟨_, rfl, ?_⟩
      walk_at "rd"
      refine g_I (show (0 : Int) < m by omega) ?_
      walk_at "rd"
      refine g_ixL (SqL.of hp) (v := .int c) (atI_nat (j := 0) rfl) ?_
      walk_at "rd"
      refine g_I (⟨by omega, by omega⟩ : CDiv _ _) ?_
      walk_at "rd"
      refine ⟨p, _, 0, 0, rfl, rfl, hp, rfl, ?_⟩
      walk_at "rd"
      refine q (c % m) _ (Int.emod_nonneg _ (by omega)) (Int.emod_lt_of_pos _ (by omega)) ⟨c / m, z, upd_same, Int.ediv_nonneg hc (by omega), hz, hz2⟩ sx_upd
    · walk_at "rd"
      refine g_ixL (SqL.of hp) (v := .int z) (atI_nat (j := 1) rfl) ?_
      walk_at "rd"
      refine g_I (.inl ⟨by omega, by omega⟩) ?_
      walk_at "rd"
      refine .inl ⟨_, rfl, ?_⟩
      walk_at "rd"
      refine g_I (show (0 : Int) < 2147483647 by decide) ?_
      walk_at "rd"
      refine ⟨p, _, 1, 1, rfl, rfl, hp, rfl, ?_⟩
      have y0 : 0 ≤ (z * 48271 + 11) % 2147483647 := Int.emod_nonneg _ (by decide)
      have y1 : (z * 48271 + 11) % 2147483647 < 2147483647 := Int.emod_lt_of_pos _ (by decide)
      generalize (z * 48271 + 11) % 2147483647 = y at y0 y1 ⊢
      walk_at "rd"
      refine g_ixL (SqL.of upd_same) (v := .int y) (atI_nat (j := 1) rfl) ?_
      walk_at "rd"
      refine g_ixL (SqL.of upd_same) (v := .int y) (atI_nat (j := 1) rfl) ?_
      walk_at "rd"
      refine g_I (.inl ⟨by omega, by omega⟩) ?_
      walk_at "rd"
      refine .inl ⟨_, rfl, ?_⟩
      walk_at "rd"
      refine g_I (show (0 : Int) < 2147483629 by decide) ?_
      walk_at "rd"
      refine g_I (⟨by decide, by decide⟩ : CDiv _ _) ?_
      walk_at "rd"
      refine g_I (show (0 : Int) < m by omega) ?_
      walk_at "rd"
      exact q _ _ (Int.emod_nonneg _ (by omega)) (Int.emod_lt_of_pos _ (by omega)) ⟨c, y, upd_same, hc, y0, y1⟩ sx_upd

end
end K2

namespace K2
open PySem PySem.Spec PyProof.Rows L2 Mc Mx
/-! a drawn choice, a drawn policy -/
abbrev FI (K : PySem.W.Frag) (go f : Addr) (fd : FuncData) : Prop := FunD K "__init__" "Policy.__init__" (defArgs s_Policyinit) (defBody s_Policyinit) (defScope s_Policyinit) [] (kwsP go) f fd
section
variable {P : Program} {w : World} {K : PySem.W.Frag} {mg : Str → Option Value} {base : Heap}
local macro_rules | `(tactic| walk_at "rd1") => `(tactic| first
  | with_reducible refine g_seq ?_
  | with_reducible refine g_asg ?_
  | with_reducible refine g_name ?_
  | with_reducible refine g_c ?_
  | with_reducible refine g_op ?_
  | with_reducible refine g_ifS ?_
  | with_reducible refine g_if ?_
  | with_reducible refine g_test ?_
  | with_reducible refine g_B ?_
  | with_reducible refine g_bl ?_
  | with_reducible refine g_blV ?_
  | with_reducible refine g_not ?_
  | with_reducible refine g_and ?_
  | with_reducible refine g_or ?_
  | with_reducible refine g_notV ?_
  | with_reducible refine g_andV ?_
  | with_reducible refine g_orV ?_
  | with_reducible refine g_ret ?_
  | with_reducible refine g_drop ?_
  | with_reducible refine g_next ?_
  | with_reducible refine g_retN ?_
  | with_reducible refine g_call ?_
  | with_reducible refine g_cb ?_
  | with_reducible refine g_cons ?_
  | with_reducible refine g_nil ?_
  | with_reducible refine g_tup ?_
  | with_reducible refine g_lst ?_
  | with_reducible refine g_prop ?_
  | with_reducible refine g_fld ?_
  | with_reducible refine g_meth ?_
  | with_reducible refine g_chain ?_
  | with_reducible refine g_yes ?_
  | with_reducible refine g_make ?_
  | with_reducible refine g_makeK ?_
  | with_reducible refine g_gsub ?_
  | with_reducible refine g_sfld ?_
  | with_reducible refine g_un ?_
  | with_reducible refine g_bm ?_
  | with_reducible refine g_iteT ?_
  | with_reducible refine g_iteF ?_
  | with_reducible refine g_I0 ?_
  | with_reducible refine g_add ?_
  | with_reducible refine g_sub ?_
  | ((with_reducible refine' g_var ?hv ?_); (case hv => rfl))
  | ((with_reducible refine g_eq ?hv ?_); (case hv => rfl))
  | ((with_reducible refine g_ne ?hv ?_); (case hv => rfl)))
local macro_rules | `(tactic| walk_at "rd") => `(tactic| repeat (walk_at "rd1"))

local macro_rules | `(tactic| walk_at "ty") => `(tactic| first | exact .non | exact .bl _ | exact .int _ | exact .str _ | exact .lst (by assumption) | exact .tup (by assumption) | exact .dK (by assumption) | exact .kTup (by assumption) (by assumption))
local macro_rules | `(tactic| walk_at "isiF") => `(tactic| refine g_isi (by walk_at "ty") (b := false) (by decide +kernel) ?_)
local macro_rules | `(tactic| walk_at "isiT") => `(tactic| refine g_isi (by walk_at "ty") (b := true) (by decide +kernel) ?_)

def spChoose : Sp := fun vs H Q _ => ∃ (p l : Addr) (xs : List V), vs = [.ref p, .ref l] ∧ PoolAt H p ∧ l ≠ p ∧ H l = some (.lst xs) ∧ 0 < xs.length ∧ xs.length ≤ 1000 ∧ ∀ x H', x ∈ xs → PoolAt H' p → Sx p H H' → Q x H'
theorem ok_choose (T : Txt K mg) (D : Def K mg "_law_choose" s_law_choose ["_law_pool_here", "_law_items"]) (c_law_draw : Cal P w K mg base 1 "_law_draw" spDraw) : Cal P w K mg base 2 "_law_choose" spChoose := by
  refine cal_of D sc_law_choose (fun vs H Q E h => ?_) (fun f cdv A outer s H vs Q E hr h => ?_)
  · obtain ⟨p, l, xs, rfl, _⟩ := h
    rfl
  · obtain ⟨p, l, xs, rfl, pl, hn, hl, h0, h1, q⟩ := h
    refine ⟨_, (pss_one (ps_ret (pe_ix ix_list (pv 1) (pe_f c_law_draw hr (by decide) (by rfl) (pa_cons (pv 0) (pa_cons (pe_callB call_len_seq (by rfl) T.n_len (by decide +kernel) (pa_cons (pv 1) pa_nil)) pa_nil))) (fun _ _ => rfl)))), ?_⟩
    walk_at "rd"
    refine ⟨l, xs, rfl, .inl (SqL.of hl), ?_⟩
    walk_at "rd"
    refine ⟨p, _, rfl, pl, by omega, by omega, fun r H1 r0 r1 pl1 sx => ?_⟩
    have hr' : r.toNat < xs.length := by omega
    walk_at "rd"
    refine g_ixL (SqL.of (sx _ _ hn hl)) (v := xs[r.toNat]) (at_of (j := r.toNat) (by omega) (List.getElem?_eq_getElem hr')) ?_
    exact q _ _ (List.getElem_mem hr') pl1 sx
theorem ne_lst {H : Hp} {p a : Addr} {ys : List V} {o : HO} (h : H p = some (.lst ys)) (e : H a = some o) (n : ∀ xs, o ≠ .lst xs) : a ≠ p := by
  intro q
  rw [q, h] at e
  exact n _ (Option.some.inj e).symm
theorem TupV.sl {H H' : Hp} {p a : Addr} {ys xs : List V} (hl : H p = some (.lst ys)) (e : Sx p H H') (h : TupV K H a xs) : TupV K H' a xs := by
  obtain ⟨ty, sq⟩ := h
  constructor
  · generalize hn : "tuple" = n at ty ⊢
    cases ty with
    | tup z => exact .tup (e _ _ (ne_lst hl z (by intro _ k; cases k)) z)
    | kTup z c => exact .kTup z c
    | lst z => exact absurd hn (by decide)
    | dK z => exact absurd hn (by decide)
  · rcases sq with (h | ⟨o, h⟩) | h
    · exact .inl (.inl (e _ _ (ne_lst hl h (by intro _ k; cases k)) h))
    · exact .inl (.inr ⟨o, e _ _ (ne_lst hl h (by intro _ k; cases k)) h⟩)
    · exact .inr h
theorem app_go {H : Hp} {r : Addr} {xs : List V} {y : V} {Q : VK} (h : H r = some (.lst xs)) (hl : xs.length < 100) (k : ∀ H', H' r = some (.lst (xs ++ [y])) → Sx r H H' → Q .non H') : rAppend (.ref r) [y] H Q :=
  ⟨r, xs, y, rfl, rfl, h, small1000 (by omega), k _ upd_same sx_upd⟩
theorem tup_go {H : Hp} {xs : List V} {Q : VK} (hl : xs.length ≤ 1000) (k : ∀ a H', H a = none → Same H H' → H' a = some (.tup xs) → Q (.ref a) H') : TupG Q xs H :=
  ⟨sz_le hl, fun p hp => k p _ hp (same_new hp) upd_same⟩
theorem lst_go {H : Hp} {xs : List V} {Q : VK} (hl : xs.length ≤ 1000) (k : ∀ a H', H a = none → Same H H' → H' a = some (.lst xs) → Q (.ref a) H') : LstG Q xs H :=
  ⟨sz_le hl, fun p hp => k p _ hp (same_new hp) upd_same⟩

theorem kc_nil {α : Type} {D : Addr} {t : Sem α} {r : α} (h : t = pure r) : KwChain D [] t r := h
theorem kc_cons {α β γ : Type} {D : Addr} {n : Str} {v : Value} {l : List (Str × Value)} {t : Sem α} {r : α} {k1 : Option Value → Sem β} {k2 : β → Sem γ} {k3 : γ → Sem α} {a : β} (h : t = ((nsGet D n >>= k1) >>= k2) >>= k3) (h1 : k1 (some v) = pure a)
    (h2 : KwChain D l (k2 a >>= k3) r) : KwChain D ((n, v) :: l) t r := ⟨β, γ, k1, k2, k3, a, h, h1, h2⟩
abbrev ksF : List Str := ["tries", "pauses", "early", "lossy", "ending"]
theorem kb_full {go f : Addr} {fd : FuncData} (F : FI K go f fd) : KBn K fd psP 3 ksF (fun us ws => us ++ ws) (fun vs zs => vs ++ zs) := by
  obtain ⟨mv, h⟩ := F.kbinds0 (ps := psP) 3 ksF [] (fun vs mz zs => vs ++ zs) (by simp) (by simp) (fun a _ c => a.append c) (fun D doc pm an cdv ct us mv ws h1 h2 h3 => match us, mv, ws, h1, h2, h3 with
    | [_, _, _], [], [_, _, _, _, _], _, _, _ => kc_nil rfl)
  exact h
/-- a new instance and its dict leave what was tracked -/
theorem same_made {H H1 : Hp} {x dx C : Addr} (nx : H x = none) (nd : H dx = none) (k : ∀ b o, (upd (upd H dx (.own x)) x (.ins C dx [])) b = some o → b ≠ x → H1 b = some o) : Same H H1 := fun b o e =>
  k b o (by rw [upd_ne (ne_of_none e nx), upd_ne (ne_of_none e nd)]; exact e) (ne_of_none e nx)
theorem same_ins {H : Hp} {x dx C : Addr} (nx : H x = none) (nd : H dx = none) : Same H (upd (upd H dx (.own x)) x (.ins C dx [])) := fun b o e => by
  rw [upd_ne (ne_of_none e nx), upd_ne (ne_of_none e nd)]; exact e
theorem g_par {σ : L2.St} {H : Hp} {D : Ends} {i j : Nat} {ta : TA} (q : ta σ H fun vs H1 => ∃ v w, vs = [v, w] ∧ D.nx ((σ.set i (some v)).set j (some w)) H1) : tPar i j ta D σ H := q
end
end K2

namespace K2
open PySem PySem.Spec PyProof.Rows L2 Mc
/-! data that can be shown and compared -/
structure Good (d : PyData) (w e : Nat) : Prop where
  sh : d.showable = true
  hd : d.hasDict = false
  cl : d.canLay0 = true
  ls : d.leavesShort 13 = true
  wt : d.weight ≤ w
  dp : d.depth ≤ e
structure GoodA (ds : List PyData) (w e : Nat) : Prop where
  sh : PyData.showableAll ds = true
  hd : PyData.hasDictAll ds = false
  cl : PyData.canLayAll0 ds = true
  ls : PyData.leavesShortAll 13 ds = true
  wt : PyData.weightAll ds ≤ w
  dp : PyData.depthAll ds ≤ e
theorem GoodA.nil {e : Nat} : GoodA [] 0 e := ⟨by simp only [PyData.showableAll], by simp only [PyData.hasDictAll], by simp only [PyData.canLayAll0], by simp only [PyData.leavesShortAll], by simp only [PyData.weightAll]; omega, by simp only [PyData.depthAll]; omega⟩
theorem GoodA.cons {d : PyData} {ds : List PyData} {w v e : Nat} (h : Good d w e) (t : GoodA ds v e) : GoodA (d :: ds) (w + 1 + v) e :=
  ⟨by simp only [PyData.showableAll, h.sh, t.sh]; rfl, by simp only [PyData.hasDictAll, h.hd, t.hd]; rfl, by simp only [PyData.canLayAll0, h.cl, t.cl]; rfl, by simp only [PyData.leavesShortAll, h.ls, t.ls]; rfl,
    by have := h.wt; have := t.wt; simp only [PyData.weightAll]; omega, by have := h.dp; have := t.dp; simp only [PyData.depthAll]; omega⟩
theorem Good.mono {d : PyData} {w v e g : Nat} (h : Good d w e) (hw : w ≤ v) (he : e ≤ g) : Good d v g := ⟨h.sh, h.hd, h.cl, h.ls, Nat.le_trans h.wt hw, Nat.le_trans h.dp he⟩
theorem GoodA.mono {d : List PyData} {w v e g : Nat} (h : GoodA d w e) (hw : w ≤ v) (he : e ≤ g) : GoodA d v g := ⟨h.sh, h.hd, h.cl, h.ls, Nat.le_trans h.wt hw, Nat.le_trans h.dp he⟩
theorem GoodA.list {ds : List PyData} {w e : Nat} (h : GoodA ds w e) : Good (.list ds) w (e + 1) :=
  ⟨by simp only [PyData.showable, h.sh], by simp only [PyData.hasDict, h.hd], by simp only [PyData.canLay0, h.cl], by simp only [PyData.leavesShort, h.ls], by have := h.wt; simp only [PyData.weight]; omega, by have := h.dp; simp only [PyData.depth]; omega⟩
theorem GoodA.tuple {ds : List PyData} {w e : Nat} (h : GoodA ds w e) : Good (.tuple ds) w (e + 1) :=
  ⟨by simp only [PyData.showable, h.sh], by simp only [PyData.hasDict, h.hd], by simp only [PyData.canLay0, h.cl], by simp only [PyData.leavesShort, h.ls], by have := h.wt; simp only [PyData.weight]; omega, by have := h.dp; simp only [PyData.depth]; omega⟩
theorem small_int : ∀ n : Nat, n < 21 → ((n : Int).natAbs.log2 < 1920 ∧ (PyData.shown (.int n)).length ≤ 13 ∧ PyData.weight (.int n) ≤ 10) := by decide +kernel
theorem Good.int {i : Int} (h0 : 0 ≤ i) (h1 : i ≤ 20) : Good (.int i) 10 0 := by
  obtain ⟨n, rfl⟩ : ∃ n : Nat, i = n := ⟨i.toNat, by omega⟩
  obtain ⟨a, b, c⟩ := small_int n (by omega)
  exact ⟨by simp only [PyData.showable]; exact decide_eq_true a, by simp only [PyData.hasDict], by simp only [PyData.canLay0], by simp only [PyData.leavesShort]; exact decide_eq_true b, c, by simp only [PyData.depth]; omega⟩
theorem Good.none : Good .none 10 0 := ⟨by simp only [PyData.showable], by simp only [PyData.hasDict], by simp only [PyData.canLay0], by simp only [PyData.leavesShort], by simp only [PyData.weight]; omega, by simp only [PyData.depth]; omega⟩
theorem Good.bool (b : Bool) : Good (.bool b) 10 0 := ⟨by simp only [PyData.showable], by simp only [PyData.hasDict], by simp only [PyData.canLay0], by simp only [PyData.leavesShort], by simp only [PyData.weight]; omega, by simp only [PyData.depth]; omega⟩
theorem Good.str {z : Str} (h : ∀ c ∈ z.cps.toList, c < 1000) (hl : z.length ≤ 10) : Good (.str z) 10 0 :=
  ⟨by simp only [PyData.showable], by simp only [PyData.hasDict], by
    simp only [PyData.canLay0, PyData.strOk]
    rw [Array.all_eq_true']
    intro x hx
    exact decide_eq_true (Nat.lt_trans (h x (Array.mem_toList_iff.mpr hx)) (by decide)), by
    simp only [PyData.leavesShort, List.all_eq_true, decide_eq_true_eq]
    intro c hc
    exact Nat.lt_trans (h c hc) (by decide), by simp only [PyData.weight]; exact hl, by simp only [PyData.depth]; omega⟩
theorem letters_lt : ∀ c ∈ letters.cps.toList, c < 1000 := by decide +kernel
theorem good_name {z : Str} (h : isNm z = true) : Good (.str z) 10 0 := by
  unfold isNm at h
  rw [Bool.and_eq_true, Bool.and_eq_true, decide_eq_true_eq, decide_eq_true_eq, List.all_eq_true] at h
  obtain ⟨_, h2, h3⟩ := h
  exact .str (fun c hc => letters_lt c (of_decide_eq_true (h3 c hc))) (by omega)
theorem good_ints {ns : List Int} (h : ∀ i ∈ ns, 0 ≤ i ∧ i ≤ 8) : GoodA (ns.map PyData.int) (11 * ns.length) 0 := by
  induction ns with
  | nil => exact GoodA.nil
  | cons i r ih =>
    have hi := h i (List.mem_cons_self ..)
    exact (GoodA.cons (Good.int hi.1 (by omega)) (ih fun j hj => h j (List.mem_cons_of_mem _ hj))).mono (by rw [List.length_cons]; omega) (Nat.le_refl _)
theorem good_en {g : En} (h : g.ok) : GoodA g.ds 30 0 := by
  cases g with
  | go => exact (GoodA.cons (Good.str (by decide +kernel) (by decide +kernel)) .nil).mono (by decide) (Nat.le_refl _)
  | deadline => exact (GoodA.cons (Good.str (by decide +kernel) (by decide +kernel)) .nil).mono (by decide) (Nat.le_refl _)
  | stop d => exact (GoodA.cons (Good.str (by decide +kernel) (by decide +kernel)) (GoodA.cons (Good.int h.1 h.2) .nil)).mono (by decide) (Nat.le_refl _)
theorem good_pol {q : Pol} (ok : q.ok) : GoodA q.ds 200 1 := by
  have hp : GoodA (q.ps.map PyData.int) 40 0 := by
    cases he : q.e with
    | none =>
      obtain ⟨h1, h2⟩ := ok.e0 he
      exact (good_ints h2).mono (by have := ok.t2; omega) (Nat.le_refl _)
    | some i =>
      rw [(ok.e1 i he).2.2.2]
      exact GoodA.nil.mono (by omega) (Nat.le_refl _)
  have hE : Good (eD q.e) 10 0 := by
    cases he : q.e with
    | none => exact .none
    | some i => exact .int (by have := ok.e1 i he; omega) (by have := ok.e1 i he; omega)
  have l1 := ok.l1
  have l2 := ok.l2
  have t1 := ok.t1
  have t2 := ok.t2
  refine (GoodA.cons ((good_name ok.nm).mono (Nat.le_refl _) (by omega)) (GoodA.cons ((Good.int (by omega) l2).mono (Nat.le_refl _) (by omega)) (GoodA.cons ((Good.int (by omega) (by omega)).mono (Nat.le_refl _) (by omega)) (GoodA.cons hp.tuple (GoodA.cons (hE.mono (Nat.le_refl _) (by omega))
    (GoodA.cons ((Good.bool q.b).mono (Nat.le_refl _) (by omega)) (GoodA.cons (good_en ok.g1).tuple .nil))))))).mono (by decide) (Nat.le_refl _)
theorem Good.shaped {d : PyData} {w e : Nat} (h : Good d w e) (he : e ≤ 64) : SeqAt.shaped d = true := by
  unfold SeqAt.shaped
  rw [h.cl, decide_eq_true (Nat.le_trans h.dp he)]
  rfl
theorem Good.fits {d : PyData} {w e : Nat} (h : Good d w e) (hw : w ≤ 1000) : d.shown.length ≤ sizeLine :=
  PyData.shown_fits (B := 13) (by decide) (by decide) h.ls (Nat.le_trans h.wt (Nat.le_trans hw (by decide)))
theorem repr_go {K : PySem.W.Frag} {H : Hp} {Q : VK} {a : Addr} {d : PyData} {w e : Nat} (h : Dp K H (.ref a) d) (g : Good d w e) (hw : w ≤ 1000) (he : e ≤ 40) (q : Q (.str d.shown) H) : rRepr K [.ref a] H Q :=
  ⟨a, d, rfl, h, g.sh, g.hd, Nat.le_trans g.dp he, g.fits hw, q⟩
theorem eqv_lt (a b : List PyData) : PyData.eqv (.tuple a) (.tuple b) = PyData.eqv (.list a) (.list b) := by
  simp only [PyData.eqv]
theorem g_eqD {K : PySem.W.Frag} {H : Hp} {Q : VK} {x y : V} {d e : PyData} (hx : Dp K H x d) (hy : Dp K H y e) (s1 : SeqAt.shaped d = true) (s2 : SeqAt.shaped e = true) (q : Q (.bl (PyData.eqv d e)) H) : rEqD K x y H Q := ⟨d, e, hx, hy, s1, s2, q⟩

theorem good_names {l : List Str} (h : ∀ z ∈ l, isNm z = true) : GoodA (l.map PyData.str) (11 * l.length) 0 := by
  induction l with
  | nil => exact GoodA.nil
  | cons z r ih => exact (GoodA.cons (good_name (h z (List.mem_cons_self ..))) (ih fun j hj => h j (List.mem_cons_of_mem _ hj))).mono (by rw [List.length_cons]; omega) (Nat.le_refl _)
theorem dp_strs {K : PySem.W.Frag} {H : Hp} : ∀ l : List Str, DpAll K H (l.map V.str) (l.map PyData.str)
  | [] => .nil
  | z :: l => .cons (.str z) (dp_strs l)
theorem eqv_nil (l : List PyData) : PyData.eqv (.list l) (.list []) = decide (l = []) := by
  cases l <;> simp [PyData.eqv, PyData.eqvAll]
end K2

namespace K2
open PySem PySem.Spec PyProof.Rows L2 Mc Mx
/-! other systems of a system -/
/-- a comprehension over the keys of a locked dict -/
theorem lc_keys {d : Addr} {o : Obj} {kvs : List (Key × V)} {g : TG} {tt : TT} {te : TE} {vs : List Nat} {σ : L2.St} {H1 : Hp} {Q : VK} (Pv : Addr → Nat → Hp → Prop) (h0 : ∀ D, H1 D = none → Pv D 0 (upd H1 D (.lst []))) (hl : ∀ D i H, H1 D = none → Pv D i H → H d = some (.frz o (.dK kvs)))
    (hs : ∀ D i k v H, H1 D = none → kvs[i]? = some (k, v) → Pv D i H → g (kV k) (wipe σ vs) H fun σ2 H2 => wipe σ2 vs = wipe σ vs ∧ tt σ2 H2 fun b H3 => if b = true then te σ2 H3 fun y H4 => ∃ acc, H4 D = some (.lst acc) ∧ acc.length < sizeLine ∧ Pv D (i + 1) (upd H4 D (.lst (acc ++ [y]))) else Pv D (i + 1) H3)
    (hd : ∀ D H, H1 D = none → Pv D kvs.length H → Q (.ref D) H) : LcW g tt te vs σ Q (Itk d o kvs) H1 := by
  intro D hD
  refine ⟨fun i m H => m = kvs.length - i ∧ i ≤ kvs.length ∧ Pv D i H, ⟨_, rfl, Nat.zero_le _, h0 D hD⟩, ?_⟩
  rintro i m H ⟨rfl, hi, p⟩
  rcases Nat.lt_or_ge i kvs.length with lt | ge
  · refine .inr ⟨⟨hl D i H hD p, lt⟩, Pv D (i + 1), fun H' p' => ⟨kvs.length - (i + 1), by omega, rfl, lt, p'⟩, ?_⟩
    rintro x H' ⟨rfl, k, v, hk, rfl⟩
    exact hs D i k v _ hD hk p
  · have e : i = kvs.length := Nat.le_antisymm hi ge
    exact .inl ⟨⟨hl D i H hD p, ge⟩, hd D H hD (e ▸ p)⟩
theorem pe_fldK {X : Cx} {K : PySem.W.Frag} {e : Expr} {f : Str} {pos : Pos} {ta : TE} (hK : X.K = K) (he : PE X e ta) (hab : attributeBase e f X.env (eval e X.env) = eval e X.env) : PE X (.Attribute e f pos) (tFld K ta f) := hK ▸ pe_fld he hab
theorem upd_nn {H : Hp} {d t : Addr} {o : HO} (h : H t ≠ none) : upd H d o t ≠ none := by
  unfold upd
  split
  · simp
  · exact h
theorem Sd.refl {d : Addr} (H : Hp) : Sd d H H := fun _ _ _ h => h
theorem Sd.trans {d : Addr} {H H1 H2 : Hp} (a : Sd d H H1) (b : Sd d H1 H2) : Sd d H H2 := fun c o hc h => b c o hc (a c o hc h)
theorem Same.sd {d : Addr} {H H' : Hp} (h : Same H H') : Sd d H H' := fun c o _ e => h c o e
theorem sd_upd {d : Addr} {H : Hp} {o : HO} : Sd d H (upd H d o) := fun b u hb e => by rw [upd_ne hb]; exact e
theorem sd_new {d D : Addr} {H H' : Hp} {o : HO} (hD : H D = none) (e : Sd d H H') : Sd d H (upd H' D o) := fun b u hb hu => by rw [upd_ne (ne_of_none hu hD)]; exact e b u hb hu
theorem g_makeS {C : Addr} {sp : Sp} {E : L2.St → XK} {t : TA} {σ : L2.St} {H : Hp} {Q : VK} (q : t σ H fun vs H1 => ∀ x dx, H1 x = none → H1 dx = none → dx ≠ x → sp (.ref x :: (vs ++ [])) (upd (upd H1 dx (.own x)) x (.ins C dx [])) (fun v H2 => v = .non ∧ Q (.ref x) H2) (E σ)) : tMakeS C sp E t σ H Q := q
theorem g_lvals {σ : L2.St} {H : Hp} {Q : VK} {te : TE} (q : te σ H fun x H1 => ∃ (d : Addr) (kvs : List (Key × V)), x = .ref d ∧ H1 d = some (.dK kvs) ∧ ∀ l, H1 l = none → Q (.ref l) (upd H1 l (.lst (kvs.map (·.2))))) : tListVals te σ H Q := q
theorem g_lockS {D : Ends} {σ : L2.St} {H : Hp} {t : TS} {d : Addr} {u : HO} (h : H d = some u) (m : Mut (some u))
    (q : ∀ od, t ⟨fun σ' H' => H' d = some (.frz od u) ∧ D.nx σ' (upd H' d u), fun v H' => H' d = some (.frz od u) ∧ D.rt v (upd H' d u), fun σ' H' => H' d = some (.frz od u) ∧ D.bk σ' (upd H' d u), fun σ' H' => H' d = some (.frz od u) ∧ D.ct σ' (upd H' d u)⟩ σ (upd H d (.frz od u))) : tLock t D σ H := ⟨d, u, h, m, q⟩
section
variable {P : Program} {w : World} {K : PySem.W.Frag} {mg : Str → Option Value} {base : Heap} {C CS CI CU CT : Addr}
local macro_rules | `(tactic| walk_at "rd1") => `(tactic| first
  | with_reducible refine g_seq ?_
  | with_reducible refine g_asg ?_
  | with_reducible refine g_name ?_
  | with_reducible refine g_c ?_
  | with_reducible refine g_op ?_
  | with_reducible refine g_ifS ?_
  | with_reducible refine g_if ?_
  | with_reducible refine g_test ?_
  | with_reducible refine g_B ?_
  | with_reducible refine g_bl ?_
  | with_reducible refine g_blV ?_
  | with_reducible refine g_not ?_
  | with_reducible refine g_and ?_
  | with_reducible refine g_or ?_
  | with_reducible refine g_notV ?_
  | with_reducible refine g_andV ?_
  | with_reducible refine g_orV ?_
  | with_reducible refine g_ret ?_
  | with_reducible refine g_drop ?_
  | with_reducible refine g_next ?_
  | with_reducible refine g_retN ?_
  | with_reducible refine g_call ?_
  | with_reducible refine g_cb ?_
  | with_reducible refine g_cons ?_
  | with_reducible refine g_nil ?_
  | with_reducible refine g_tup ?_
  | with_reducible refine g_lst ?_
  | with_reducible refine g_prop ?_
  | with_reducible refine g_fld ?_
  | with_reducible refine g_meth ?_
  | with_reducible refine g_chain ?_
  | with_reducible refine g_yes ?_
  | with_reducible refine g_make ?_
  | with_reducible refine g_makeK ?_
  | with_reducible refine g_gsub ?_
  | with_reducible refine g_sfld ?_
  | with_reducible refine g_un ?_
  | with_reducible refine g_bm ?_
  | with_reducible refine g_iteT ?_
  | with_reducible refine g_iteF ?_
  | with_reducible refine g_I0 ?_
  | with_reducible refine g_add ?_
  | with_reducible refine g_sub ?_
  | ((with_reducible refine' g_var ?hv ?_); (case hv => rfl))
  | ((with_reducible refine g_eq ?hv ?_); (case hv => rfl))
  | ((with_reducible refine g_ne ?hv ?_); (case hv => rfl)))
local macro_rules | `(tactic| walk_at "rd") => `(tactic| repeat (walk_at "rd1"))

local macro_rules | `(tactic| walk_at "ty") => `(tactic| first | exact .non | exact .bl _ | exact .int _ | exact .str _ | exact .lst (by assumption) | exact .tup (by assumption) | exact .dK (by assumption) | exact .kTup (by assumption) (by assumption))
local macro_rules | `(tactic| walk_at "isiF") => `(tactic| refine g_isi (by walk_at "ty") (b := false) (by decide +kernel) ?_)
local macro_rules | `(tactic| walk_at "isiT") => `(tactic| refine g_isi (by walk_at "ty") (b := true) (by decide +kernel) ?_)

theorem SrvAt.kp {H H' : Hp} (e : Kp H H') : ∀ {rr : List Addr} {rs : List Rw}, SrvAt K H rr rs → SrvAt K H' rr rs
  | [], _, h => h
  | r :: rr, _, ⟨x, ys, e1, t, h⟩ => ⟨x, ys, e1, t.kp e, SrvAt.kp e h⟩
theorem find_at {α : Type} {f : α → Str} : ∀ {l : List α} {i : Nat} {x : α}, (l.map f).Nodup → l[i]? = some x → (l.find? fun y => decide (f y = f x)) = some x
  | [], i, x, _, h => by cases h
  | y :: l, 0, x, _, h => by
    obtain rfl : y = x := by simpa using h
    simp
  | y :: l, i + 1, x, hn, h => by
    have hm : x ∈ l := List.mem_of_getElem? (by simpa using h)
    obtain ⟨h1, h2⟩ := List.nodup_cons.mp hn
    have ne : ¬ f y = f x := fun e => h1 (List.mem_map.mpr ⟨x, hm, e.symm⟩)
    rw [List.find?_cons_of_neg (by simpa using ne)]
    exact find_at h2 (by simpa using h)
theorem bk_at {rs : List Rw} {i : Nat} {k : Key} {v : V} (h : (bk rs)[i]? = some (k, v)) : ∃ x, rs[i]? = some x ∧ k = Sum.inr x.z ∧ v = .ref x.c := by
  rw [List.getElem?_map] at h
  obtain ⟨x, hx, e⟩ := Option.map_eq_some_iff.mp h
  obtain ⟨e1, e2⟩ := Prod.mk.inj e
  exact ⟨x, hx, e1.symm, e2.symm⟩
theorem pd_at {ps : Ps} {i : Nat} {k : Key} {v : V} (h : (PDk ps)[i]? = some (k, v)) : ∃ x, ps[i]? = some x ∧ k = Sum.inr x.2.z ∧ v = .ref x.1 := by
  unfold PDk at h
  rw [List.getElem?_map] at h
  obtain ⟨x, hx, e⟩ := Option.map_eq_some_iff.mp h
  obtain ⟨e1, e2⟩ := Prod.mk.inj e
  exact ⟨x, hx, e1.symm, e2.symm⟩
theorem get_bk {rs : List Rw} {i : Nat} {x : Rw} (hn : (nmR rs).Nodup) (h : rs[i]? = some x) : valV (bk rs) (Sum.inr x.z) = some (.ref x.c) := by
  rw [val_bk]
  unfold rowOf
  rw [find_at (f := fun x : Rw => x.z) hn h]
  rfl
theorem get_pd {ps : Ps} {i : Nat} {x : Addr × Pol} (hn : (nmP ps).Nodup) (h : ps[i]? = some x) : valV (PDk ps) (Sum.inr x.2.z) = some (.ref x.1) := by
  rw [val_pol]
  unfold polOf
  rw [find_at (f := fun x : Addr × Pol => x.2.z) hn h]
  rfl
theorem take_srv {H : Hp} {rr : List Addr} {rs : List Rw} {i : Nat} {x : Rw} {r : Addr} (hx : rs[i]? = some x) (h : SrvAt K H rr (rs.take i)) (t : TupV K H r [.str x.z, .ref x.c]) : SrvAt K H (rr ++ [r]) (rs.take (i + 1)) := by
  rw [List.take_add_one, hx]
  exact h.app (.one t)
theorem tup_unlock {H : Hp} {d a : Addr} {o : Obj} {k : List (Key × V)} {xs : List V} (h : H d = some (.frz o (.dK k))) (t : TupV K H a xs) : TupV K (upd H d (.dK k)) a xs := by
  have ne : ∀ {u : HO}, H a = some u → u ≠ .frz o (.dK k) → a ≠ d := fun e n z => by
    rw [z, h] at e
    exact n (Option.some.inj e).symm
  obtain ⟨ty, sq⟩ := t
  constructor
  · generalize hn : "tuple" = n at ty ⊢
    cases ty with
    | tup z => exact .tup (by rw [upd_ne (ne z (by intro z; cases z))]; exact z)
    | kTup z c => exact .kTup z c
    | lst z => exact absurd hn (by decide)
    | dK z => exact absurd hn (by decide)
  · rcases sq with (z | ⟨o', z⟩) | z
    · exact .inl (.inl (by rw [upd_ne (ne z (by intro z; cases z))]; exact z))
    · exact .inl (.inr ⟨o', by rw [upd_ne (ne z (by intro z; cases z))]; exact z⟩)
    · exact .inr z
theorem srv_unlock {H : Hp} {d : Addr} {o : Obj} {k : List (Key × V)} (h : H d = some (.frz o (.dK k))) : ∀ {rr : List Addr} {rs : List Rw}, SrvAt K H rr rs → SrvAt K (upd H d (.dK k)) rr rs
  | [], _, z => z
  | r :: rr, _, ⟨x, ys, e1, t, z⟩ => ⟨x, ys, e1, tup_unlock h t, srv_unlock h z⟩
def spRows (K : PySem.W.Frag) (C CS : Addr) : Sp := fun vs H Q _ => ∃ (s : Addr) (ps : Ps) (rs : List Rw), vs = [.ref s] ∧ SysAt K C CS H s ps rs ∧ ∀ r rr H', H r = none → (∀ t ∈ rr, H t = none ∧ H' t ≠ none) → Same H H' → H' r = some (.lst (rr.map V.ref)) → SrvAt K H' rr rs → Q (.ref r) H'
theorem ok_rows {f : Addr} {fd : FuncData} (F : Fun K "_rows" "System._rows" s_System_rows f fd) (T : Txt K mg) (TS : STx K CS) (me : Meth K CS "_rows" f) (b : Binds K fd ["self"] []) : Mth P w K mg base 1 CS "_rows" (spRows K C CS) := by
  refine ⟨f, fd, _, TS.cl, me, F.ok sc_System_rows (fun vs H Q E h => ?_) (fun cdv A outer st H vs Q E hr h => ?_), b⟩
  · obtain ⟨s, ps, rs, rfl, _⟩ := h
    rfl
  · obtain ⟨s, ps, rs, rfl, sy, q⟩ := h
    obtain ⟨dx, dp, db, ds, h1, h2, h3, h4⟩ := sy.at_
    have rn := sy.rn
    refine ⟨_, (pss_one (ps_ret (pe_lock (pe_lc (own := [("name", 1)]) (g := gName 1) (by rfl) sc_System_rows.nd (pi_keys (pe_fldK (K := K) rfl (pv 0) rfl)) (blkOk_by (own := [("name", 1)]) (N := N_System_rows) (sc := defScope s_System_rows) (by decide +kernel)) (fun _ _ _ _ _ => pg_name (i := 1) sc_System_rows.nd rfl (Or.inl rfl)) (fun _ _ _ _ _ => pts_nil) (fun _ _ _ _ _ => (pe_tup (pa_cons (pv 1) (pa_cons (pe_dget (Nat.lt_of_le_of_lt (Nat.add_le_add_left (by decide : 1 ≤ 64) _) hr.units) (pe_fldK (K := K) rfl (pv 0) rfl) (pv 1) (fun _ _ => rfl)) pa_nil)))))))), ?_⟩
    walk_at "rd"
    refine g_lockE h3 trivial fun od => ?_
    refine g_lc (g_ikeys ?_)
    walk_at "rd"
    have nsb : s ≠ db := ne_obj h1 h3 (by intro z; cases z)
    refine ⟨s, CS, dx, _, _, rfl, by rw [upd_ne nsb]; exact h1, TS.cl, TS.n2, slk2, ?_⟩
    refine ⟨db, od, rfl, .inl ⟨_, upd_same, ?_⟩⟩
    refine lc_keys (fun D i H' => ∃ rr : List Addr, H' db = some (.frz od (.dK (bk rs))) ∧ Sd db H H' ∧ H' D = some (.lst (rr.map V.ref)) ∧ SrvAt K H' rr (rs.take i) ∧ ∀ t ∈ rr, H t = none ∧ H' t ≠ none) ?_ (fun D i H' _ ⟨_, e, _⟩ => e) ?_ ?_
    · intro D hD
      have Dn : D ≠ db := fun e => by rw [e, upd_same] at hD; cases hD
      have D0 : H D = none := by rw [upd_ne Dn] at hD; exact hD
      exact ⟨[], by rw [upd_ne Dn.symm]; exact upd_same, sd_new D0 sd_upd, upd_same, rfl, fun t ht => by cases ht⟩
    · rintro D i k v H2 hD hk ⟨rr, h2f, sd2, h2D, sv2, fr⟩
      obtain ⟨x, hx, rfl, rfl⟩ := bk_at hk
      have Dn : D ≠ db := fun e => by rw [e, upd_same] at hD; cases hD
      have D0 : H D = none := by rw [upd_ne Dn] at hD; exact hD
      walk_at "rd"
      refine ⟨rfl, ?_⟩
      walk_at "rd"
      refine g_dget ?_
      walk_at "rd"
      refine ⟨s, CS, dx, _, _, rfl, sd2 _ _ nsb h1, TS.cl, TS.n2, slk2, ?_⟩
      walk_at "rd"
      refine ⟨db, _, rfl, .inl ⟨bk rs, Sum.inr x.z, .inr ⟨od, h2f⟩, rfl, (get_bk rn hx).symm⟩, ?_⟩
      walk_at "rd"
      refine tup_go ?hl fun t H3 t0 S3 ht => ?_
      case hl => exact Nat.le_of_ble_eq_true rfl
      have hlen := sv2.len
      have hi := (List.getElem?_eq_some_iff.mp hx).1
      have h6 := sy.rl
      rw [List.length_take] at hlen
      have tD : t ≠ D := fun e => by rw [e, h2D] at t0; cases t0
      have k3 : Kp H3 (upd H3 D (.lst (rr.map V.ref ++ [.ref t]))) := Kp.upd (S3 _ _ h2D)
      refine ⟨_, S3 _ _ h2D, small1000 (by rw [List.length_map]; omega), rr ++ [t], ?_, ?_, by rw [upd_same, List.map_append]; rfl, ?_, ?_⟩
      · rw [upd_ne Dn.symm]; exact S3 _ _ h2f
      · exact sd_new D0 (sd2.trans (Same.sd S3))
      · exact take_srv hx (SrvAt.kp ((Kp.of S3).trans k3) sv2) ⟨.tup (by rw [upd_ne tD]; exact ht), SqT.of (by rw [upd_ne tD]; exact ht)⟩
      · have ndb : t ≠ db := fun e => by rw [e, h2f] at t0; cases t0
        intro u hu
        rcases List.mem_append.mp hu with hu | hu
        · obtain ⟨f1, f2⟩ := fr u hu
          refine ⟨f1, ?_⟩
          rcases hD2 : decide (u = D) with _ | _
          · rw [upd_ne (of_decide_eq_false hD2)]
            cases e : H2 u with
            | none => exact absurd e f2
            | some o => rw [S3 _ _ e]; simp
          · rw [of_decide_eq_true hD2, upd_same]; simp
        · rw [List.mem_singleton.mp hu]
          refine ⟨?_, by rw [upd_ne tD, ht]; simp⟩
          cases e : H t with
          | none => rfl
          | some o => rw [sd2 _ _ ndb e] at t0; cases t0
    · rintro D H2 hD ⟨rr, h2f, sd2, h2D, sv2, fr⟩
      have Dn : D ≠ db := fun e => by rw [e, upd_same] at hD; cases hD
      have D0 : H D = none := by rw [upd_ne Dn] at hD; exact hD
      refine ⟨h2f, q D rr _ D0 (fun t ht => ⟨(fr t ht).1, upd_nn (fr t ht).2⟩) (same_unlock h3 sd2) (by rw [upd_ne Dn]; exact h2D) ?_⟩
      rw [List.length_map, List.take_length] at sv2
      exact srv_unlock h2f sv2
/-! ### systems that are made of it -/
def MadeSys (K : PySem.W.Frag) (C CS CI CU CT : Addr) (H : Hp) (ps : Ps) (rs : List Rw) (Q : VK) (E : XK) : Prop :=
  (sysOut ps rs [] = none ∧ ∀ s' H', H s' = none → Same H H' → SysAt K C CS H' s' ps rs → Q (.ref s') H') ∨ ∃ e, sysOut ps rs [] = some e ∧ ErE CI CU CT H E e
theorem ErE.ext {H H' : Hp} {E : XK} (S : Same H H') : ∀ {e : Er}, ErE CI CU CT H E e → ErE CI CU CT H' E e
  | .part z i, h => fun d H2 S2 hd => h d H2 (Same.trans S S2) hd
  | .name z, h => fun d H2 S2 hd => h d H2 (Same.trans S S2) hd
  | .long z, h => fun d H2 S2 hd => h d H2 (Same.trans S S2) hd
theorem MadeSys.ext {H H' : Hp} {ps : Ps} {rs : List Rw} {Q : VK} {E : XK} (S : Same H H') (h : MadeSys K C CS CI CU CT H ps rs Q E) : MadeSys K C CS CI CU CT H' ps rs Q E :=
  h.imp (fun ⟨a, k⟩ => ⟨a, fun s' H2 hs S2 sy => k s' H2 (none_of S hs) (Same.trans S S2) sy⟩) fun ⟨e, a, k⟩ => ⟨e, a, ErE.ext S k⟩
theorem sys_goS {H1 : Hp} {x dx pl sv : Addr} {ps : Ps} {rr : List Addr} {rs : List Rw} {Q : VK} {E : XK} (nx : H1 x = none) (nd : H1 dx = none) (hpl : SeqV K H1 pl (rfP ps)) (hpa : PolsAt K C H1 ps) (l8 : ps.length ≤ 8) (pn : (nmP ps).Nodup)
    (hsv : SeqV K H1 sv (rr.map V.ref)) (hsr : SrvAt K H1 rr rs) (hra : RwsAt K H1 rs) (r1 : 1 ≤ rs.length) (r6 : rs.length ≤ 6) (rn : (nmR rs).Nodup) (hm : MadeSys K C CS CI CU CT H1 ps rs Q E) :
    spSys K C CS CI CU CT (.ref x :: ([.ref pl, .ref sv] ++ [])) (upd (upd H1 dx (.own x)) x (.ins CS dx [])) (fun v H2 => v = .non ∧ Q (.ref x) H2) E :=
  ⟨x, dx, pl, sv, ps, rr, rs, H1, rfl, upd_same, nx, same_ins nx nd, hpl, hpa, l8, pn, hsv, hsr, hra, r1, r6, rn, hm.imp (fun ⟨a, k⟩ => ⟨a, fun H' S sy => ⟨rfl, k x H' nx S sy⟩⟩) id⟩
theorem sys_go {H1 : Hp} {x dx pl sv : Addr} {ps : Ps} {rr : List Addr} {rs : List Rw} {Q : VK} {E : XK} (nx : H1 x = none) (nd : H1 dx = none) (hpl : H1 pl = some (.lst (rfP ps))) (hpa : PolsAt K C H1 ps) (l8 : ps.length ≤ 8) (pn : (nmP ps).Nodup)
    (hsv : H1 sv = some (.lst (rr.map V.ref))) (hsr : SrvAt K H1 rr rs) (hra : RwsAt K H1 rs) (r1 : 1 ≤ rs.length) (r6 : rs.length ≤ 6) (rn : (nmR rs).Nodup) (hm : MadeSys K C CS CI CU CT H1 ps rs Q E) :
    spSys K C CS CI CU CT (.ref x :: ([.ref pl, .ref sv] ++ [])) (upd (upd H1 dx (.own x)) x (.ins CS dx [])) (fun v H2 => v = .non ∧ Q (.ref x) H2) E := sys_goS nx nd (.inl hpl) hpa l8 pn (.inl hsv) hsr hra r1 r6 rn hm
/-- what the making of systems wants -/
structure MkS (P : Program) (w : World) (K : PySem.W.Frag) (mg : Str → Option Value) (base : Heap) (C CS CI CU CT fS : Addr) (fdS : FuncData) : Prop where
  made : Mk K CS fS
  ok : FnOk P w K mg base (CX P w) 10 fS fdS psS (spSys K C CS CI CU CT)
  g : mg "System" = some (.ref CS)
  b : Binds K fdS psS []
  t : STx K CS
end
end K2

namespace K2
open PySem PySem.Spec PyProof.Rows L2 Mc Mx
/-! other systems of a system -/
section
variable {P : Program} {w : World} {K : PySem.W.Frag} {mg : Str → Option Value} {base : Heap} {C CS CI CU CT : Addr}
local macro_rules | `(tactic| walk_at "rd1") => `(tactic| first
  | with_reducible refine g_seq ?_
  | with_reducible refine g_asg ?_
  | with_reducible refine g_name ?_
  | with_reducible refine g_c ?_
  | with_reducible refine g_op ?_
  | with_reducible refine g_ifS ?_
  | with_reducible refine g_if ?_
  | with_reducible refine g_test ?_
  | with_reducible refine g_B ?_
  | with_reducible refine g_bl ?_
  | with_reducible refine g_blV ?_
  | with_reducible refine g_not ?_
  | with_reducible refine g_and ?_
  | with_reducible refine g_or ?_
  | with_reducible refine g_notV ?_
  | with_reducible refine g_andV ?_
  | with_reducible refine g_orV ?_
  | with_reducible refine g_ret ?_
  | with_reducible refine g_drop ?_
  | with_reducible refine g_next ?_
  | with_reducible refine g_retN ?_
  | with_reducible refine g_call ?_
  | with_reducible refine g_cb ?_
  | with_reducible refine g_cons ?_
  | with_reducible refine g_nil ?_
  | with_reducible refine g_tup ?_
  | with_reducible refine g_lst ?_
  | with_reducible refine g_prop ?_
  | with_reducible refine g_fld ?_
  | with_reducible refine g_meth ?_
  | with_reducible refine g_chain ?_
  | with_reducible refine g_yes ?_
  | with_reducible refine g_make ?_
  | with_reducible refine g_makeK ?_
  | with_reducible refine g_gsub ?_
  | with_reducible refine g_sfld ?_
  | with_reducible refine g_un ?_
  | with_reducible refine g_bm ?_
  | with_reducible refine g_iteT ?_
  | with_reducible refine g_iteF ?_
  | with_reducible refine g_I0 ?_
  | with_reducible refine g_add ?_
  | with_reducible refine g_sub ?_
  | ((with_reducible refine' g_var ?hv ?_); (case hv => rfl))
  | ((with_reducible refine g_eq ?hv ?_); (case hv => rfl))
  | ((with_reducible refine g_ne ?hv ?_); (case hv => rfl)))
local macro_rules | `(tactic| walk_at "rd") => `(tactic| repeat (walk_at "rd1"))

local macro_rules | `(tactic| walk_at "ty") => `(tactic| first | exact .non | exact .bl _ | exact .int _ | exact .str _ | exact .lst (by assumption) | exact .tup (by assumption) | exact .dK (by assumption) | exact .kTup (by assumption) (by assumption))
local macro_rules | `(tactic| walk_at "isiF") => `(tactic| refine g_isi (by walk_at "ty") (b := false) (by decide +kernel) ?_)
local macro_rules | `(tactic| walk_at "isiT") => `(tactic| refine g_isi (by walk_at "ty") (b := true) (by decide +kernel) ?_)

def setP (ps : Ps) (a : Addr) (q : Pol) : Ps := ps.map fun x => if x.2.z = q.z then (a, q) else x
def setR (rs : List Rw) (x : Rw) : List Rw := rs.map fun y => if y.z = x.z then x else y
theorem nm_setP {ps : Ps} {a : Addr} {q : Pol} : nmP (setP ps a q) = nmP ps := by
  show ((ps.map fun x => if x.2.z = q.z then (a, q) else x).map fun x => x.2.z) = ps.map fun x => x.2.z
  rw [List.map_map]
  refine List.map_congr_left fun x _ => ?_
  show (if x.2.z = q.z then (a, q) else x).2.z = x.2.z
  by_cases h : x.2.z = q.z
  · rw [if_pos h]; exact h.symm
  · rw [if_neg h]
theorem nm_setR {rs : List Rw} {x : Rw} : nmR (setR rs x) = nmR rs := by
  show ((rs.map fun y => if y.z = x.z then x else y).map fun y => y.z) = rs.map fun y => y.z
  rw [List.map_map]
  refine List.map_congr_left fun y _ => ?_
  show (if y.z = x.z then x else y).z = y.z
  by_cases h : y.z = x.z
  · rw [if_pos h]; exact h.symm
  · rw [if_neg h]
theorem pols_setP {H : Hp} {ps : Ps} {a : Addr} {q : Pol} (h : PolsAt K C H ps) (ha : PolAt K C H a q) (ok : q.ok) : PolsAt K C H (setP ps a q) := fun x hx => by
  obtain ⟨y, hy, rfl⟩ := List.mem_map.mp hx
  by_cases e : y.2.z = q.z
  · rw [if_pos e]; exact ⟨ha, ok⟩
  · rw [if_neg e]; exact h y hy
theorem rows_setR {H : Hp} {rs : List Rw} {x : Rw} (h : RwsAt K H rs) (hx : RwAt K H x) : RwsAt K H (setR rs x) := fun y hy => by
  obtain ⟨z, hz, rfl⟩ := List.mem_map.mp hy
  by_cases e : z.z = x.z
  · rw [if_pos e]; exact hx
  · rw [if_neg e]; exact h z hz
def spWithPolicy (K : PySem.W.Frag) (C CS CI CU CT : Addr) : Sp := fun vs H Q E => ∃ (s a : Addr) (ps : Ps) (rs : List Rw) (q : Pol), vs = [.ref s, .ref a] ∧ SysAt K C CS H s ps rs ∧ PolAt K C H a q ∧ q.ok ∧ hasP ps q.z = true ∧ MadeSys K C CS CI CU CT H (setP ps a q) rs Q E
theorem ok_with_policy {f fS : Addr} {fd fdS : FuncData} (F : Fun K "with_policy" "System.with_policy" s_System_with_policy f fd) (T : Txt K mg) (S : MkS P w K mg base C CS CI CU CT fS fdS) (pr_name : Prp P w K mg base 1 C "name" (getSp C "_name")) (TC : CTxt K C) (IC : ICls K C) (gP : mg "Policy" = some (.ref C))
    (m_rows : Mth P w K mg base 1 CS "_rows" (spRows K C CS)) : FnOk P w K mg base (CX P w) 12 f fd ["self", "policy"] (spWithPolicy K C CS CI CU CT) := by
  obtain ⟨MS, GS, gS, bS, TS⟩ := S
  refine F.okX sc_System_with_policy (fun vs H Q E h => ?_) (fun cdv A outer st H vs Q E hr h => ?_)
  · obtain ⟨s, a, ps, rs, q, rfl, _⟩ := h
    rfl
  · obtain ⟨s, a, ps, rs, q, rfl, sy, ⟨dxa, pp, ga, hpa, tu⟩, ok, hP, hm⟩ := h
    obtain ⟨dx, dp, db, ds, h1, h2, h3, h4⟩ := sy.at_
    have hrS := hr
    refine ⟨_, (pss_cons (ps_if (pt_not (pt_val (pe_callB call_isi (by rfl) T.n_isinstance (by decide +kernel) (pa_cons (pv 1) (pa_cons (pe_gx (v := .ref C) rfl ⟨_, gP, rfl⟩) pa_nil))))) (pss_one ps_never) pss_nil)
      (pss_cons (ps_if (pt_cmp (pc_dnotin (Nat.lt_of_le_of_lt (Nat.add_le_add_left (by decide : 1 ≤ 64) _) hr.units) (pe_pr pr_name hr (by decide) (pv 1)) (pe_fldK (K := K) rfl (pv 0) rfl)) (by rfl)) (pss_one ps_never) pss_nil)
      (pss_cons (ps_lock (ps_setLc (i := 2) (own := [("name", 3)]) (g := gName 3) (by rfl) sc_System_with_policy.nd rfl rfl (sw_true rfl rfl rfl (by decide +kernel)) (pi_keys (pe_fldK (K := K) rfl (pv 0) rfl)) (blkOk_by (own := [("name", 3)]) (N := N_System_with_policy) (sc := defScope s_System_with_policy) (by decide +kernel)) (fun _ _ _ _ _ => pg_name (i := 3) sc_System_with_policy.nd rfl (Or.inl rfl)) (fun _ _ _ _ _ => pts_nil) (fun _ _ _ _ _ => (pe_ifExp (pt_cmpR op_eq (pv 3) (pe_pr pr_name hr (by decide) (pv 1)) (nomark _)) (pv 1) (pe_dget (Nat.lt_of_le_of_lt (Nat.add_le_add_left (by decide : 1 ≤ 64) _) hr.units) (pe_fldK (K := K) rfl (pv 0) rfl) (pv 3) (fun _ _ => rfl))))))
      (pss_one (ps_ret (pe_makeS MS GS hrS (by rfl) gS bS (fun σ => passAt (takes_of rfl rfl rfl rfl) σ) (pa_cons (pv 2) (pa_cons (pe_m0 m_rows hr (by decide) (pv 0)) pa_nil)))))))), ?_⟩
    walk_at "rd"
    refine ⟨_, _, _, _, true, rfl, .own _, TyX.base (.ins hpa TC.cl IC.ha IC.hn IC.tk IC.hm), kit_same, ?_⟩
    walk_at "rd"
    show (if false = true then _ else _)
    walk_at "rd"
    refine g_dnotin ?_
    walk_at "rd"
    refine ⟨a, dxa, _, rfl, hpa, a, dxa, _, _, rfl, hpa, lk1, ?_⟩
    walk_at "rd"
    refine ⟨s, CS, dx, _, _, rfl, h1, TS.cl, TS.n1, slk1, ?_⟩
    refine ⟨dp, _, rfl, DGet.k (k := Sum.inr q.z) h2, ?_⟩
    rw [val_pol]
    have hsome : ((polOf ps q.z).map fun x => V.ref x.1).isSome = true := by
      unfold hasP at hP
      rw [Option.isSome_map]; exact hP
    rw [hsome]
    walk_at "rd"
    show (if false = true then _ else _)
    walk_at "rd"
    refine g_lockS h2 trivial fun od => ?_
    walk_at "rd"
    refine g_lc (g_ikeys ?_)
    walk_at "rd"
    have nsp : s ≠ dp := ne_obj h1 h2 (by intro z; cases z)
    have nap : a ≠ dp := ne_obj hpa h2 (by intro z; cases z)
    refine ⟨s, CS, dx, _, _, rfl, by rw [upd_ne nsp]; exact h1, TS.cl, TS.n1, slk1, ?_⟩
    refine ⟨dp, od, rfl, .inl ⟨_, upd_same, ?_⟩⟩
    refine lc_keys (fun D i H' => H' dp = some (.frz od (.dK (PDk ps))) ∧ Sd dp H H' ∧ H' D = some (.lst (rfP ((setP ps a q).take i)))) ?_ (fun D i H' _ e => e.1) ?_ ?_
    · intro D hD
      have Dn : D ≠ dp := fun e => by rw [e, upd_same] at hD; cases hD
      have D0 : H D = none := by rw [upd_ne Dn] at hD; exact hD
      exact ⟨by rw [upd_ne Dn.symm]; exact upd_same, sd_new D0 sd_upd, upd_same⟩
    · rintro D i k v H2 hD hk ⟨h2f, sd2, h2D⟩
      obtain ⟨x, hx, rfl, rfl⟩ := pd_at hk
      have Dn : D ≠ dp := fun e => by rw [e, upd_same] at hD; cases hD
      have D0 : H D = none := by rw [upd_ne Dn] at hD; exact hD
      have hi := (List.getElem?_eq_some_iff.mp hx).1
      have h8 := sy.pl
      have hx' : (setP ps a q)[i]? = some (if x.2.z = q.z then (a, q) else x) := by
        unfold setP
        rw [List.getElem?_map, hx]; rfl
      have fin : ∀ u : Addr × Pol, (setP ps a q)[i]? = some u → ∃ acc, H2 D = some (.lst acc) ∧ acc.length < sizeLine ∧ ((upd H2 D (.lst (acc ++ [V.ref u.1]))) dp = some (.frz od (.dK (PDk ps))) ∧ Sd dp H (upd H2 D (.lst (acc ++ [V.ref u.1]))) ∧ (upd H2 D (.lst (acc ++ [V.ref u.1]))) D = some (.lst (rfP ((setP ps a q).take (i + 1))))) := fun u hu => by
        refine ⟨_, h2D, small1000 (by rw [List.length_map, List.length_take]; omega), by rw [upd_ne Dn.symm]; exact h2f, sd_new D0 sd2, ?_⟩
        rw [upd_same]
        congr 2
        exact take_map (fun x : Addr × Pol => V.ref x.1) hu
      walk_at "rd"
      refine ⟨rfl, ?_⟩
      walk_at "rd"
      refine ⟨a, dxa, _, rfl, sd2 _ _ nap hpa, a, dxa, _, _, rfl, sd2 _ _ nap hpa, lk1, ?_⟩
      walk_at "rd"
      refine g_ite (fun e => ?_) (fun e => ?_)
      · rw [if_pos (str_eq e)] at hx'
        walk_at "rd"
        exact fin _ hx'
      · rw [if_neg (str_ne e)] at hx'
        refine g_dget ?_
        walk_at "rd"
        refine ⟨s, CS, dx, _, _, rfl, sd2 _ _ nsp h1, TS.cl, TS.n1, slk1, ?_⟩
        walk_at "rd"
        exact ⟨dp, _, rfl, .inl ⟨PDk ps, Sum.inr x.2.z, .inr ⟨od, h2f⟩, rfl, (get_pd sy.pn hx).symm⟩, fin _ hx'⟩
    · rintro D H2 hD ⟨h2f, sd2, h2D⟩
      have Dn : D ≠ dp := fun e => by rw [e, upd_same] at hD; cases hD
      have D0 : H D = none := by rw [upd_ne Dn] at hD; exact hD
      have lenP : (setP ps a q).length = ps.length := List.length_map ..
      rw [show (PDk ps).length = (setP ps a q).length by rw [lenP]; exact List.length_map .., List.take_length] at h2D
      refine ⟨h2f, ?_⟩
      have S3 := same_unlock h2 sd2
      have h3D : upd H2 dp (.dK (PDk ps)) D = some (.lst (rfP (setP ps a q))) := by rw [upd_ne Dn]; exact h2D
      generalize upd H2 dp (.dK (PDk ps)) = H3 at S3 h3D ⊢
      walk_at "rd"
      refine g_makeS ?_
      walk_at "rd"
      refine ⟨s, dx, _, rfl, S3 _ _ h1, rfl, ?_⟩
      walk_at "rd"
      refine ⟨s, ps, rs, rfl, sy.ext S3, fun r rr H4 r0 fr4 S4 hr4 sv4 => ?_⟩
      walk_at "rd"
      have S34 := Same.trans S3 S4
      intro x dx' nx nd ne
      exact sys_go nx nd (S4 _ _ h3D) (pols_setP (sy.pol.ext S34) (PolAt.ext S34 ⟨dxa, pp, ga, hpa, tu⟩) ok) (by rw [lenP]; exact sy.pl) (by rw [nm_setP]; exact sy.pn) hr4 sv4 (sy.rows.ext S34) sy.r1 sy.rl sy.rn (hm.ext S34)
def spWithBlock (K : PySem.W.Frag) (C CS CI CU CT : Addr) : Sp := fun vs H Q E => ∃ (s : Addr) (ps : Ps) (rs : List Rw) (x : Rw), vs = [.ref s, .str x.z, .ref x.c] ∧ SysAt K C CS H s ps rs ∧ (rowOf rs x.z).isSome = true ∧ RwAt K H x ∧ MadeSys K C CS CI CU CT H ps (setR rs x) Q E
theorem ok_with_block {f fS fc : Addr} {fd fdS fdc : FuncData} (F : Fun K "with_block" "System.with_block" s_System_with_block f fd) (T : Txt K mg) (S : MkS P w K mg base C CS CI CU CT fS fdS) (SC : SysC P w K mg base C CS fc fdc) : FnOk P w K mg base (CX P w) 12 f fd ["self", "name", "block"] (spWithBlock K C CS CI CU CT) := by
  obtain ⟨MS, GS, gS, bS, TS⟩ := S
  refine F.okX sc_System_with_block (fun vs H Q E h => ?_) (fun cdv A outer st H vs Q E hr h => ?_)
  · obtain ⟨s, ps, rs, x, rfl, _⟩ := h
    rfl
  · obtain ⟨s, ps, rs, x, rfl, sy, hR, hx0, hm⟩ := h
    obtain ⟨dx, dp, db, ds, h1, h2, h3, h4⟩ := sy.at_
    have hrS := hr
    refine ⟨_, (pss_cons (ps_if (pt_cmpR (op_notInO SC.ok SC.sp SC.b pass0 (hr.mono (by decide))) (pv 1) (pv 0) (by rfl)) (pss_one ps_never) pss_nil)
      (pss_cons (ps_lock (ps_setLc (i := 3) (own := [("other", 4)]) (g := gName 4) (by rfl) sc_System_with_block.nd rfl rfl (sw_true rfl rfl rfl (by decide +kernel)) (pi_keys (pe_fldK (K := K) rfl (pv 0) rfl)) (blkOk_by (own := [("other", 4)]) (N := N_System_with_block) (sc := defScope s_System_with_block) (by decide +kernel)) (fun _ _ _ _ _ => pg_name (i := 4) sc_System_with_block.nd rfl (Or.inl rfl)) (fun _ _ _ _ _ => pts_nil) (fun _ _ _ _ _ => (pe_tup (pa_cons (pv 4) (pa_cons (pe_ifExp (pt_cmpR op_eq (pv 4) (pv 1) (nomark _)) (pv 2) (pe_dget (Nat.lt_of_le_of_lt (Nat.add_le_add_left (by decide : 1 ≤ 64) _) hr.units) (pe_fldK (K := K) rfl (pv 0) rfl) (pv 4) (fun _ _ => rfl))) pa_nil))))))
      (pss_one (ps_ret (pe_makeS MS GS hrS (by rfl) gS bS (fun σ => passAt (takes_of rfl rfl rfl rfl) σ) (pa_cons (pe_listVals rfl (pe_fld (pv 0) rfl) (by rfl) T.n_list (by decide +kernel)) (pa_cons (pv 3) pa_nil))))))), ?_⟩
    walk_at "rd"
    refine ⟨s, dx, _, rfl, h1, s, ps, rs, .str x.z, _, rfl, sy, .str x.z, true, ?_, ?_⟩
    · show V.bl (rowOf rs x.z).isSome = _
      rw [hR]
    walk_at "rd"
    show (if false = true then _ else _)
    walk_at "rd"
    refine g_lockS h3 trivial fun od => ?_
    walk_at "rd"
    refine g_lc (g_ikeys ?_)
    walk_at "rd"
    have nsb : s ≠ db := ne_obj h1 h3 (by intro z; cases z)
    refine ⟨s, CS, dx, _, _, rfl, by rw [upd_ne nsb]; exact h1, TS.cl, TS.n2, slk2, ?_⟩
    refine ⟨db, od, rfl, .inl ⟨_, upd_same, ?_⟩⟩
    refine lc_keys (fun D i H' => ∃ rr : List Addr, H' db = some (.frz od (.dK (bk rs))) ∧ Sd db H H' ∧ H' D = some (.lst (rr.map V.ref)) ∧ SrvAt K H' rr ((setR rs x).take i)) ?_ (fun D i H' _ ⟨_, e, _⟩ => e) ?_ ?_
    · intro D hD
      have Dn : D ≠ db := fun e => by rw [e, upd_same] at hD; cases hD
      have D0 : H D = none := by rw [upd_ne Dn] at hD; exact hD
      exact ⟨[], by rw [upd_ne Dn.symm]; exact upd_same, sd_new D0 sd_upd, upd_same, rfl⟩
    · rintro D i k v H2 hD hk ⟨rr, h2f, sd2, h2D, sv2⟩
      obtain ⟨y, hy, rfl, rfl⟩ := bk_at hk
      have Dn : D ≠ db := fun e => by rw [e, upd_same] at hD; cases hD
      have D0 : H D = none := by rw [upd_ne Dn] at hD; exact hD
      have hi := (List.getElem?_eq_some_iff.mp hy).1
      have h6 := sy.rl
      have hy' : (setR rs x)[i]? = some (if y.z = x.z then x else y) := by
        unfold setR
        rw [List.getElem?_map, hy]; rfl
      have fin : ∀ u : Rw, u.z = y.z → (setR rs x)[i]? = some u → TupG (fun y2 H4 => ∃ acc, H4 D = some (.lst acc) ∧ acc.length < sizeLine ∧ ∃ rr : List Addr, (upd H4 D (.lst (acc ++ [y2]))) db = some (.frz od (.dK (bk rs))) ∧ Sd db H (upd H4 D (.lst (acc ++ [y2]))) ∧ (upd H4 D (.lst (acc ++ [y2]))) D = some (.lst (rr.map V.ref)) ∧
          SrvAt K (upd H4 D (.lst (acc ++ [y2]))) rr ((setR rs x).take (i + 1))) [.str y.z, .ref u.c] H2 := fun u eu hu => by
        refine tup_go ?hl fun t H3 t0 S3 ht => ?_
        case hl => exact Nat.le_of_ble_eq_true rfl
        have hlen := sv2.len
        rw [List.length_take] at hlen
        have tD : t ≠ D := fun e => by rw [e, h2D] at t0; cases t0
        have k3 : Kp H3 (upd H3 D (.lst (rr.map V.ref ++ [.ref t]))) := Kp.upd (S3 _ _ h2D)
        refine ⟨_, S3 _ _ h2D, small1000 (by rw [List.length_map]; omega), rr ++ [t], ?_, ?_, by rw [upd_same, List.map_append]; rfl, ?_⟩
        · rw [upd_ne Dn.symm]; exact S3 _ _ h2f
        · exact sd_new D0 (sd2.trans (Same.sd S3))
        · rw [← eu] at ht
          exact take_srv hu (SrvAt.kp ((Kp.of S3).trans k3) sv2) ⟨.tup (by rw [upd_ne tD]; exact ht), SqT.of (by rw [upd_ne tD]; exact ht)⟩
      walk_at "rd"
      refine ⟨rfl, ?_⟩
      walk_at "rd"
      refine g_ite (fun e => ?_) (fun e => ?_)
      · have ez : y.z = x.z := str_eq e
        rw [if_pos ez] at hy'
        walk_at "rd"
        exact fin _ ez.symm hy'
      · have ez : ¬ y.z = x.z := str_ne e
        rw [if_neg ez] at hy'
        refine g_dget ?_
        walk_at "rd"
        refine ⟨s, CS, dx, _, _, rfl, sd2 _ _ nsb h1, TS.cl, TS.n2, slk2, ?_⟩
        walk_at "rd"
        refine ⟨db, _, rfl, .inl ⟨bk rs, Sum.inr y.z, .inr ⟨od, h2f⟩, rfl, (get_bk sy.rn hy).symm⟩, ?_⟩
        walk_at "rd"
        exact fin _ rfl hy'
    · rintro D H2 hD ⟨rr, h2f, sd2, h2D, sv2⟩
      have Dn : D ≠ db := fun e => by rw [e, upd_same] at hD; cases hD
      have D0 : H D = none := by rw [upd_ne Dn] at hD; exact hD
      have lenR : (setR rs x).length = rs.length := List.length_map ..
      rw [show (bk rs).length = (setR rs x).length by rw [lenR]; exact List.length_map .., List.take_length] at sv2
      have sv3 := srv_unlock h2f sv2
      refine ⟨h2f, ?_⟩
      have S3 := same_unlock h3 sd2
      have h3D : upd H2 db (.dK (bk rs)) D = some (.lst (rr.map V.ref)) := by rw [upd_ne Dn]; exact h2D
      generalize upd H2 db (.dK (bk rs)) = H3 at S3 h3D sv3 ⊢
      walk_at "rd"
      refine g_makeS ?_
      walk_at "rd"
      refine g_lvals ?_
      walk_at "rd"
      refine ⟨s, CS, dx, _, _, rfl, S3 _ _ h1, TS.cl, TS.n1, slk1, ?_⟩
      refine ⟨dp, _, rfl, S3 _ _ h2, fun pl pl0 => ?_⟩
      walk_at "rd"
      have S4 := same_new (o := .lst ((PDk ps).map (·.2))) pl0
      have S34 := Same.trans S3 S4
      have h4p : upd H3 pl (.lst ((PDk ps).map (·.2))) pl = some (.lst (rfP ps)) := by
        rw [upd_same]
        unfold PDk
        rw [List.map_map]; rfl
      generalize upd H3 pl (.lst ((PDk ps).map (·.2))) = H4 at S4 S34 h4p ⊢
      intro x' dx' nx nd ne
      exact sys_go nx nd h4p (sy.pol.ext S34) sy.pl sy.pn (S4 _ _ h3D) (sv3.ext S4) ((rows_setR sy.rows hx0).ext S34) (by rw [lenR]; exact sy.r1) (by rw [lenR]; exact sy.rl) (by rw [nm_setR]; exact sy.rn) (hm.ext S34)
def spWithService (K : PySem.W.Frag) (C CS CI CU CT : Addr) : Sp := fun vs H Q E => ∃ (s : Addr) (ps : Ps) (rs : List Rw) (x : Rw), vs = [.ref s, .str x.z, .ref x.c] ∧ SysAt K C CS H s ps rs ∧ rs.length < 6 ∧ x.z ∉ nmR rs ∧ RwAt K H x ∧ MadeSys K C CS CI CU CT H ps (rs ++ [x]) Q E
theorem ok_with_service {f fS : Addr} {fd fdS : FuncData} (F : Fun K "with_service" "System.with_service" s_System_with_service f fd) (T : Txt K mg) (S : MkS P w K mg base C CS CI CU CT fS fdS) (m_rows : Mth P w K mg base 1 CS "_rows" (spRows K C CS)) :
    FnOk P w K mg base (CX P w) 12 f fd ["self", "name", "block"] (spWithService K C CS CI CU CT) := by
  obtain ⟨MS, GS, gS, bS, TS⟩ := S
  refine F.okX sc_System_with_service (fun vs H Q E h => ?_) (fun cdv A outer st H vs Q E hr h => ?_)
  · obtain ⟨s, ps, rs, x, rfl, _⟩ := h
    rfl
  · obtain ⟨s, ps, rs, x, rfl, sy, hl6, hxn, hx0, hm⟩ := h
    obtain ⟨dx, dp, db, ds, h1, h2, h3, h4⟩ := sy.at_
    have hrS := hr
    refine ⟨_, (pss_one (ps_ret (pe_makeS MS GS hrS (by rfl) gS bS (fun σ => passAt (takes_of rfl rfl rfl rfl) σ) (pa_cons (pe_listVals rfl (pe_fld (pv 0) rfl) (by rfl) T.n_list (by decide +kernel)) (pa_cons (pe_op op_cat (pe_m0 m_rows hr (by decide) (pv 0)) (pe_lst (pa_cons (pe_tup (pa_cons (pv 1) (pa_cons (pv 2) pa_nil))) pa_nil))) pa_nil))))), ?_⟩
    walk_at "rd"
    refine g_makeS ?_
    walk_at "rd"
    refine g_lvals ?_
    walk_at "rd"
    refine ⟨s, CS, dx, _, _, rfl, h1, TS.cl, TS.n1, slk1, ?_⟩
    refine ⟨dp, _, rfl, h2, fun pl pl0 => ?_⟩
    have S1 := same_new (o := .lst ((PDk ps).map (·.2))) pl0
    have h1p : upd H pl (.lst ((PDk ps).map (·.2))) pl = some (.lst (rfP ps)) := by
      rw [upd_same]
      unfold PDk
      rw [List.map_map]; rfl
    generalize upd H pl (.lst ((PDk ps).map (·.2))) = H1 at S1 h1p ⊢
    walk_at "rd"
    refine ⟨s, dx, _, rfl, S1 _ _ h1, rfl, ?_⟩
    walk_at "rd"
    refine ⟨s, ps, rs, rfl, sy.ext S1, fun r rr H2 r0 fr2 S2 hr2 sv2 => ?_⟩
    walk_at "rd"
    refine tup_go ?hl fun t H3 t0 S3 ht => ?_
    case hl => exact Nat.le_of_ble_eq_true rfl
    walk_at "rd"
    refine lst_go ?hl fun l2 H4 l20 S4 hl2 => ?_
    case hl => exact Nat.le_of_ble_eq_true rfl
    have len := sv2.len
    refine ⟨r, l2, _, _, rfl, rfl, S4 _ _ (S3 _ _ hr2), hl2, sz_le (by rw [List.length_map]; show _ + 1 ≤ 1000; omega), fun p hp => ?_⟩
    walk_at "rd"
    have S5 := same_new (o := .lst (rr.map V.ref ++ [.ref t])) hp
    have h5 : upd H4 p (.lst (rr.map V.ref ++ [.ref t])) p = some (.lst ((rr ++ [t]).map V.ref)) := by rw [upd_same, List.map_append]; rfl
    generalize upd H4 p (.lst (rr.map V.ref ++ [.ref t])) = H5 at S5 h5 ⊢
    have S25 := Same.trans S2 (Same.trans S3 (Same.trans S4 S5))
    have S05 := Same.trans S1 S25
    have S35 := Same.trans S3 (Same.trans S4 S5)
    have ht5 := S5 _ _ (S4 _ _ ht)
    intro x' dx' nx nd ne
    refine sys_go nx nd (S25 _ _ h1p) (sy.pol.ext S05) sy.pl sy.pn h5 ((sv2.ext S35).app (.one ⟨.tup ht5, SqT.of ht5⟩)) (fun y hy => ?_) (by rw [List.length_append]; show 1 ≤ _ + 1; omega) (by rw [List.length_append]; show _ + 1 ≤ 6; omega) ?_ (hm.ext S05)
    · rcases List.mem_append.mp hy with hy | hy
      · exact (sy.rows y hy).ext S05
      · rw [List.mem_singleton.mp hy]; exact hx0.ext S05
    · show ((rs ++ [x]).map fun y => y.z).Nodup
      rw [List.map_append]
      refine List.nodup_append.mpr ⟨sy.rn, List.nodup_cons.mpr ⟨List.not_mem_nil, List.nodup_nil⟩, fun a ha b hb e => ?_⟩
      rw [List.mem_singleton.mp hb] at e
      exact hxn (by rw [show x.z = a from e.symm]; exact ha)
end
end K2

namespace K2
open PySem PySem.Spec PyProof.Rows L2 Mc Mx
/-! what a system refuses: its policies -/
section
variable {P : Program} {w : World} {K : PySem.W.Frag} {mg : Str → Option Value} {base : Heap} {C CPo : Addr}
local macro_rules | `(tactic| walk_at "rd1") => `(tactic| first
  | with_reducible refine g_seq ?_
  | with_reducible refine g_asg ?_
  | with_reducible refine g_name ?_
  | with_reducible refine g_c ?_
  | with_reducible refine g_op ?_
  | with_reducible refine g_ifS ?_
  | with_reducible refine g_if ?_
  | with_reducible refine g_test ?_
  | with_reducible refine g_B ?_
  | with_reducible refine g_bl ?_
  | with_reducible refine g_blV ?_
  | with_reducible refine g_not ?_
  | with_reducible refine g_and ?_
  | with_reducible refine g_or ?_
  | with_reducible refine g_notV ?_
  | with_reducible refine g_andV ?_
  | with_reducible refine g_orV ?_
  | with_reducible refine g_ret ?_
  | with_reducible refine g_drop ?_
  | with_reducible refine g_next ?_
  | with_reducible refine g_retN ?_
  | with_reducible refine g_call ?_
  | with_reducible refine g_cb ?_
  | with_reducible refine g_cons ?_
  | with_reducible refine g_nil ?_
  | with_reducible refine g_tup ?_
  | with_reducible refine g_lst ?_
  | with_reducible refine g_prop ?_
  | with_reducible refine g_fld ?_
  | with_reducible refine g_meth ?_
  | with_reducible refine g_chain ?_
  | with_reducible refine g_yes ?_
  | with_reducible refine g_make ?_
  | with_reducible refine g_makeK ?_
  | with_reducible refine g_gsub ?_
  | with_reducible refine g_sfld ?_
  | with_reducible refine g_un ?_
  | with_reducible refine g_bm ?_
  | with_reducible refine g_iteT ?_
  | with_reducible refine g_iteF ?_
  | with_reducible refine g_I0 ?_
  | with_reducible refine g_add ?_
  | with_reducible refine g_sub ?_
  | ((with_reducible refine' g_var ?hv ?_); (case hv => rfl))
  | ((with_reducible refine g_eq ?hv ?_); (case hv => rfl))
  | ((with_reducible refine g_ne ?hv ?_); (case hv => rfl)))
local macro_rules | `(tactic| walk_at "rd") => `(tactic| repeat (walk_at "rd1"))

local macro_rules | `(tactic| walk_at "ty") => `(tactic| first | exact .non | exact .bl _ | exact .int _ | exact .str _ | exact .lst (by assumption) | exact .tup (by assumption) | exact .dK (by assumption) | exact .kTup (by assumption) (by assumption))
local macro_rules | `(tactic| walk_at "isiF") => `(tactic| refine g_isi (by walk_at "ty") (b := false) (by decide +kernel) ?_)
local macro_rules | `(tactic| walk_at "isiT") => `(tactic| refine g_isi (by walk_at "ty") (b := true) (by decide +kernel) ?_)

theorem ok_InvalidPolicies {C f cda cc : Addr} {fd : FuncData} (D : SupD P K "__init__" "InvalidPolicies.__init__" (defArgs s_InvalidPoliciesinit) (defBody s_InvalidPoliciesinit) (defScope s_InvalidPoliciesinit) C f fd cda cc) (T : SupC P K mg C) (nf : PySem.W.findIn K (.ref C) "number" = some none) :
    FnOk P w K mg base CX0 1 f fd ["self", "number"] (spEx C "number") := by
  refine fn_sup D T sc_InvalidPoliciesinit rfl rfl (by decide +kernel) (by decide +kernel) (fun vs H Q E h => ?_) (fun L => ⟨_, rfl⟩) (fun A outer s H vs Q E h => ?_)
  · obtain ⟨a, v, rfl, _⟩ := h
    rfl
  · obtain ⟨a, v, rfl, ha, q⟩ := h
    refine ⟨a, rfl, ha, _, pss_one (ps_ost (pv 0) (pv 1)), ?_⟩
    refine g_ost ?_
    walk_at "rd"
    exact ⟨a, C, rfl, T.ox, nf, .inl ⟨ha, q⟩⟩
theorem ok_InvalidServices {C f cda cc : Addr} {fd : FuncData} (D : SupD P K "__init__" "InvalidServices.__init__" (defArgs s_InvalidServicesinit) (defBody s_InvalidServicesinit) (defScope s_InvalidServicesinit) C f fd cda cc) (T : SupC P K mg C) (nf : PySem.W.findIn K (.ref C) "number" = some none) :
    FnOk P w K mg base CX0 1 f fd ["self", "number"] (spEx C "number") := by
  refine fn_sup D T sc_InvalidServicesinit rfl rfl (by decide +kernel) (by decide +kernel) (fun vs H Q E h => ?_) (fun L => ⟨_, rfl⟩) (fun A outer s H vs Q E h => ?_)
  · obtain ⟨a, v, rfl, _⟩ := h
    rfl
  · obtain ⟨a, v, rfl, ha, q⟩ := h
    refine ⟨a, rfl, ha, _, pss_one (ps_ost (pv 0) (pv 1)), ?_⟩
    refine g_ost ?_
    walk_at "rd"
    exact ⟨a, C, rfl, T.ox, nf, .inl ⟨ha, q⟩⟩
/-- what a raise leaves -/
def ErV (CE : Addr) (fld : Str) (H : Hp) (E : XK) (v : V) : Prop := ∀ d H', Same H H' → H' d = some (.xd [(fld, v)]) → E (.ref CE) (some d) H'
theorem ErV.ext {CE : Addr} {fld : Str} {H H1 : Hp} {E : XK} {v : V} (S : Same H H1) (h : ErV CE fld H E v) : ErV CE fld H1 E v := fun d H' S' hd => h d H' (Same.trans S S') hd
theorem erv_as {CE : Addr} {fld : Str} {H H1 : Hp} {W : XK} {v : V} (S : Same H H1) (h : ErV CE fld H W v) : ExAs CE fld W [v] H1 := ex_as fun d H' S' hd => h d H' (Same.trans S S') hd
/-- no kind of plain value is one of this class -/
def Off (K : PySem.W.Frag) (C : Addr) : Prop := ∀ n ∈ ["NoneType", "bool", "int", "str", "list", "tuple", "dict"], PySem.W.kitOne K (.type n) (.ref C) = some false
def BadPol (K : PySem.W.Frag) (C : Addr) (H : Hp) (ps : Ps) (y : V) : Prop := (∃ m, Mc.TyB K H y m) ∨ ∃ x : Addr × Pol, y = .ref x.1 ∧ PolAt K C H x.1 x.2 ∧ x.2.z ∈ nmP ps
/-- policies that a system does not take, and what is told of them -/
def BadPols (K : PySem.W.Frag) (C : Addr) (H : Hp) (v n : V) : Prop :=
  (n = .non ∧ ((∃ m, Mc.TyB K H v m ∧ m ≠ "list" ∧ m ≠ "tuple") ∨ ∃ a xs, v = .ref a ∧ SeqV K H a xs ∧ 8 < xs.length)) ∨
  ∃ (a : Addr) (xs : List V) (ps : Ps) (y : V), v = .ref a ∧ SeqV K H a xs ∧ xs.length ≤ 8 ∧ xs[ps.length]? = some y ∧ xs.take ps.length = rfP ps ∧ PolsAt K C H ps ∧ (nmP ps).Nodup ∧ BadPol K C H ps y ∧ n = .int (ps.length : Nat)
theorem kit_other {H : Hp} {v : V} {m : String} (h : Mc.TyB K H v m) (h1 : m ≠ "list") (h2 : m ≠ "tuple") : PySem.W.kitAny K (.type m) [.type "list", .type "tuple"] = some false := by
  have go : ∀ n : String, kitB n "list" = some false → kitB n "tuple" = some false → PySem.W.kitAny K (.type n) [.type "list", .type "tuple"] = some false := fun n a b => by
    have h1 : PySem.W.kitOne K (.type n) (.type "list") = some false := kit_ty a
    have h2 : PySem.W.kitOne K (.type n) (.type "tuple") = some false := kit_ty b
    simp only [PySem.W.kitAny, h1, h2]
  have := Mc.TyB.mem h
  simp only [List.mem_cons, List.not_mem_nil, or_false] at this
  rcases this with rfl | rfl | rfl | rfl | rfl | rfl | rfl
  · exact go _ (by decide +kernel) (by decide +kernel)
  · exact go _ (by decide +kernel) (by decide +kernel)
  · exact go _ (by decide +kernel) (by decide +kernel)
  · exact go _ (by decide +kernel) (by decide +kernel)
  · exact absurd rfl h1
  · exact absurd rfl h2
  · exact go _ (by decide +kernel) (by decide +kernel)
def spChkPolE (K : PySem.W.Frag) (C CPo : Addr) : Sp := fun vs H _ E => ∃ v n, vs = [v] ∧ BadPols K C H v n ∧ ErV CPo "number" H E n
theorem ok_chk_polE {fPo : Addr} {fdPo : FuncData} (T : Txt K mg) (D : Def K mg "_check_policies" s_check_policies ["policies"]) (pr_name : Prp P w K mg base 1 C "name" (getSp C "_name")) (TC : CTxt K C) (IC : ICls K C) (gP : mg "Policy" = some (.ref C)) (OF : Off K C)
    (TPo : SupC P K mg CPo) (EPo : ExK P w K mg base "InvalidPolicies" CPo fPo fdPo ["self", "number"] (spEx CPo "number")) : CalX P w K mg base 3 "_check_policies" (spChkPolE K C CPo) := by
  refine calX_of D sc_check_policies (fun vs H Q E h => ?_) (fun f cdv A outer s H vs Q E hr h => ?_)
  · obtain ⟨v, n, rfl, _⟩ := h
    rfl
  · obtain ⟨v, n, rfl, hb, er⟩ := h
    refine ⟨_, (pss_cons (ps_if (PW.pt (pw_or (pt_not (pt_val (pe_callB call_isiT (by rfl) T.n_isinstance (by decide +kernel) (pa_cons (pv 0) (pa_cons (pe_tup (pa_cons (pe_ty "list" (by rfl) T.n_list (by decide +kernel)) (pa_cons (pe_ty "tuple" (by rfl) T.n_tuple (by decide +kernel)) pa_nil))) pa_nil))))) (pw_or1 (pt_cmpR op_gt (pe_callB call_len_seq (by rfl) T.n_len (by decide +kernel) (pa_cons (pv 0) pa_nil)) (pe_gx rfl T.g_MOST_POLICIES) (nomark _))))) (pss_one (ps_raise rfl (takes_of rfl rfl rfl rfl) (pmk_oex TPo.ox EPo.iC EPo.tI EPo.ok (hr.mono (by decide)) EPo.bi .nil pass0 (by rfl) EPo.gl (pa_cons pe_non pa_nil)))) pss_nil)
      (pss_cons (ps_set (i := 1) sc_check_policies.nd rfl (Or.inl rfl) (pe_lst pa_nil))
      (pss_one (ps_for (passes_of rfl) rfl (Mn.pi_enumS (by rfl) T.n_enumerate (pa_cons (pv 0) pa_nil)) (pg_tup rfl (pgs_cons (pg_name (i := 2) sc_check_policies.nd rfl (Or.inl rfl)) (pgs_cons (pg_name (i := 3) sc_check_policies.nd rfl (Or.inl rfl)) pgs_nil))) (pss_cons (ps_if (PW.pt (pw_or (pt_not (pt_val (pe_callB call_isi (by rfl) T.n_isinstance (by decide +kernel) (pa_cons (pv 3) (pa_cons (pe_gx (v := .ref C) rfl ⟨_, gP, rfl⟩) pa_nil))))) (pw_or1 (pt_cmpR op_in_seq (pe_pr pr_name hr (by decide) (pv 3)) (pv 1) (by rfl))))) (pss_one (ps_raise rfl (takes_of rfl rfl rfl rfl) (pmk_oex TPo.ox EPo.iC EPo.tI EPo.ok (hr.mono (by decide)) EPo.bi .nil pass0 (by rfl) EPo.gl (pa_cons (pv 2) pa_nil)))) pss_nil)
      (pss_one (ps_expr (pe_bm PySem.F.plainAttrs_list PySem.F.slot_list_append PySem.F.type_list_append mt_append (pv 1) (pa_cons (pe_pr pr_name hr (by decide) (pv 3)) pa_nil))))))))), ?_⟩
    walk_at "rd"
    refine tupG_same (by decide) fun tp H1 _ S1 htp => ?_
    walk_at "rd"
    rcases hb with ⟨rfl, ⟨m, ty, m1, m2⟩ | ⟨a, xs, rfl, ha, hl⟩⟩ | ⟨a, xs, ps, y, rfl, ha, hl, hy, ht, pa, hnd, bad, rfl⟩
    · refine ⟨v, tp, _, _, _, false, rfl, htp, .cons (.ty _) (.cons (.ty _) .nil), (K2.TyB.ext S1 ty).x, kit_other ty m1 m2, ?_⟩
      walk_at "rd"
      show (if true = true then _ else _)
      walk_at "rd"
      refine g_mko ?_
      walk_at "rd"
      exact erv_as S1 er
    · obtain ⟨ta, tya, kta⟩ := (SeqV.ext S1 ha).ty
      refine ⟨.ref a, tp, _, _, _, true, rfl, htp, .cons (.ty _) (.cons (.ty _) .nil), tya, kta, ?_⟩
      walk_at "rd"
      show (if false = true then _ else _)
      walk_at "rd"
      refine ⟨a, _, rfl, (SeqV.ext S1 ha).sq, ?_⟩
      walk_at "rd"
      refine g_andC (decide_eq_true (by omega)) ?_
      walk_at "rd"
      refine g_mko ?_
      walk_at "rd"
      exact erv_as S1 er
    · obtain ⟨ta, tya, kta⟩ := (SeqV.ext S1 ha).ty
      refine ⟨.ref a, tp, _, _, _, true, rfl, htp, .cons (.ty _) (.cons (.ty _) .nil), tya, kta, ?_⟩
      walk_at "rd"
      show (if false = true then _ else _)
      walk_at "rd"
      refine ⟨a, _, rfl, (SeqV.ext S1 ha).sq, ?_⟩
      walk_at "rd"
      refine g_andC0 (decide_eq_false (by omega)) ?_
      walk_at "rd"
      refine ⟨(by show 0 ≤ sizeLine; decide), fun L hL => ?_⟩
      walk_at "rd"
      have S2 := Same.trans S1 (same_new (o := .lst []) hL)
      have hL2 : upd H1 L (.lst []) L = some (.lst []) := upd_same
      have hL0 : H L = none := none_of S1 hL
      generalize upd H1 L (.lst []) = H2 at S2 hL2 ⊢
      dsimp only
      obtain ⟨b, sb⟩ := SeqV.b ha
      have hyl := (List.getElem?_eq_some_iff.mp hy).1
      refine g_for (g_ienumS ?_)
      walk_at "rd"
      refine ⟨a, b, _, rfl, sb _ S2, ?_⟩
      refine Mn.for_enumB (fun i σ H' => i ≤ ps.length ∧ ∃ o2 o3 : Option V, σ = [some (.ref a), some (.ref L), o2, o3] ∧ Same H H' ∧ H' L = some (.lst (((nmP ps).take i).map V.str))) ⟨Nat.zero_le _, _, _, rfl, S2, by rw [hL2]; rfl⟩ (fun i σ H' _ ⟨_, _, _, _, e, _⟩ => sb _ e) ?_ ?_
      · rintro i x σ H3 U hx ⟨hil, o2, o3, rfl, S3, h3⟩ hU
        have hUL : U ≠ L := fun z => by rw [z, h3] at hU; cases hU
        refine g_tup2' rfl (SqT.of upd_same) ?_
        have S4 := Same.trans S3 (same_new (o := .tup [.int (i : Nat), x]) hU)
        have h4 : upd H3 U (.tup [.int (i : Nat), x]) L = some (.lst (((nmP ps).take i).map V.str)) := by rw [upd_ne hUL.symm]; exact h3
        generalize upd H3 U (.tup [.int (i : Nat), x]) = H4 at S4 h4 ⊢
        rcases Nat.lt_or_ge i ps.length with lt | ge
        · have hx' : (rfP ps)[i]? = some x := by rw [← ht, List.getElem?_take, if_pos lt]; exact hx
          rw [List.getElem?_map] at hx'
          obtain ⟨y, hy, rfl⟩ := Option.map_eq_some_iff.mp hx'
          have hn : (nmP ps)[i]? = some y.2.z := by rw [List.getElem?_map, hy]; rfl
          obtain ⟨dx, pp, ga, hpp, _⟩ := (pa y (List.mem_of_getElem? hy)).1.ext S4
          walk_at "rd"
          refine ⟨_, _, _, _, true, rfl, .own _, TyX.base (.ins hpp TC.cl IC.ha IC.hn IC.tk IC.hm), kit_same, ?_⟩
          walk_at "rd"
          show (if false = true then _ else _)
          walk_at "rd"
          refine ⟨y.1, dx, _, rfl, hpp, y.1, dx, _, _, rfl, hpp, lk1, ?_⟩
          walk_at "rd"
          refine ⟨L, _, rfl, .inl (SqL.of h4), rfl, flat_strs _, ?_⟩
          walk_at "rd"
          refine g_andC0 (by
            show inV (.str y.2.z) _ = false
            rw [inV_str]
            exact decide_eq_false (nodup_take hnd hn)) ?_
          walk_at "rd"
          refine ⟨.inl ⟨rfl, _, SqL.of h4⟩, ?_⟩
          walk_at "rd"
          refine ⟨y.1, dx, _, rfl, hpp, y.1, dx, _, _, rfl, hpp, lk1, ?_⟩
          walk_at "rd"
          refine ⟨L, _, _, rfl, rfl, h4, small1000 (by rw [List.length_map, List.length_take]; omega), ?_⟩
          refine ⟨lt, _, _, rfl, same_upd hL0 S4, ?_⟩
          rw [upd_same, ← take_map V.str hn]
        · obtain rfl : i = ps.length := by omega
          rw [hy] at hx
          cases hx
          rw [show (nmP ps).take ps.length = nmP ps from by rw [← List.length_map (f := fun x : Addr × Pol => x.2.z)]; exact List.take_length] at h4
          rcases bad with ⟨m, ty⟩ | ⟨x, rfl, px, hm⟩
          · walk_at "rd"
            refine ⟨y, _, _, _, false, rfl, .own _, (K2.TyB.ext S4 ty).x, OF m (Mc.TyB.mem ty), ?_⟩
            walk_at "rd"
            show (if true = true then _ else _)
            walk_at "rd"
            refine g_mko ?_
            walk_at "rd"
            exact erv_as S4 er
          · obtain ⟨dx, pp, ga, hpp, _⟩ := px.ext S4
            walk_at "rd"
            refine ⟨_, _, _, _, true, rfl, .own _, TyX.base (.ins hpp TC.cl IC.ha IC.hn IC.tk IC.hm), kit_same, ?_⟩
            walk_at "rd"
            show (if false = true then _ else _)
            walk_at "rd"
            refine ⟨x.1, dx, _, rfl, hpp, x.1, dx, _, _, rfl, hpp, lk1, ?_⟩
            walk_at "rd"
            refine ⟨L, _, rfl, .inl (SqL.of h4), rfl, flat_strs _, ?_⟩
            walk_at "rd"
            refine g_andC (by
              show inV (.str x.2.z) _ = true
              rw [inV_str]
              exact decide_eq_true hm) ?_
            walk_at "rd"
            refine g_mko ?_
            walk_at "rd"
            exact erv_as S4 er
      · rintro σ H3 ⟨hil, _⟩
        omega
end
end K2

namespace K2
open PySem PySem.Spec PyProof.Rows L2 Mc Mx
/-! what a system refuses: its services -/
section
variable {P : Program} {w : World} {K : PySem.W.Frag} {mg : Str → Option Value} {base : Heap} {C CPo CSv : Addr}
local macro_rules | `(tactic| walk_at "rd1") => `(tactic| first
  | with_reducible refine g_seq ?_
  | with_reducible refine g_asg ?_
  | with_reducible refine g_name ?_
  | with_reducible refine g_c ?_
  | with_reducible refine g_op ?_
  | with_reducible refine g_ifS ?_
  | with_reducible refine g_if ?_
  | with_reducible refine g_test ?_
  | with_reducible refine g_B ?_
  | with_reducible refine g_bl ?_
  | with_reducible refine g_blV ?_
  | with_reducible refine g_not ?_
  | with_reducible refine g_and ?_
  | with_reducible refine g_or ?_
  | with_reducible refine g_notV ?_
  | with_reducible refine g_andV ?_
  | with_reducible refine g_orV ?_
  | with_reducible refine g_ret ?_
  | with_reducible refine g_drop ?_
  | with_reducible refine g_next ?_
  | with_reducible refine g_retN ?_
  | with_reducible refine g_call ?_
  | with_reducible refine g_cb ?_
  | with_reducible refine g_cons ?_
  | with_reducible refine g_nil ?_
  | with_reducible refine g_tup ?_
  | with_reducible refine g_lst ?_
  | with_reducible refine g_prop ?_
  | with_reducible refine g_fld ?_
  | with_reducible refine g_meth ?_
  | with_reducible refine g_chain ?_
  | with_reducible refine g_yes ?_
  | with_reducible refine g_make ?_
  | with_reducible refine g_makeK ?_
  | with_reducible refine g_gsub ?_
  | with_reducible refine g_sfld ?_
  | with_reducible refine g_un ?_
  | with_reducible refine g_bm ?_
  | with_reducible refine g_iteT ?_
  | with_reducible refine g_iteF ?_
  | with_reducible refine g_I0 ?_
  | with_reducible refine g_add ?_
  | with_reducible refine g_sub ?_
  | ((with_reducible refine' g_var ?hv ?_); (case hv => rfl))
  | ((with_reducible refine g_eq ?hv ?_); (case hv => rfl))
  | ((with_reducible refine g_ne ?hv ?_); (case hv => rfl)))
local macro_rules | `(tactic| walk_at "rd") => `(tactic| repeat (walk_at "rd1"))

local macro_rules | `(tactic| walk_at "ty") => `(tactic| first | exact .non | exact .bl _ | exact .int _ | exact .str _ | exact .lst (by assumption) | exact .tup (by assumption) | exact .dK (by assumption) | exact .kTup (by assumption) (by assumption))
local macro_rules | `(tactic| walk_at "isiF") => `(tactic| refine g_isi (by walk_at "ty") (b := false) (by decide +kernel) ?_)
local macro_rules | `(tactic| walk_at "isiT") => `(tactic| refine g_isi (by walk_at "ty") (b := true) (by decide +kernel) ?_)

/-- no service at all -/
def BadRow (K : PySem.W.Frag) (H : Hp) (v : V) : Prop := (∃ m, Mc.TyB K H v m ∧ m ≠ "tuple") ∨ ∃ (a : Addr) (xs : List V), v = .ref a ∧ TupV K H a xs ∧ (xs.length ≠ 2 ∨ ∃ x y n m, xs = [x, y] ∧ Mc.TyB K H x n ∧ Mc.TyB K H y m ∧ (∀ z, x = .str z → z.length ≤ 1000) ∧ (nmV x = false ∨ m ≠ "tuple"))
theorem BadRow.ext {H H' : Hp} {v : V} (S : Same H H') (h : BadRow K H v) : BadRow K H' v := by
  rcases h with ⟨m, ty, e⟩ | ⟨a, xs, e, t, h⟩
  · exact .inl ⟨m, K2.TyB.ext S ty, e⟩
  · refine .inr ⟨a, xs, e, t.ext S, h.imp id ?_⟩
    rintro ⟨x, y, n, m, h1, h2, h3, h4⟩
    exact ⟨x, y, n, m, h1, K2.TyB.ext S h2, K2.TyB.ext S h3, h4⟩
theorem kb_tup {n : String} (h : n ∈ ["NoneType", "bool", "int", "str", "list", "tuple", "dict"]) (e : n ≠ "tuple") : kitB n "tuple" = some false := by
  rw [kb_tuple h]
  exact congrArg some (by simpa using e)
def spServ (K : PySem.W.Frag) : Sp := fun vs H Q E => spIsServ K vs H Q E ∨ ∃ v, vs = [v] ∧ BadRow K H v ∧ ∀ H', Same H H' → Q (.bl false) H'
theorem ok_serv (T : Txt K mg) (D : Def K mg "_is_service" s_is_service ["row"]) (c_is_name : Cal P w K mg base 1 "is_name" (spName K)) : Cal P w K mg base 2 "_is_service" (spServ K) := by
  refine cal_of D sc_is_service (fun vs H Q E h => ?_) (fun f cdv A outer s H vs Q E hr h => ?_)
  · rcases h with ⟨r, c, z, rfl, _⟩ | ⟨v, rfl, _⟩ <;> rfl
  · refine ⟨_, (pss_one (ps_ret (pe_and (pe_callB call_isi (by rfl) T.n_isinstance (by decide +kernel) (pa_cons (pv 0) (pa_cons (pe_ty "tuple" (by rfl) T.n_tuple (by decide +kernel)) pa_nil))) (pe_and (pe_cmpR op_eq (pe_callB call_len_seq (by rfl) T.n_len (by decide +kernel) (pa_cons (pv 0) pa_nil)) pe_int (nomark _)) (pe_and (pe_f c_is_name hr (by decide) (by rfl) (pa_cons (pe_ix ix_tup (pv 0) pe_int (fun _ _ => rfl)) pa_nil)) (pe_one (pe_callB call_isi (by rfl) T.n_isinstance (by decide +kernel) (pa_cons (pe_ix ix_tup (pv 0) pe_int (fun _ _ => rfl)) (pa_cons (pe_ty "tuple" (by rfl) T.n_tuple (by decide +kernel)) pa_nil))))))))), ?_⟩
    rcases h with ⟨r, c, z, rfl, tr, tc, hz, hl, q⟩ | ⟨v, rfl, hb, q⟩
    · walk_at "rd"
      refine g_isi tr.ty (b := true) (by decide +kernel) ?_
      walk_at "rd"
      refine ⟨r, _, rfl, .inr tr.sq, ?_⟩
      walk_at "rd"
      refine g_andC (len_yes (by simp)) ?_
      walk_at "rd"
      refine g_ixT tr.sq (v := .str z) (atI_nat (j := 0) rfl) ?_
      walk_at "rd"
      refine ⟨.str z, "str", rfl, .str _, (fun y hy => by cases hy; exact hl), fun H1 S1 => ?_⟩
      rw [show nmV (.str z) = true from hz]
      walk_at "rd"
      refine g_ixT (TupV.ext S1 tr).sq (v := .ref c) (atI_nat (j := 1) rfl) ?_
      walk_at "rd"
      refine g_isi (K2.TyB.ext S1 tc) (b := true) (by decide +kernel) ?_
      exact q _ S1
    · rcases hb with ⟨m, ty, hm⟩ | ⟨a, xs, rfl, tv, hx⟩
      · walk_at "rd"
        refine g_isi ty (kb_tup (Mc.TyB.mem ty) hm) ?_
        walk_at "rd"
        exact q _ (Same.refl _)
      · walk_at "rd"
        refine g_isi tv.ty (b := true) (by decide +kernel) ?_
        walk_at "rd"
        refine ⟨a, _, rfl, .inr tv.sq, ?_⟩
        walk_at "rd"
        by_cases h2 : xs.length = 2
        · rcases hx with h | ⟨x, y, n, m, rfl, tx, ty, hl, hh⟩
          · exact absurd h2 h
          refine g_andC (len_yes (by simp)) ?_
          walk_at "rd"
          refine g_ixT tv.sq (v := x) (atI_nat (j := 0) rfl) ?_
          walk_at "rd"
          refine ⟨x, n, rfl, tx, hl, fun H1 S1 => ?_⟩
          cases hn : nmV x with
          | false =>
            walk_at "rd"
            exact q _ S1
          | true =>
            rcases hh with h | hm
            · rw [hn] at h; cases h
            walk_at "rd"
            refine g_ixT (tv.ext S1).sq (v := y) (atI_nat (j := 1) rfl) ?_
            walk_at "rd"
            refine g_isi (K2.TyB.ext S1 ty) (kb_tup (Mc.TyB.mem ty) hm) ?_
            exact q _ S1
        · refine g_andC0 (len_no (by omega)) ?_
          exact q _ (Same.refl _)
def BadServ (K : PySem.W.Frag) (H : Hp) (rs : List Rw) (y : V) : Prop := BadRow K H y ∨ ∃ (a c : Addr) (z : Str), y = .ref a ∧ TupV K H a [.str z, .ref c] ∧ Mc.TyB K H (.ref c) "tuple" ∧ isNm z = true ∧ z ∈ nmR rs
/-- services that a system does not take, and what is told of them -/
def BadServs (K : PySem.W.Frag) (H : Hp) (v n : V) : Prop :=
  (n = .non ∧ ((∃ m, Mc.TyB K H v m ∧ m ≠ "list" ∧ m ≠ "tuple") ∨ ∃ a xs, v = .ref a ∧ SeqV K H a xs ∧ (xs.length = 0 ∨ 6 < xs.length))) ∨
  ∃ (a : Addr) (xs : List V) (rr : List Addr) (rs : List Rw) (y : V), v = .ref a ∧ SeqV K H a xs ∧ xs.length ≤ 6 ∧ xs[rs.length]? = some y ∧ xs.take rs.length = rr.map V.ref ∧ SrvAt K H rr rs ∧ RwsAt K H rs ∧ (nmR rs).Nodup ∧ BadServ K H rs y ∧ n = .int (rs.length : Nat)
theorem BadServs.ext {H H' : Hp} {v n : V} (S : Same H H') (h : BadServs K H v n) : BadServs K H' v n := by
  rcases h with ⟨rfl, ⟨m, ty, m1, m2⟩ | ⟨a, xs, rfl, ha, hl⟩⟩ | ⟨a, xs, rr, rs, y, rfl, ha, hl, hy, ht, sr, ra, hnd, bad, rfl⟩
  · exact .inl ⟨rfl, .inl ⟨m, K2.TyB.ext S ty, m1, m2⟩⟩
  · exact .inl ⟨rfl, .inr ⟨a, xs, rfl, SeqV.ext S ha, hl⟩⟩
  · refine .inr ⟨a, xs, rr, rs, y, rfl, SeqV.ext S ha, hl, hy, ht, sr.ext S, ra.ext S, hnd, ?_, rfl⟩
    rcases bad with b | ⟨a, c, z, e, t, tc, h⟩
    · exact .inl (b.ext S)
    · exact .inr ⟨a, c, z, e, t.ext S, K2.TyB.ext S tc, h⟩
def spChkServE (K : PySem.W.Frag) (CSv : Addr) : Sp := fun vs H _ E => ∃ v n, vs = [v] ∧ BadServs K H v n ∧ ErV CSv "number" H E n
theorem ok_chk_servE {fSv : Addr} {fdSv : FuncData} (T : Txt K mg) (D : Def K mg "_check_services" s_check_services ["services"]) (c_is_service : Cal P w K mg base 2 "_is_service" (spServ K))
    (TSv : SupC P K mg CSv) (ESv : ExK P w K mg base "InvalidServices" CSv fSv fdSv ["self", "number"] (spEx CSv "number")) : CalX P w K mg base 3 "_check_services" (spChkServE K CSv) := by
  refine calX_of D sc_check_services (fun vs H Q E h => ?_) (fun f cdv A outer s H vs Q E hr h => ?_)
  · obtain ⟨v, n, rfl, _⟩ := h
    rfl
  · obtain ⟨v, n, rfl, hb, er⟩ := h
    refine ⟨_, (pss_cons (ps_if (PW.pt (pw_or (pt_not (pt_val (pe_callB call_isiT (by rfl) T.n_isinstance (by decide +kernel) (pa_cons (pv 0) (pa_cons (pe_tup (pa_cons (pe_ty "list" (by rfl) T.n_list (by decide +kernel)) (pa_cons (pe_ty "tuple" (by rfl) T.n_tuple (by decide +kernel)) pa_nil))) pa_nil))))) (pw_or1 (pt_not (pt_chain op_le op_le pe_int (pe_callB call_len_seq (by rfl) T.n_len (by decide +kernel) (pa_cons (pv 0) pa_nil)) (pe_gx rfl T.g_MOST_SERVICES)))))) (pss_one (ps_raise rfl (takes_of rfl rfl rfl rfl) (pmk_oex TSv.ox ESv.iC ESv.tI ESv.ok (hr.mono (by decide)) ESv.bi .nil pass0 (by rfl) ESv.gl (pa_cons pe_non pa_nil)))) pss_nil)
      (pss_cons (ps_set (i := 1) sc_check_services.nd rfl (Or.inl rfl) (pe_lst pa_nil))
      (pss_one (ps_for (passes_of rfl) rfl (Mn.pi_enumS (by rfl) T.n_enumerate (pa_cons (pv 0) pa_nil)) (pg_tup rfl (pgs_cons (pg_name (i := 2) sc_check_services.nd rfl (Or.inl rfl)) (pgs_cons (pg_name (i := 3) sc_check_services.nd rfl (Or.inl rfl)) pgs_nil))) (pss_cons (ps_if (PW.pt (pw_or (pt_not (pt_val (pe_f c_is_service hr (by decide) (by rfl) (pa_cons (pv 3) pa_nil)))) (pw_or1 (pt_cmpR op_in_seq (pe_ix ix_tup (pv 3) pe_int (fun _ _ => rfl)) (pv 1) (by rfl))))) (pss_one (ps_raise rfl (takes_of rfl rfl rfl rfl) (pmk_oex TSv.ox ESv.iC ESv.tI ESv.ok (hr.mono (by decide)) ESv.bi .nil pass0 (by rfl) ESv.gl (pa_cons (pv 2) pa_nil)))) pss_nil)
      (pss_one (ps_expr (pe_bm PySem.F.plainAttrs_list PySem.F.slot_list_append PySem.F.type_list_append mt_append (pv 1) (pa_cons (pe_ix ix_tup (pv 3) pe_int (fun _ _ => rfl)) pa_nil))))))))), ?_⟩
    walk_at "rd"
    refine tupG_same (by decide) fun tp H1 _ S1 htp => ?_
    walk_at "rd"
    rcases hb with ⟨rfl, ⟨m, ty, m1, m2⟩ | ⟨a, xs, rfl, ha, hl⟩⟩ | ⟨a, xs, rr, rs, y, rfl, ha, hl, hy, ht, sr, ra, hnd, bad, rfl⟩
    · refine ⟨v, tp, _, _, _, false, rfl, htp, .cons (.ty _) (.cons (.ty _) .nil), (K2.TyB.ext S1 ty).x, kit_other ty m1 m2, ?_⟩
      walk_at "rd"
      show (if true = true then _ else _)
      walk_at "rd"
      refine g_mko ?_
      walk_at "rd"
      exact erv_as S1 er
    · obtain ⟨ta, tya, kta⟩ := (SeqV.ext S1 ha).ty
      refine ⟨.ref a, tp, _, _, _, true, rfl, htp, .cons (.ty _) (.cons (.ty _) .nil), tya, kta, ?_⟩
      walk_at "rd"
      show (if false = true then _ else _)
      walk_at "rd"
      refine ⟨a, _, rfl, (SeqV.ext S1 ha).sq, ?_⟩
      walk_at "rd"
      rcases hl with hl | hl
      · refine g_andC0 (decide_eq_false (by omega)) ?_
        walk_at "rd"
        show (if true = true then _ else _)
        walk_at "rd"
        refine g_mko ?_
        walk_at "rd"
        exact erv_as S1 er
      · refine g_andC (decide_eq_true (by omega)) ?_
        walk_at "rd"
        rw [show decide ((xs.length : Int) ≤ 6) = false from decide_eq_false (by omega)]
        walk_at "rd"
        show (if true = true then _ else _)
        walk_at "rd"
        refine g_mko ?_
        walk_at "rd"
        exact erv_as S1 er
    · obtain ⟨ta, tya, kta⟩ := (SeqV.ext S1 ha).ty
      have hyl := (List.getElem?_eq_some_iff.mp hy).1
      have hrl := sr.len
      refine ⟨.ref a, tp, _, _, _, true, rfl, htp, .cons (.ty _) (.cons (.ty _) .nil), tya, kta, ?_⟩
      walk_at "rd"
      show (if false = true then _ else _)
      walk_at "rd"
      refine ⟨a, _, rfl, (SeqV.ext S1 ha).sq, ?_⟩
      walk_at "rd"
      refine g_andC (decide_eq_true (by omega)) ?_
      walk_at "rd"
      rw [show decide ((xs.length : Int) ≤ 6) = true from decide_eq_true (by omega)]
      walk_at "rd"
      show (if false = true then _ else _)
      walk_at "rd"
      refine ⟨(by show 0 ≤ sizeLine; decide), fun L hL => ?_⟩
      walk_at "rd"
      have S2 := Same.trans S1 (same_new (o := .lst []) hL)
      have hL2 : upd H1 L (.lst []) L = some (.lst []) := upd_same
      have hL0 : H L = none := none_of S1 hL
      generalize upd H1 L (.lst []) = H2 at S2 hL2 ⊢
      dsimp only
      obtain ⟨b, sb⟩ := SeqV.b ha
      refine g_for (g_ienumS ?_)
      walk_at "rd"
      refine ⟨a, b, _, rfl, sb _ S2, ?_⟩
      refine Mn.for_enumB (fun i σ H' => i ≤ rs.length ∧ ∃ o2 o3 : Option V, σ = [some (.ref a), some (.ref L), o2, o3] ∧ Same H H' ∧ H' L = some (.lst (((nmR rs).take i).map V.str))) ⟨Nat.zero_le _, _, _, rfl, S2, by rw [hL2]; rfl⟩ (fun i σ H' _ ⟨_, _, _, _, e, _⟩ => sb _ e) ?_ ?_
      · rintro i x σ H3 U hx ⟨hil, o2, o3, rfl, S3, h3⟩ hU
        have hUL : U ≠ L := fun z => by rw [z, h3] at hU; cases hU
        refine g_tup2' rfl (SqT.of upd_same) ?_
        have S4 := Same.trans S3 (same_new (o := .tup [.int (i : Nat), x]) hU)
        have h4 : upd H3 U (.tup [.int (i : Nat), x]) L = some (.lst (((nmR rs).take i).map V.str)) := by rw [upd_ne hUL.symm]; exact h3
        generalize upd H3 U (.tup [.int (i : Nat), x]) = H4 at S4 h4 ⊢
        rcases Nat.lt_or_ge i rs.length with lt | ge
        · have hx' : (rr.map V.ref)[i]? = some x := by rw [← ht, List.getElem?_take, if_pos lt]; exact hx
          rw [List.getElem?_map] at hx'
          obtain ⟨y, hy, rfl⟩ := Option.map_eq_some_iff.mp hx'
          obtain ⟨x, hx, ty⟩ := sr.get hy
          have hn : (nmR rs)[i]? = some x.z := by rw [List.getElem?_map, hx]; rfl
          have r4 := (ra x (List.mem_of_getElem? hx)).ext S4
          walk_at "rd"
          refine .inl ⟨y, x.c, x.z, rfl, ty.ext S4, r4.c.ty, r4.nm, nm_short r4.nm, fun H5 S45 => ?_⟩
          walk_at "rd"
          show (if false = true then _ else _)
          walk_at "rd"
          have S5 := Same.trans S4 S45
          have h5 : H5 L = some (.lst (((nmR rs).take i).map V.str)) := S45 _ _ h4
          refine g_ixT (ty.ext S5).sq (v := .str x.z) (atI_nat (j := 0) rfl) ?_
          walk_at "rd"
          refine ⟨L, _, rfl, .inl (SqL.of h5), rfl, flat_strs _, ?_⟩
          walk_at "rd"
          refine g_andC0 (by
            show inV (.str x.z) _ = false
            rw [inV_str]
            exact decide_eq_false (nodup_take hnd hn)) ?_
          walk_at "rd"
          refine ⟨.inl ⟨rfl, _, SqL.of h5⟩, ?_⟩
          walk_at "rd"
          refine g_ixT (ty.ext S5).sq (v := .str x.z) (atI_nat (j := 0) rfl) ?_
          walk_at "rd"
          refine ⟨L, _, _, rfl, rfl, h5, small1000 (by rw [List.length_map, List.length_take]; omega), ?_⟩
          refine ⟨lt, _, _, rfl, same_upd hL0 S5, ?_⟩
          rw [upd_same, ← take_map V.str hn]
        · obtain rfl : i = rs.length := by omega
          rw [hy] at hx
          cases hx
          rw [show (nmR rs).take rs.length = nmR rs from by rw [← List.length_map (f := fun x : Rw => x.z)]; exact List.take_length] at h4
          rcases bad with bad | ⟨r, c, z, rfl, tr, tc, hz, hm⟩
          · walk_at "rd"
            refine .inr ⟨y, rfl, bad.ext S4, fun H5 S45 => ?_⟩
            walk_at "rd"
            show (if true = true then _ else _)
            walk_at "rd"
            refine g_mko ?_
            walk_at "rd"
            exact erv_as (Same.trans S4 S45) er
          · walk_at "rd"
            refine .inl ⟨r, c, z, rfl, tr.ext S4, K2.TyB.ext S4 tc, hz, nm_short hz, fun H5 S45 => ?_⟩
            walk_at "rd"
            show (if false = true then _ else _)
            walk_at "rd"
            have S5 := Same.trans S4 S45
            refine g_ixT (tr.ext S5).sq (v := .str z) (atI_nat (j := 0) rfl) ?_
            walk_at "rd"
            refine ⟨L, _, rfl, .inl (SqL.of (S45 _ _ h4)), rfl, flat_strs _, ?_⟩
            walk_at "rd"
            refine g_andC (by
              show inV (.str z) _ = true
              rw [inV_str]
              exact decide_eq_true hm) ?_
            walk_at "rd"
            refine g_mko ?_
            walk_at "rd"
            exact erv_as S5 er
      · rintro σ H3 ⟨hil, _⟩
        omega
end
end K2

namespace K2
open PySem PySem.Spec PyProof.Rows L2 Mc Mx
/-! a system of policies that it does not take -/
theorem fn_orX {P : Program} {w : World} {K : PySem.W.Frag} {mg : Str → Option Value} {base : Heap} {CX : CXT} {k : Nat} {f : Addr} {fd : FuncData} {ps : List Str} {sp1 sp2 : Sp} (F1 : FnOk P w K mg base CX k f fd ps sp1) (F2 : FnOk P w K mg base CX k f fd ps sp2) :
    FnOk P w K mg base CX k f fd ps (fun vs H Q E => sp1 vs H Q E ∨ sp2 vs H Q E) :=
  ⟨fun vs H Q E h => h.elim (F1.len _ _ _ _) (F2.len _ _ _ _), fun A outer s H args us vs Q E hr e0 hb r h => h.elim (F1.run A outer s H args us vs Q E hr e0 hb r) (F2.run A outer s H args us vs Q E hr e0 hb r)⟩
section
variable {P : Program} {w : World} {K : PySem.W.Frag} {mg : Str → Option Value} {base : Heap} {C CS CI CU CT CPo CSv : Addr}
local macro_rules | `(tactic| walk_at "rd1") => `(tactic| first
  | with_reducible refine g_seq ?_
  | with_reducible refine g_asg ?_
  | with_reducible refine g_name ?_
  | with_reducible refine g_c ?_
  | with_reducible refine g_op ?_
  | with_reducible refine g_ifS ?_
  | with_reducible refine g_if ?_
  | with_reducible refine g_test ?_
  | with_reducible refine g_B ?_
  | with_reducible refine g_bl ?_
  | with_reducible refine g_blV ?_
  | with_reducible refine g_not ?_
  | with_reducible refine g_and ?_
  | with_reducible refine g_or ?_
  | with_reducible refine g_notV ?_
  | with_reducible refine g_andV ?_
  | with_reducible refine g_orV ?_
  | with_reducible refine g_ret ?_
  | with_reducible refine g_drop ?_
  | with_reducible refine g_next ?_
  | with_reducible refine g_retN ?_
  | with_reducible refine g_call ?_
  | with_reducible refine g_cb ?_
  | with_reducible refine g_cons ?_
  | with_reducible refine g_nil ?_
  | with_reducible refine g_tup ?_
  | with_reducible refine g_lst ?_
  | with_reducible refine g_prop ?_
  | with_reducible refine g_fld ?_
  | with_reducible refine g_meth ?_
  | with_reducible refine g_chain ?_
  | with_reducible refine g_yes ?_
  | with_reducible refine g_make ?_
  | with_reducible refine g_makeK ?_
  | with_reducible refine g_gsub ?_
  | with_reducible refine g_sfld ?_
  | with_reducible refine g_un ?_
  | with_reducible refine g_bm ?_
  | with_reducible refine g_iteT ?_
  | with_reducible refine g_iteF ?_
  | with_reducible refine g_I0 ?_
  | with_reducible refine g_add ?_
  | with_reducible refine g_sub ?_
  | ((with_reducible refine' g_var ?hv ?_); (case hv => rfl))
  | ((with_reducible refine g_eq ?hv ?_); (case hv => rfl))
  | ((with_reducible refine g_ne ?hv ?_); (case hv => rfl)))
local macro_rules | `(tactic| walk_at "rd") => `(tactic| repeat (walk_at "rd1"))

local macro_rules | `(tactic| walk_at "ty") => `(tactic| first | exact .non | exact .bl _ | exact .int _ | exact .str _ | exact .lst (by assumption) | exact .tup (by assumption) | exact .dK (by assumption) | exact .kTup (by assumption) (by assumption))
local macro_rules | `(tactic| walk_at "isiF") => `(tactic| refine g_isi (by walk_at "ty") (b := false) (by decide +kernel) ?_)
local macro_rules | `(tactic| walk_at "isiT") => `(tactic| refine g_isi (by walk_at "ty") (b := true) (by decide +kernel) ?_)

theorem BadPols.ext {H H' : Hp} {v n : V} (S : Same H H') (h : BadPols K C H v n) : BadPols K C H' v n := by
  rcases h with ⟨rfl, ⟨m, ty, m1, m2⟩ | ⟨a, xs, rfl, ha, hl⟩⟩ | ⟨a, xs, ps, y, rfl, ha, hl, hy, ht, pa, hnd, bad, rfl⟩
  · exact .inl ⟨rfl, .inl ⟨m, K2.TyB.ext S ty, m1, m2⟩⟩
  · exact .inl ⟨rfl, .inr ⟨a, xs, rfl, SeqV.ext S ha, hl⟩⟩
  · refine .inr ⟨a, xs, ps, y, rfl, SeqV.ext S ha, hl, hy, ht, pa.ext S, hnd, ?_, rfl⟩
    rcases bad with ⟨m, ty⟩ | ⟨x, e, px, hm⟩
    · exact .inl ⟨m, K2.TyB.ext S ty⟩
    · exact .inr ⟨x, e, px.ext S, hm⟩
def spSysE1 (K : PySem.W.Frag) (C CPo : Addr) : Sp := fun vs H _ E => ∃ (s pl sv n : V) (H0 : Hp), vs = [s, pl, sv] ∧ Same H0 H ∧ BadPols K C H0 pl n ∧ ErV CPo "number" H0 E n
theorem ok_sysE1 {f fT : Addr} {fd fdT : FuncData} (F : Fun K "__init__" "System.__init__" s_Systeminit f fd) (T : Txt K mg) (TS : STx K CS) (pr_name : Prp P w K mg base 1 C "name" (getSp C "_name"))
    (c_chk_polE : CalX P w K mg base 3 "_check_policies" (spChkPolE K C CPo)) (c_chk_servE : CalX P w K mg base 3 "_check_services" (spChkServE K CSv))
    (c_check_parts : CalX P w K mg base 5 "_check_parts" (spChkParts K CI)) (c_check_names : CalX P w K mg base 6 "_check_names" (spChkNames K CU)) (c_block_span : Cal P w K mg base 9 "block_span" (spBS K C 2))
    (TT : SupCB "OverflowError" "OverflowError.__new__" "OverflowError.__init__" tlOE P K mg CT) (ET : ExK P w K mg base "TooLong" CT fT fdT ["self", "service"] (spEx CT "service")) :
    FnOk P w K mg base (CX P w) 10 f fd psS (spSysE1 K C CPo) := by
  refine F.okX sc_Systeminit (fun vs H Q E h => ?_) (fun cdv A outer st H vs Q E hr h => ?_)
  · obtain ⟨s, pl, sv, n, H0, rfl, _⟩ := h
    rfl
  · obtain ⟨s, pl, sv, n, H0, rfl, S0, hb, er⟩ := h
    refine ⟨_, (pss_cons (ps_expr (pe_fX c_chk_polE (takes_of rfl rfl rfl rfl) hr (by decide) (by rfl) (pa_cons (pv 1) pa_nil)))
      (pss_cons (ps_expr (pe_fX c_chk_servE (takes_of rfl rfl rfl rfl) hr (by decide) (by rfl) (pa_cons (pv 2) pa_nil)))
      (pss_cons (ps_fld (pv 0) (pe_dc (own := [("policy", 3)]) (g := gName 3) (by rfl) sc_Systeminit.nd (Mn.pi_seq (pv 1)) (blkOk_by (own := [("policy", 3)]) (N := N_Systeminit) (sc := defScope s_Systeminit) (by decide +kernel)) (fun _ _ _ _ _ => pg_name (i := 3) sc_Systeminit.nd rfl (Or.inl rfl)) (fun _ _ _ _ _ => pts_nil) (fun _ _ _ _ _ => (pe_pr pr_name hr (by decide) (pv 3))) (fun _ _ _ _ _ => (pv 3))) rfl)
      (pss_cons (ps_fld (pv 0) pe_dnewK rfl)
      (pss_cons (ps_fld (pv 0) pe_dnewK rfl)
      (pss_one (ps_for (passes_of rfl) rfl (Mn.pi_seq (pv 2)) (pg_tup rfl (pgs_cons (pg_name (i := 4) sc_Systeminit.nd rfl (Or.inl rfl)) (pgs_cons (pg_name (i := 5) sc_Systeminit.nd rfl (Or.inl rfl)) pgs_nil))) (pss_cons (ps_expr (pe_fX c_check_parts (takes_of rfl rfl rfl rfl) hr (by decide) (by rfl) (pa_cons (pv 4) (pa_cons (pv 5) pa_nil))))
      (pss_cons (ps_expr (pe_fX c_check_names (takes_of rfl rfl rfl rfl) hr (by decide) (by rfl) (pa_cons (pv 5) (pa_cons (pe_fld (pv 0) rfl) (pa_cons (pe_fld (pv 0) rfl) pa_nil)))))
      (pss_cons (ps_set (i := 6) sc_Systeminit.nd rfl (Or.inl rfl) (pe_f c_block_span hr (by decide) (by rfl) (pa_cons (pv 5) (pa_cons (pe_fld (pv 0) rfl) pa_nil))))
      (pss_cons (ps_if (pt_cmpR op_gt (pv 6) (pe_gx rfl T.g_MOST_SPAN) (nomark _)) (pss_one (ps_raise rfl (takes_of rfl rfl rfl rfl) (pmk_oexB base_OE TT.ox ET.iC ET.tI ET.ok (hr.mono (by decide)) ET.bi .nil pass0 (by rfl) ET.gl (pa_cons (pv 4) pa_nil)))) pss_nil)
      (pss_cons (ps_asg (pv 5) (pg_sub (pe_fld (pv 0) rfl) (pv 4) (set_dict (Nat.lt_of_le_of_lt (Nat.add_le_add_left (by decide : 1 ≤ 64) _) hr.units))))
      (pss_one (ps_asg (pv 6) (pg_sub (pe_fld (pv 0) rfl) (pv 4) (set_dict (Nat.lt_of_le_of_lt (Nat.add_le_add_left (by decide : 1 ≤ 64) _) hr.units))))))))))))))))), ?_⟩
    refine g_seq ?_
    walk_at "rd"
    refine g_callS ?_
    walk_at "rd"
    exact ⟨pl, n, rfl, hb.ext S0, er.ext S0⟩
end
end K2

namespace K2
open PySem PySem.Spec PyProof.Rows L2 Mc Mx
/-! a system of services that it does not take -/
section
variable {P : Program} {w : World} {K : PySem.W.Frag} {mg : Str → Option Value} {base : Heap} {C CS CI CU CT CPo CSv : Addr}
local macro_rules | `(tactic| walk_at "rd1") => `(tactic| first
  | with_reducible refine g_seq ?_
  | with_reducible refine g_asg ?_
  | with_reducible refine g_name ?_
  | with_reducible refine g_c ?_
  | with_reducible refine g_op ?_
  | with_reducible refine g_ifS ?_
  | with_reducible refine g_if ?_
  | with_reducible refine g_test ?_
  | with_reducible refine g_B ?_
  | with_reducible refine g_bl ?_
  | with_reducible refine g_blV ?_
  | with_reducible refine g_not ?_
  | with_reducible refine g_and ?_
  | with_reducible refine g_or ?_
  | with_reducible refine g_notV ?_
  | with_reducible refine g_andV ?_
  | with_reducible refine g_orV ?_
  | with_reducible refine g_ret ?_
  | with_reducible refine g_drop ?_
  | with_reducible refine g_next ?_
  | with_reducible refine g_retN ?_
  | with_reducible refine g_call ?_
  | with_reducible refine g_cb ?_
  | with_reducible refine g_cons ?_
  | with_reducible refine g_nil ?_
  | with_reducible refine g_tup ?_
  | with_reducible refine g_lst ?_
  | with_reducible refine g_prop ?_
  | with_reducible refine g_fld ?_
  | with_reducible refine g_meth ?_
  | with_reducible refine g_chain ?_
  | with_reducible refine g_yes ?_
  | with_reducible refine g_make ?_
  | with_reducible refine g_makeK ?_
  | with_reducible refine g_gsub ?_
  | with_reducible refine g_sfld ?_
  | with_reducible refine g_un ?_
  | with_reducible refine g_bm ?_
  | with_reducible refine g_iteT ?_
  | with_reducible refine g_iteF ?_
  | with_reducible refine g_I0 ?_
  | with_reducible refine g_add ?_
  | with_reducible refine g_sub ?_
  | ((with_reducible refine' g_var ?hv ?_); (case hv => rfl))
  | ((with_reducible refine g_eq ?hv ?_); (case hv => rfl))
  | ((with_reducible refine g_ne ?hv ?_); (case hv => rfl)))
local macro_rules | `(tactic| walk_at "rd") => `(tactic| repeat (walk_at "rd1"))

local macro_rules | `(tactic| walk_at "ty") => `(tactic| first | exact .non | exact .bl _ | exact .int _ | exact .str _ | exact .lst (by assumption) | exact .tup (by assumption) | exact .dK (by assumption) | exact .kTup (by assumption) (by assumption))
local macro_rules | `(tactic| walk_at "isiF") => `(tactic| refine g_isi (by walk_at "ty") (b := false) (by decide +kernel) ?_)
local macro_rules | `(tactic| walk_at "isiT") => `(tactic| refine g_isi (by walk_at "ty") (b := true) (by decide +kernel) ?_)

def spSysE2 (K : PySem.W.Frag) (C CSv : Addr) : Sp := fun vs H _ E => ∃ (s sv n : V) (pl : Addr) (ps : Ps) (H0 : Hp), vs = [s, .ref pl, sv] ∧ Same H0 H ∧ SeqV K H0 pl (rfP ps) ∧ PolsAt K C H0 ps ∧ ps.length ≤ 8 ∧ (nmP ps).Nodup ∧ BadServs K H0 sv n ∧ ErV CSv "number" H0 E n
theorem ok_sysE2 {f fT : Addr} {fd fdT : FuncData} (F : Fun K "__init__" "System.__init__" s_Systeminit f fd) (T : Txt K mg) (TS : STx K CS) (pr_name : Prp P w K mg base 1 C "name" (getSp C "_name"))
    (c_check_policies : Cal P w K mg base 3 "_check_policies" (spChkPol K C)) (c_chk_servE : CalX P w K mg base 3 "_check_services" (spChkServE K CSv))
    (c_check_parts : CalX P w K mg base 5 "_check_parts" (spChkParts K CI)) (c_check_names : CalX P w K mg base 6 "_check_names" (spChkNames K CU)) (c_block_span : Cal P w K mg base 9 "block_span" (spBS K C 2))
    (TT : SupCB "OverflowError" "OverflowError.__new__" "OverflowError.__init__" tlOE P K mg CT) (ET : ExK P w K mg base "TooLong" CT fT fdT ["self", "service"] (spEx CT "service")) :
    FnOk P w K mg base (CX P w) 10 f fd psS (spSysE2 K C CSv) := by
  refine F.okX sc_Systeminit (fun vs H Q E h => ?_) (fun cdv A outer st H vs Q E hr h => ?_)
  · obtain ⟨s, sv, n, pl, ps, H0, rfl, _⟩ := h
    rfl
  · obtain ⟨s, sv, n, pl, ps, H0, rfl, S0, hpl, hpa, pl8, pnd, hb, er⟩ := h
    refine ⟨_, (pss_cons (ps_expr (pe_f c_check_policies hr (by decide) (by rfl) (pa_cons (pv 1) pa_nil)))
      (pss_cons (ps_expr (pe_fX c_chk_servE (takes_of rfl rfl rfl rfl) hr (by decide) (by rfl) (pa_cons (pv 2) pa_nil)))
      (pss_cons (ps_fld (pv 0) (pe_dc (own := [("policy", 3)]) (g := gName 3) (by rfl) sc_Systeminit.nd (Mn.pi_seq (pv 1)) (blkOk_by (own := [("policy", 3)]) (N := N_Systeminit) (sc := defScope s_Systeminit) (by decide +kernel)) (fun _ _ _ _ _ => pg_name (i := 3) sc_Systeminit.nd rfl (Or.inl rfl)) (fun _ _ _ _ _ => pts_nil) (fun _ _ _ _ _ => (pe_pr pr_name hr (by decide) (pv 3))) (fun _ _ _ _ _ => (pv 3))) rfl)
      (pss_cons (ps_fld (pv 0) pe_dnewK rfl)
      (pss_cons (ps_fld (pv 0) pe_dnewK rfl)
      (pss_one (ps_for (passes_of rfl) rfl (Mn.pi_seq (pv 2)) (pg_tup rfl (pgs_cons (pg_name (i := 4) sc_Systeminit.nd rfl (Or.inl rfl)) (pgs_cons (pg_name (i := 5) sc_Systeminit.nd rfl (Or.inl rfl)) pgs_nil))) (pss_cons (ps_expr (pe_fX c_check_parts (takes_of rfl rfl rfl rfl) hr (by decide) (by rfl) (pa_cons (pv 4) (pa_cons (pv 5) pa_nil))))
      (pss_cons (ps_expr (pe_fX c_check_names (takes_of rfl rfl rfl rfl) hr (by decide) (by rfl) (pa_cons (pv 5) (pa_cons (pe_fld (pv 0) rfl) (pa_cons (pe_fld (pv 0) rfl) pa_nil)))))
      (pss_cons (ps_set (i := 6) sc_Systeminit.nd rfl (Or.inl rfl) (pe_f c_block_span hr (by decide) (by rfl) (pa_cons (pv 5) (pa_cons (pe_fld (pv 0) rfl) pa_nil))))
      (pss_cons (ps_if (pt_cmpR op_gt (pv 6) (pe_gx rfl T.g_MOST_SPAN) (nomark _)) (pss_one (ps_raise rfl (takes_of rfl rfl rfl rfl) (pmk_oexB base_OE TT.ox ET.iC ET.tI ET.ok (hr.mono (by decide)) ET.bi .nil pass0 (by rfl) ET.gl (pa_cons (pv 4) pa_nil)))) pss_nil)
      (pss_cons (ps_asg (pv 5) (pg_sub (pe_fld (pv 0) rfl) (pv 4) (set_dict (Nat.lt_of_le_of_lt (Nat.add_le_add_left (by decide : 1 ≤ 64) _) hr.units))))
      (pss_one (ps_asg (pv 6) (pg_sub (pe_fld (pv 0) rfl) (pv 4) (set_dict (Nat.lt_of_le_of_lt (Nat.add_le_add_left (by decide : 1 ≤ 64) _) hr.units))))))))))))))))), ?_⟩
    walk_at "rd"
    refine ⟨pl, ps, rfl, hpl.ext S0, hpa.ext S0, pl8, pnd, fun H1 S1 => ?_⟩
    walk_at "rd"
    have S01 := Same.trans S0 S1
    refine g_callS ?_
    walk_at "rd"
    exact ⟨sv, n, rfl, hb.ext S01, er.ext S01⟩
end
end K2

/-! sets of texts: comprehensions, sorted(..) -/
namespace Mz
open PySem PySem.Spec PyProof.Rows L2 Mc
def txtOf (e : Int × Value) : Str := PyProof.Rows.strOf e.2
def OneT (w : World) (e : Int × Value) : Prop := ∃ (k : Str) (t : Tok), e = (hashStr w k, .str k t)
/-- the table of a set of texts -/
structure Tbl (w : World) (es : Array (Int × Value)) (t : SetTable) (S : Str → Bool) (n : Nat) : Prop where
  good : ∀ e ∈ es.toList, OneT w e
  nd : (es.toList.map txtOf).Nodup
  mem : ∀ k, S k = true ↔ k ∈ es.toList.map txtOf
  few : es.size < scanBound
  fit : t.fits es.size = true
  len : es.size = n
  ris : Ris t.place.toList
  led : w.params.followText "set-order" = true ∨ t.led = true
def TxtSet (w : World) (h : Heap) (a : Addr) (S : Str → Bool) (n : Nat) : Prop := ∃ o es ep t, (h.get? a = some o ∧ o.ExactSet ∧ o.data = .set es ep t) ∧ Tbl w es t S n
section
variable {P : Program} {w : World} {A : Around} {E : Value → Shared → Prop} {s : Shared} {h : Heap} {a : Addr} {S : Str → Bool} {n : Nat} {es : Array (Int × Value)} {t : SetTable}
theorem one_txt {e : Int × Value} (g : OneT w e) : ∃ tk, e.2 = .str (txtOf e) tk := by
  obtain ⟨k, tk, rfl⟩ := g
  exact ⟨tk, rfl⟩
theorem elems (g : ∀ e ∈ es.toList, OneT w e) : ElemsOf (PySem.strKind P w) es.toList := fun e he => by
  obtain ⟨k, tk, rfl⟩ := g e he
  exact ⟨⟨k, strKind_is P w k tk, rfl⟩, rfl⟩
theorem is_txt {e : Int × Value} (g : OneT w e) (k : Str) : (PySem.strKind P w).is k e.2 = true ↔ txtOf e = k := by
  obtain ⟨k0, tk, rfl⟩ := g
  constructor
  · intro q
    obtain ⟨t', q'⟩ := Value.isStrOf_shape (show Value.isStrOf k (.str k0 tk) = true from q)
    exact (Value.str.inj q').1
  · intro q
    have q : k0 = k := q
    rw [← q]
    exact strKind_is P w k0 tk
theorem mem_txt (g : ∀ e ∈ es.toList, OneT w e) (k : Str) : k ∈ es.toList.map txtOf ↔ ∃ e ∈ es.toList, (PySem.strKind P w).is k e.2 = true := by
  rw [List.mem_map]
  exact ⟨fun ⟨e, he, q⟩ => ⟨e, he, (is_txt (g e he) k).2 q⟩, fun ⟨e, he, q⟩ => ⟨e, he, (is_txt (g e he) k).1 q⟩⟩
theorem TxtSet.setOf (R : TxtSet w h a S n) : h.SetOf (PySem.strKind P w) a S n := by
  obtain ⟨o, es, ep, t, ⟨h1, h2, h3⟩, T⟩ := R
  exact ⟨o, es, ep, t, h1, h2, h3, elems T.good, fun k => (T.mem k).trans (mem_txt T.good k), T.few, T.fit, T.len⟩
/-- the end of set.add: the table is laid, and laid anew where it is too full -/
theorem lay_tail {g : Bool → Sem Unit} (hg : ∀ (b : Bool) (z : Shared) (Q' : Unit → Shared → Prop), Q' () z → wpAny (model P w) A (g b) Q' E z)
    {o : Obj} {es : Array (Int × Value)} {ep : Nat} {t : SetTable} (at_ : s.heap.get? a = some o ∧ o.ExactSet ∧ o.data = .set es ep t) {es1 : Array (Int × Value)} {t2 : SetTable} {m : Nat} (T : Tbl w es1 t2 S m) {dm : Bool} {R : Option Bool → Shared → Prop}
    (hR : ∀ h', Heap.SameBut a s.heap h' → TxtSet w h' a S m → R (some true) { s with heap := h' }) :
    wpAny (model P w) A (do
        storeSet a es1 t2
        if (!dm && t2.tooFull) = true then do
            g (relayAll t2 es1 (SetTable.grown es1.size)).2.2
            storeSet a (relayAll t2 es1 (SetTable.grown es1.size)).1 (relayAll t2 es1 (SetTable.grown es1.size)).2.1
            pure (some true)
          else pure (some true)) R E s := by
  obtain ⟨h1, h2, h3⟩ := at_
  have k1 := PpSet.storeB_at (es' := es1) (t' := t2) h1 h3
  have b1 := Heap.SameBut.update s.heap a (Obj.putSet es1 t2)
  refine wpAny_bind (wpAny_storeSet_of h1 h3 ?_ (fits_of_scanBound T.few)); split
  · have pm := relayAll_perm t2 es1 (SetTable.grown es1.size)
    have q1 := relayAll_fits t2 es1 (SetTable.grown es1.size); have q2 := relayAll_ris t2 es1 (SetTable.grown es1.size); have q3 := relayAll_led t2 es1 (SetTable.grown es1.size)
    revert pm q1 q2 q3
    generalize relayAll t2 es1 (SetTable.grown es1.size) = Z
    obtain ⟨es2, t3, gave⟩ := Z
    intro pm q1 q2 q3; dsimp only at pm q1 q2 q3 ⊢
    have sz : es2.size = es1.size := by rw [← Array.length_toList, ← Array.length_toList]; exact pm.length_eq
    have few2 : es2.size < scanBound := sz ▸ T.few
    refine wpAny_bind (hg _ _ _ (wpAny_bind (wpAny_storeSet_of k1 rfl ?_ (fits_of_scanBound few2))))
    refine wpAny_pure (hR _ (b1.trans (Heap.SameBut.update _ a _)) ⟨_, es2, _, t3, ⟨PpSet.storeB_at (es' := es2) (t' := t3) k1 rfl, h2, rfl⟩, ?_⟩)
    exact ⟨fun e he => T.good e (pm.mem_iff.mp he), (pm.map txtOf).nodup_iff.mpr T.nd, fun k => (T.mem k).trans (pm.map txtOf).mem_iff.symm, few2, q1, sz.trans T.len, q2, T.led.imp id fun z => q3.trans z⟩
  · exact wpAny_pure (hR _ b1 ⟨_, es1, _, t2, ⟨k1, h2, rfl⟩, T⟩)
theorem add_hashed {k : Str} {tk : Tok} {Q : Bool → Shared → Prop} (R : TxtSet w s.heap a S n) (room : n + 1 < scanBound)
    (hQ : ∀ h', Heap.SameBut a s.heap h' → TxtSet w h' a (fun j => S j || decide (j = k)) (if S k = true then n else n + 1) → Q (!S k) { s with heap := h' }) :
    wpAny (model P w) A (setAddHashed a (.str k tk) ((PySem.strKind P w).hash k)) Q E s := by
  obtain ⟨o, es, ep, t, ⟨h1, h2, h3⟩, T⟩ := R
  have isk : (PySem.strKind P w).is k (.str k tk) = true := strKind_is P w k tk
  have sc : (Value.str k tk).scannable = true := rfl
  have el : ElemsOf (PySem.strKind P w) es.toList := elems T.good
  unfold setAddHashed setAddHashedIn; refine wpAny_holding (wpAny_bind (wpAny_setState_of h1 h3 T.fit ?_)); dsimp only
  rw [byScan_of sc T.few el]; simp only [↓reduceIte]
  unfold setAddByScan; refine wpAny_bind (wpAny_bind (wpAny_rule (wpAny_bind (wpAny_setScan_of isk h1 h3 T.fit el ?_))))
  cases hfi : List.findIdx? (fun e => (PySem.strKind P w).is k e.2) es.toList with
  | some j =>
    obtain ⟨hj, pj, _⟩ := List.findIdx?_eq_some_iff_getElem.mp hfi
    have yes : S k = true := (T.mem k).2 ((mem_txt (P := P) T.good k).2 ⟨es.toList[j], List.getElem_mem hj, pj⟩)
    have q := hQ s.heap (Heap.SameBut.refl a s.heap) ⟨o, es, ep, t, ⟨h1, h2, h3⟩, T.good, T.nd, fun i => ?_, T.few, T.fit, by rw [if_pos yes]; exact T.len, T.ris, T.led⟩
    · rw [yes] at q
      exact wpAny_pure (wpAny_pure q)
    · rw [Bool.or_eq_true, decide_eq_true_eq, ← T.mem i]
      exact ⟨fun z => z.elim id fun e => by rw [e]; exact yes, .inl⟩
  | none =>
    dsimp only
    have out : k ∉ es.toList.map txtOf := fun z => by
      obtain ⟨e, he, q⟩ := (mem_txt (P := P) T.good k).1 z
      exact absurd q (by rw [List.findIdx?_eq_none_iff.mp hfi e he]; exact Bool.false_ne_true)
    have no : S k = false := by
      rcases q : S k with _ | _
      · rfl
      · exact absurd ((T.mem k).1 q) out
    have way : ∀ (b : Bool) (z : Shared) (Q' : Unit → Shared → Prop), Q' () z → wpAny (model P w) A (match b with | true => rule "set.scan.the-table-gave-way" | false => pure ()) Q' E z := fun b z Q' q => by
      cases b
      · exact wpAny_pure q
      · exact wpAny_rule q
    have pm := layNew_perm t es ((PySem.strKind P w).hash k) (.str k tk)
    have q1 := layNew_fits t es ((PySem.strKind P w).hash k) (.str k tk); have q2 := layNew_ris t es ((PySem.strKind P w).hash k) (.str k tk) T.ris; have q3 := layNew_led t es ((PySem.strKind P w).hash k) (.str k tk)
    revert pm q1 q2 q3
    generalize layNew t es ((PySem.strKind P w).hash k) (.str k tk) = Z
    obtain ⟨es1, t1, dm, gave⟩ := Z
    intro pm q1 q2 q3; dsimp only at pm q1 q2 q3 ⊢
    rw [Array.toList_push] at pm
    have pc : es1.toList.Perm ((hashStr w k, Value.str k tk) :: es.toList) := pm.trans (List.perm_append_singleton _ _)
    have pk : (es1.toList.map txtOf).Perm (k :: es.toList.map txtOf) := pc.map txtOf
    have sz : es1.size = n + 1 := by rw [← Array.length_toList, pc.length_eq, List.length_cons, Array.length_toList, T.len]
    have T1 : ∀ t2 : SetTable, t2.fits es1.size = true → Ris t2.place.toList → t2.led = t1.led → Tbl w es1 t2 (fun j => S j || decide (j = k)) (n + 1) := fun t2 a1 a2 a3 => by
      refine ⟨fun e he => ?_, pk.nodup_iff.mpr (List.nodup_cons.mpr ⟨out, T.nd⟩), fun i => ?_, sz ▸ room, a1, sz, a2, T.led.imp id fun z => a3.trans (q3.trans z)⟩
      · rcases List.mem_cons.mp (pc.mem_iff.mp he) with z | z
        · exact ⟨k, tk, z⟩
        · exact T.good e z
      · rw [Bool.or_eq_true, decide_eq_true_eq, T.mem i, pk.mem_iff, List.mem_cons]
        exact Or.comm
    have fin : ∀ h', Heap.SameBut a s.heap h' → TxtSet w h' a (fun j => S j || decide (j = k)) (n + 1) → Q true { s with heap := h' } := fun h' sb r => by
      have q := hQ h' sb
      rw [no] at q
      exact q r
    refine wpAny_bind (way _ _ _ ?_); split
    · refine wpAny_bind ?_
      rw [hashByValue_scannable 8 sc]; refine wpAny_pure (lay_tail (fun b z Q' q => way b z Q' q) ⟨h1, h2, h3⟩ (T1 _ ?_ ?_ ?_) fun h' sb r => ?_)
      · first | (split <;> first | exact q1 | exact SetTable.fits_plain_off q1) | exact q1
      · first | (split <;> exact q2) | exact q2
      · first | (split <;> rfl) | rfl
      · dsimp only; exact wpAny_pure (fin h' sb r)
    · refine wpAny_bind (wpAny_pure ?_); simp only [↓reduceIte]
      exact lay_tail (fun b z Q' q => way b z Q' q) ⟨h1, h2, h3⟩ (T1 _ q1 q2 rfl) fun h' sb r => wpAny_pure (fin h' sb r)
/-- found.add(k) -/
theorem add_txt {k : Str} {tk : Tok} {Q : Value → Shared → Prop} (R : TxtSet w s.heap a S n) (room : n + 1 < scanBound)
    (hQ : ∀ h', Heap.SameBut a s.heap h' → TxtSet w h' a (fun j => S j || decide (j = k)) (if S k = true then n else n + 1) → Q .none { s with heap := h', toks := s.toks + 1 }) :
    wpAny (model P w) A (call (.builtin "set.add") [.ref a, .str k tk]) Q E s := by
  have hS : s.heap.SetOf (PySem.strKind P w) a S n := R.setOf
  refine wpAny_call_entry F.slot_set_add hS.typeIs F.entry_set_add ?_ (F.args_set_add_2 _ _)
  unfold Builtin.«set.add» Builtin.Frozenset.oneOther; simp only [List.isEmpty_nil, bind_assoc]
  unfold Builtin.Frozenset.addrOf setAdd; refine wpAny_bind (wpAny_pure ?_); try dsimp only
  refine wpAny_bind (wpAny_pure ?_); try dsimp only
  refine wpAny_bind (wpAny_holding (wpAny_bind ((PySem.strKind P w).pyHash (strKind_is P w k tk) (add_hashed (s := { s with toks := s.toks + 1 }) R room fun h' sb r => ?_))))
  exact wpAny_pure ⟨_, rfl, hQ h' sb r⟩
/-! ### sorted(..) -/
theorem sorted_txts {Q : Value → Shared → Prop} (R : TxtSet w s.heap a S n) (hh : A.handled = none) (h64 : n < 64)
    (hQ : ∀ s' p (out : Array Value) (c : Nat) (ys : List Str), (∀ b o, s.heap.get? b = some o → s'.heap.get? b = some o) → s'.gens = s.gens → s'.os = s.os → s.heap.objs.size ≤ p →
      s'.heap.get? p = some (seqObj "list" out c) → StrsAre out.toList ys → sortedS ys = true → ys.Nodup → (∀ k, k ∈ ys ↔ S k = true) → ys.length = n → Q (.ref p) s') :
    wpAny (model P w) A (call (.builtin "sorted") [.ref a]) Q E s := by
  obtain ⟨o, es, ep, t, ⟨h1, h2, h3⟩, T⟩ := R
  refine Calls.call_function_entry kind_sorted plain_sorted entry_sorted (args_sorted1 _) ?_
  unfold Builtin.«sorted»; refine wpAny_bind (m := checkCount "sorted" 1 1 _) (wpAny_pure (wpAny_bind (collect_set (A := A.in1) hh ⟨o, h1, h2.1, h3⟩ T.fit T.few T.ris T.led fun s1 vs k1 hz g1 o1 pm => ?_)))
  have hvl : vs.length = n := by rw [pm.length_eq, List.length_map, Array.length_toList]; exact T.len
  have hI : StrsAre vs (vs.map PyProof.Rows.strOf) := strsAre_map vs fun v hv => by
    obtain ⟨e, he, rfl⟩ := List.mem_map.mp (pm.mem_iff.mp hv)
    obtain ⟨tk, q⟩ := one_txt (T.good e he)
    exact ⟨_, tk, q⟩
  have pk : (vs.map PyProof.Rows.strOf).Perm (es.toList.map txtOf) := by
    have q := pm.map PyProof.Rows.strOf
    rw [List.map_map] at q
    exact q
  refine wpAny_bind (wpAny_newList ?_ (by rw [hvl, sizeLine_eq]; omega))
  have hoL : (s1.heap.push (seqObj "list" vs.toArray 0)).get? s1.heap.objs.size = some (seqObj "list" vs.toArray 0) := Heap.get?_push_size _ rfl
  refine wpAny_bind (wpAny_holding (wpAny_call_entry slot_list_sort ⟨_, hoL, rfl⟩ entry_list_sort (list_sort_treeK strKind_oneLt hoL hI.keysOf (fun v₁ v₂ rest e => keyKind_strs (by rw [← e]; exact hI)) (by rw [hvl]; exact h64) fun st' a1 a2 => ⟨_, rfl, ?_⟩) (args_list_sort _)))
  obtain ⟨ys, b1, b2, b3⟩ := sorted_out_str hI a1 a2
  obtain ⟨c, hc⟩ := sortedHeap_at (vs := vs) (out := (arrOf st').map (·.2)) hoL
  have pn : ys.Perm (es.toList.map txtOf) := b2.trans pk
  refine wpAny_pure ⟨_, rfl, hQ _ s1.heap.objs.size ((arrOf st').map (·.2)) c ys (fun b u e => ?_) g1 o1 hz hc b1 b3 (pn.nodup_iff.mpr T.nd) (fun k => by rw [pn.mem_iff, ← T.mem k]) ?_⟩
  · have q := k1 b u e
    show (sortedHeap (s1.heap.push (seqObj "list" vs.toArray 0)) s1.heap.objs.size vs ((arrOf st').map (·.2))).get? b = some u
    rw [sortedHeap_old (Nat.ne_of_lt (Heap.lt_size q)) (by rw [size_push']; exact Nat.lt_succ_of_lt (Heap.lt_size q))]
    exact Heap.get?_push_of_some _ q
  · rw [pn.length_eq, List.length_map, Array.length_toList]; exact T.len
theorem txt_fresh {h : Heap} (w : World) : TxtSet w (h.push { cls := .type "set", dict := none, data := .set #[] 0 (.fresh 0 0 (!w.params.followText "set-order")) }) h.objs.size (fun _ => false) 0 := by
  refine ⟨_, #[], 0, _, ⟨Heap.get?_push_size _ rfl, ⟨rfl, rfl, rfl⟩, rfl⟩, (fun e he => by simp at he), by simp, (fun k => by simp), by decide, by rfl, rfl, List.Pairwise.nil, ?_⟩
  show _ ∨ (!w.params.followText "set-order") = true
  cases w.params.followText "set-order" <;> simp
end
/-! ### as tracked things -/
def TxtO (w : World) (a : Addr) (S : Str → Bool) (n : Nat) : HO := .ext fun h => TxtSet w h a S n
theorem txt_new {w : World} {P : Program} {H : Hp} {h : Heap} {a : Addr} {S : Str → Bool} {n : Nat} (R : TxtSet w h a S n) : ObjOk P w H h a (TxtO w a S n) := by
  have ⟨o, es, ep, t, ⟨ho, r⟩, T⟩ := R
  exact ⟨R, ⟨o, ho⟩, fun h1 h2 p k => by
    obtain ⟨o, es, ep, t, ⟨ho, r⟩, T⟩ := p
    exact ⟨o, es, ep, t, ⟨k o ho, r⟩, T⟩⟩
section
variable {X : Cx}
theorem add_ok {pins : List (Addr × Obj)} {σ : L2.St} {H : Hp} {s : Shared} {E : Value → Shared → Prop} {D : Addr} {S : Str → Bool} {n : Nat} {y : Str} {tk : Tok} {Q : Value → Shared → Prop} (I : Inv X pins σ H s) (hD : H D = some (TxtO X.w D S n)) (room : n + 1 < scanBound)
    (h : ∀ s', Inv X pins σ (upd H D (TxtO X.w D (fun j => S j || decide (j = y)) (if S y = true then n else n + 1))) s' → Q .none s') : wpAny (model X.prog X.w) X.A (call (.builtin "set.add") [.ref D, .str y tk]) Q E s :=
  add_txt (I.hok D _ hD).1 room fun h' sb new => h _ (I.write (e := D) (t' := s.toks + 1) (by rw [hD]; trivial) (.inl rfl) (fun b u hb hu => (sb.2 b hb).trans hu) (by have ⟨o, _, _, _, ⟨ho, _⟩, _⟩ := new; exact ⟨o, ho⟩) (txt_new new))
/-- sorted(found), fewer than 64 members -/
def rSortedT (w : World) : List V → Hp → VK → Prop := fun vs H Q => ∃ (a : Addr) (S : Str → Bool) (n : Nat), vs = [V.ref a] ∧ H a = some (TxtO w a S n) ∧ n < 64 ∧
  ∀ (ys : List Str) (p : Addr), sortedS ys = true → ys.Nodup → (∀ k, k ∈ ys ↔ S k = true) → ys.length = n → H p = none → Q (.ref p) (upd H p (.lst (ys.map V.str)))
theorem cr_sortedT (hc : X.calm = true) : CallR X (.builtin "sorted") (rSortedT X.w) := by
  intro pins s σ H vs us Q I r h
  obtain ⟨a, S, n, rfl, ha, h64, q⟩ := h
  rw [Vals.ref1 r]
  refine sorted_txts (I.hok a _ ha).1 (I.ok.hd hc) h64 fun s' p out c ys k g o hp hg hi hs nd hm hl => ?_
  have nw : H p = none := I.hok.fresh hp
  have le : (ys.map V.str).length ≤ sizeLine := by rw [List.length_map, hl, sizeLine_eq]; omega
  have J : Inv X pins σ (upd H p (.lst (ys.map V.str))) { s with heap := s'.heap, gens := s'.gens, drawn := s'.drawn, toks := s'.toks } :=
    I.call (ch := []) (Un.laid k hp nw) (I.hok.laid k hp ⟨le, out.toList, c, vals_of_strs hi, hg⟩) (by rw [g]; exact I.bare) (fun _ z => nomatch z)
  have e : s' = { s with heap := s'.heap, gens := s'.gens, drawn := s'.drawn, toks := s'.toks } := by
    obtain ⟨_, _, _, _, _⟩ := s; obtain ⟨_, _, _, _, _⟩ := s'; cases o; rfl
  rw [e]
  exact ⟨.ref p, _, J, rfl, q ys p hs nd hm hl nw⟩
/-! ### {elt for target in iter if ..}, elt a text -/
def TurnT (w : World) (g : TG) (tt : TT) (te : TE) (vs : List Nat) (σ : L2.St) (D : Addr) (Nx : Hp → Prop) (x : V) (H' : Hp) : Prop := g x (wipe σ vs) H' fun σ2 H2 => wipe σ2 vs = wipe σ vs ∧ tt σ2 H2 fun b H3 =>
  if b = true then te σ2 H3 fun y H4 => ∃ (c : Str) (S : Str → Bool) (n : Nat), y = .str c ∧ H4 D = some (TxtO w D S n) ∧ n + 1 < scanBound ∧ Nx (upd H4 D (TxtO w D (fun j => S j || decide (j = c)) (if S c = true then n else n + 1))) else Nx H3
def ScW (w : World) (g : TG) (tt : TT) (te : TE) (vs : List Nat) (σ : L2.St) (Q : VK) (J : It) (H1 : Hp) : Prop := ∀ D, H1 D = none → ∃ W : Nat → Nat → Hp → Prop, (∃ m, W 0 m (upd H1 D (TxtO w D (fun _ => false) 0))) ∧ ∀ i m H, W i m H →
  (J.stop i H ∧ Q (.ref D) H) ∨ (J.go i H ∧ ∃ Nx : Hp → Prop, (∀ H', Nx H' → ∃ m', m' < m ∧ W (i + 1) m' H') ∧ ∀ x H', J.yld i H x H' → TurnT w g tt te vs σ D Nx x H')
def tScT (w : World) (wi : TI) (g : TG) (tt : TT) (te : TE) (vs : List Nat) : TE := fun σ H Q => wi σ H fun J H1 => ScW w g tt te vs σ Q J H1
theorem sc_run {pins : List (Addr × Obj)} {s : Shared} {σ : L2.St} {H : Hp} {Q : VK} {elt tg iter : Expr} {ifs : List Expr} {scope : Scope} {own : List (PySem.Str × Nat)} {pos pos' : Pos} {wi : TI} {g : TG} {tt : TT} {te : TE} {use : Option (Value → Sem Unit)} {Qf : Value → Shared → Prop}
    (hc : X.calm = true) (hN : X.N.Nodup) (I : Inv X pins σ H s) (hi : PI X tg iter wi) (ok : BlkOk X.N X.env.scope scope own)
    (hg : ∀ (s : Shared) (H : Hp) (C : Addr) (cl : List (PySem.Str × Addr)) (fp : List Addr), PG (X.blk s H scope (compEnvC scope cl C X.env) fp) tg g)
    (ht : ∀ (s : Shared) (H : Hp) (C : Addr) (cl : List (PySem.Str × Addr)) (fp : List Addr), PTs (X.blk s H scope (compEnvC scope cl C X.env) fp) ifs tt)
    (he : ∀ (s : Shared) (H : Hp) (C : Addr) (cl : List (PySem.Str × Addr)) (fp : List Addr), PE (X.blk s H scope (compEnvC scope cl C X.env) fp) elt te)
    (hs : ∀ x, foldedSetIterable iter X.env x = pure x) (h : tScT X.w wi g tt te (own.map (·.2)) σ H Q)
    (hRR : ∀ D C s' m H', Inv X pins σ H' s' → Q (.ref D) H' → s'.heap.Ns C m → FpOk X pins H' C → compPost (model X.prog X.w) X.A X.xe use Qf (.ref D) C (.ok .next) s') :
    wpAny (model X.prog X.w) X.A (comprehension (.SetComp elt [⟨tg, iter, ifs, 0⟩] scope pos) scope X.env pos' (newSet (.type "set")) false (eval iter X.env) use) Qf X.xe s := by
  have frees : ∀ y ∈ scope.names, y.2 = .free → ∃ c, X.env.cells.lookup y.1 = some c := fun y hy e => (ok.free y hy e).elim (fun k => I.ok.has _ (.inl k)) fun k => I.ok.has _ (.inr k)
  refine wpAny_comprehension_free (use := use) rfl hs (closure_ok frees) ok.kind (fun y hy e => by rw [ok.uniq y hy, e]) (thn (hi.run pins s σ H _ I h) fun xv s1 hx => thn hx fun itv s2 h2 => ?_)
  obtain ⟨it, fp, tn, J, H2, rfl, I2, T, st2, f2, q⟩ := h2
  refine PpSet.newSet_ok (newEnv_comp ?_)
  generalize hD : s2.heap.objs.size = D
  have hDn : H2 D = none := I2.hok.fresh (Nat.le_of_eq hD)
  obtain ⟨W, ⟨m0, w0⟩, turn⟩ := q D hDn
  generalize hs3 : ({ s2 with heap := s2.heap.push { cls := .type "set", dict := none, data := .set #[] 0 (.fresh 0 0 (!X.w.params.followText "set-order")) } } : Shared) = s3
  have h3 : s3.heap = s2.heap.push { cls := .type "set", dict := none, data := .set #[] 0 (.fresh 0 0 (!X.w.params.followText "set-order")) } := by rw [← hs3]
  have I3 : Inv X pins σ (upd H2 D (TxtO X.w D (fun _ => false) 0)) s3 := by
    rw [← hs3]; refine I2.laid (t' := s2.toks) (fun b o e => Heap.get?_push_of_some _ e) (Nat.le_of_eq hD) ?_
    rw [← hD]; exact txt_new (txt_fresh X.w)
  have below : ∀ b ∈ fp, b < s2.heap.objs.size := fun b hb => by
    obtain ⟨o, e, _⟩ := T.obj _ _ st2 b hb
    exact Heap.lt_size e
  have f3 : ∀ b ∈ fp, FpOk X pins (upd H2 D (TxtO X.w D (fun _ => false) 0)) b ∧ b < s3.heap.objs.size := fun b hb => by
    refine ⟨⟨?_, (f2 b hb).2⟩, by rw [h3, Heap.size_push]; exact Nat.lt_succ_of_lt (below b hb)⟩
    rw [upd_ne (hD ▸ Nat.ne_of_lt (below b hb))]; exact (f2 b hb).1
  have st3 : tn 0 s3.heap := T.keep _ _ _ st2 fun b _ o e => h3 ▸ Heap.get?_push_of_some _ e
  have I4 := block_start I3 ok hN f3
  generalize hcl : cellsFrom (s3.heap.objs.size + 1) scope.names (cloFrom X.env.cells scope.names []) = cl at I4
  have pg := hg s3 (upd H2 D (TxtO X.w D (fun _ => false) 0)) s3.heap.objs.size cl fp
  have pt := ht s3 (upd H2 D (TxtO X.w D (fun _ => false) 0)) s3.heap.objs.size cl fp
  have pe := he s3 (upd H2 D (TxtO X.w D (fun _ => false) 0)) s3.heap.objs.size cl fp
  show codeAny _ _ (.compStart (.SetComp elt [⟨tg, iter, ifs, 0⟩] scope pos) 0 (.ref it) (.ref D) (compEnvC scope cl s3.heap.objs.size X.env)) (compPost (model X.prog X.w) X.A X.xe use Qf (.ref D) s3.heap.objs.size) { s3 with heap := pushCells (s3.heap.push { cls := .type "dict", data := .dict #[] }) scope.names }
  have nfp : ∀ b ∈ fp, (upd H2 D (TxtO X.w D (fun _ => false) 0)) b = none := fun b hb => (f3 b hb).1.1
  generalize hce : compEnvC scope cl s3.heap.objs.size X.env = ce at I4 pg pt pe ⊢
  have cL : ce.locals = s3.heap.objs.size := by rw [← hce]; rfl
  generalize hH3 : upd H2 D (TxtO X.w D (fun _ => false) 0) = H3 at I3 I4 pg pt pe w0 nfp f3
  generalize hs4 : ({ s3 with heap := pushCells (s3.heap.push { cls := .type "dict", data := .dict #[] }) scope.names } : Shared) = s4 at I4 ⊢
  have st4 : tn 0 s4.heap := T.keep _ _ _ st3 fun b _ o e => hs4 ▸ pushCells_keeps _ _ _ _ (Heap.get?_push_of_some _ e)
  have stat : ∀ {τ : L2.St} {G : Hp} {z : Shared}, Inv (X.blk s3 H3 scope ce fp) [] τ G z → (∀ b ∈ fp, G b = none) → ∀ b ∈ fp, FpOk (X.blk s3 H3 scope ce fp) [] G b := fun {τ G z} J hn b hb =>
    ⟨hn b hb, (J.ok.exf b hb).1, J.ok.exfs b hb, .inl hb, fun x c e => (J.ok.exf b hb).2 x c e, fun p hp => absurd (show p ∈ ([] : List (Addr × Obj)) ++ [] from hp) (by simp)⟩
  have loop : codeAny (model X.prog X.w) X.A (.compLoop (.SetComp elt [⟨tg, iter, ifs, 0⟩] scope pos) 0 (.ref it) (.ref D) ce) (compPost (model X.prog X.w) X.A X.xe use Qf (.ref D) s3.heap.objs.size) s4 := by
    refine PpSet.compLoopS_any (fun n z => ∃ i G, Inv (X.blk s3 H3 scope ce fp) [] (wipe σ (own.map (·.2))) G z ∧ tn i z.heap ∧ (∀ b ∈ fp, G b = none) ∧ W i n G) ?_ m0 ⟨0, H3, I4, st4, nfp, w0⟩
    rintro n s5 ⟨i, H5, I5, st5, n5, w5⟩
    rcases turn i n H5 w5 with ⟨stop, qq⟩ | ⟨go, Nx, hNx, step⟩
    · refine thnF (T.done (X.blk s3 H3 scope ce fp) rfl rfl rfl hc i [] s5 _ H5 (fun _ _ => False) I5 (stat I5 n5) st5 stop) fun r s6 ⟨hr, I6⟩ => ?_
      subst hr
      have I7 : Inv X pins σ H5 s6 := I3.call' (ch := fp) I6.os I6.base I6.hok I6.bare fun b hb => ⟨(f3 b hb).1.2.2.2.1, (f3 b hb).1.2.1, (f3 b hb).1.2.2.2.2.1, (f3 b hb).1.2.2.2.2.2⟩
      have nC : H5 s3.heap.objs.size = none := cL ▸ (show H5 ce.locals = none from I6.free)
      obtain ⟨m, hn, _⟩ := I6.loc
      have hn : s6.heap.Ns ce.locals m := hn
      exact hRR D s3.heap.objs.size s6 m H5 I7 qq (cL ▸ hn) (I3.fpOk (Nat.le_refl _) nC)
    · refine thnF (T.item (X.blk s3 H3 scope ce fp) rfl rfl rfl hc i [] s5 _ H5 (fun _ _ => False) I5 (stat I5 n5) st5 go) fun r s6 ⟨u, hr, h6⟩ => ?_
      subst hr
      refine thnF h6 fun _ s7 ⟨x, H7, I7, r7, y7, st7, n7⟩ => ?_
      refine thnF (pg.run _ s7 _ H7 x u _ (I7.pinned (stat I7 n7) (T.obj _ _ st7)) r7 (step x H7 y7)) fun _ s8 ⟨σ8, H8, I8, hw8, q8⟩ => thnF (pt.run _ s8 σ8 H8 _ I8 q8) fun b s9 ⟨H9, I9, q9⟩ => ?_
      have fin : ∀ {z : Shared} {G : Hp}, Inv (X.blk s3 H3 scope ce fp) ([] ++ pinsAt fp s7.heap) σ8 G z → Nx G → ∃ m, m < n ∧ ∃ i G, Inv (X.blk s3 H3 scope ce fp) [] (wipe σ (own.map (·.2))) G z ∧ tn i z.heap ∧ (∀ b ∈ fp, G b = none) ∧ W i m G := fun {z G} I' nx => by
        obtain ⟨m', hm, w'⟩ := hNx G nx
        have pin : ∀ b ∈ fp, ∀ o, s7.heap.get? b = some o → z.heap.get? b = some o ∧ G b = none := fun b hb o e =>
          have y := I'.pin (b, o) (List.mem_append_right _ (List.mem_append_right _ (mem_pinsAt hb e)))
          ⟨y.1, y.2.1⟩
        refine ⟨m', hm, i + 1, G, (I'.unpinned (pins := [])).weak (by rw [← hw8, wipe_length]) (fun j v e => (wipe_some (hw8 ▸ e)).1), T.keep _ _ _ st7 fun b hb o e => (pin b hb o e).1, fun b hb => ?_, w'⟩
        obtain ⟨o, e, _⟩ := T.obj _ _ st7 b hb
        exact (pin b hb o e).2
      cases b with
      | false => exact fin I9 q9
      | true =>
        simp only [if_true] at q9 ⊢
        refine thnF (pe.run _ s9 σ8 H9 _ I9 q9) fun z s10 ⟨yv, H10, I10, r10, cb, S0, n0, ey, hD10, hz10, nx⟩ => ?_
        subst ey
        obtain ⟨tk, rfl⟩ := (show ∃ tk, z = Value.str cb tk from r10)
        exact add_ok (X := X.blk s3 H3 scope ce fp) I10 hD10 hz10 fun s11 I11 => fin I11 nx
  exact PpSet.codeAny_compStart_set loop (T.self X.A 0 _ _ _ st4 loop)
theorem pe_scT {elt tg iter : Expr} {ifs : List Expr} {scope : Scope} {own : List (PySem.Str × Nat)} {pos : Pos} {wi : TI} {g : TG} {tt : TT} {te : TE} (hc : X.calm = true) (hN : X.N.Nodup) (hi : PI X tg iter wi) (ok : BlkOk X.N X.env.scope scope own)
    (hg : ∀ (s : Shared) (H : Hp) (C : Addr) (cl : List (PySem.Str × Addr)) (fp : List Addr), PG (X.blk s H scope (compEnvC scope cl C X.env) fp) tg g)
    (ht : ∀ (s : Shared) (H : Hp) (C : Addr) (cl : List (PySem.Str × Addr)) (fp : List Addr), PTs (X.blk s H scope (compEnvC scope cl C X.env) fp) ifs tt)
    (he : ∀ (s : Shared) (H : Hp) (C : Addr) (cl : List (PySem.Str × Addr)) (fp : List Addr), PE (X.blk s H scope (compEnvC scope cl C X.env) fp) elt te)
    (hs : ∀ x, foldedSetIterable iter X.env x = pure x := by intro _; rfl) : PE X (.SetComp elt [⟨tg, iter, ifs, 0⟩] scope pos) (tScT X.w wi g tt te (own.map (·.2))) := by
  refine ⟨fun pins s σ H Q I h => ?_⟩
  rw [PpSet.eval_SetComp]
  refine sc_run hc hN I hi ok hg ht he hs h fun D C s' m H' I' q hn f => ⟨m, hn, fun h'' sb => ?_⟩
  obtain ⟨f0, f1, f2, f3, f4, f5⟩ := f
  exact ⟨.ref D, H', I'.turned (t' := s'.toks) (fun b o hb e => (sb.2 b hb).trans e) f0 f1 f3 f4 f5, rfl, q⟩
end
/-- over a list that stands -/
theorem sc_list {w : World} {K : PySem.W.Frag} {a : Addr} {xs : List V} {g : TG} {tt : TT} {te : TE} {vs : List Nat} {σ : L2.St} {H1 : Hp} {Q : VK} (Pv : Addr → Nat → Hp → Prop) (h0 : ∀ D, H1 D = none → Pv D 0 (upd H1 D (TxtO w D (fun _ => false) 0)))
    (hl : ∀ D i H, H1 D = none → i ≤ xs.length → Pv D i H → SqL K H a xs) (hs : ∀ D i x H, H1 D = none → xs[i]? = some x → Pv D i H → TurnT w g tt te vs σ D (Pv D (i + 1)) x H) (hd : ∀ D H, H1 D = none → Pv D xs.length H → Q (.ref D) H) : ScW w g tt te vs σ Q (Itl K a) H1 := by
  intro D hD
  refine ⟨fun i m H => m = xs.length - i ∧ i ≤ xs.length ∧ Pv D i H, ⟨_, rfl, Nat.zero_le _, h0 D hD⟩, ?_⟩
  rintro i m H ⟨rfl, hi, p⟩
  have q := hl D i H hD hi p
  rcases Nat.lt_or_ge i xs.length with lt | ge
  · refine .inr ⟨⟨xs, xs[i], q, by simp [lt]⟩, Pv D (i + 1), fun H' p' => ⟨xs.length - (i + 1), by omega, rfl, lt, p'⟩, fun x H' y => ?_⟩
    obtain ⟨rfl, y⟩ := y
    exact hs D i x _ hD (y xs q) p
  · have e : i = xs.length := Nat.le_antisymm hi ge
    exact .inl ⟨⟨xs, q, ge⟩, hd D H hD (e ▸ p)⟩
end Mz

namespace K2
open PySem PySem.Spec PyProof.Rows L2 Mc Mx
/-! names that a system does not have -/
theorem ix_tupK {X : Cx} {K : PySem.W.Frag} (hK : X.K = K) : IxR X (rIxT K) := hK ▸ ix_tup
theorem g_scE {w : World} {wi : TI} {g : TG} {tt : TT} {te : TE} {vs : List Nat} {σ : L2.St} {H : Hp} {Q : VK} (q : wi σ H fun J H1 => Mz.ScW w g tt te vs σ Q J H1) : Mz.tScT w wi g tt te vs σ H Q := q
section
variable {P : Program} {w : World} {K : PySem.W.Frag} {mg : Str → Option Value} {base : Heap} {C CS CI CU CT CPo CSv : Addr}
local macro_rules | `(tactic| walk_at "rd1") => `(tactic| first
  | with_reducible refine g_seq ?_
  | with_reducible refine g_asg ?_
  | with_reducible refine g_name ?_
  | with_reducible refine g_c ?_
  | with_reducible refine g_op ?_
  | with_reducible refine g_ifS ?_
  | with_reducible refine g_if ?_
  | with_reducible refine g_test ?_
  | with_reducible refine g_B ?_
  | with_reducible refine g_bl ?_
  | with_reducible refine g_blV ?_
  | with_reducible refine g_not ?_
  | with_reducible refine g_and ?_
  | with_reducible refine g_or ?_
  | with_reducible refine g_notV ?_
  | with_reducible refine g_andV ?_
  | with_reducible refine g_orV ?_
  | with_reducible refine g_ret ?_
  | with_reducible refine g_drop ?_
  | with_reducible refine g_next ?_
  | with_reducible refine g_retN ?_
  | with_reducible refine g_call ?_
  | with_reducible refine g_cb ?_
  | with_reducible refine g_cons ?_
  | with_reducible refine g_nil ?_
  | with_reducible refine g_tup ?_
  | with_reducible refine g_lst ?_
  | with_reducible refine g_prop ?_
  | with_reducible refine g_fld ?_
  | with_reducible refine g_meth ?_
  | with_reducible refine g_chain ?_
  | with_reducible refine g_yes ?_
  | with_reducible refine g_make ?_
  | with_reducible refine g_makeK ?_
  | with_reducible refine g_gsub ?_
  | with_reducible refine g_sfld ?_
  | with_reducible refine g_un ?_
  | with_reducible refine g_bm ?_
  | with_reducible refine g_iteT ?_
  | with_reducible refine g_iteF ?_
  | with_reducible refine g_I0 ?_
  | with_reducible refine g_add ?_
  | with_reducible refine g_sub ?_
  | ((with_reducible refine' g_var ?hv ?_); (case hv => rfl))
  | ((with_reducible refine g_eq ?hv ?_); (case hv => rfl))
  | ((with_reducible refine g_ne ?hv ?_); (case hv => rfl)))
local macro_rules | `(tactic| walk_at "rd") => `(tactic| repeat (walk_at "rd1"))

local macro_rules | `(tactic| walk_at "ty") => `(tactic| first | exact .non | exact .bl _ | exact .int _ | exact .str _ | exact .lst (by assumption) | exact .tup (by assumption) | exact .dK (by assumption) | exact .kTup (by assumption) (by assumption))
local macro_rules | `(tactic| walk_at "isiF") => `(tactic| refine g_isi (by walk_at "ty") (b := false) (by decide +kernel) ?_)
local macro_rules | `(tactic| walk_at "isiT") => `(tactic| refine g_isi (by walk_at "ty") (b := true) (by decide +kernel) ?_)

/-- a value that names no service -/
def spNoName (K : PySem.W.Frag) (C CS CU : Addr) (m : Nat) : Sp := fun vs H _ E => ∃ (s : Addr) (ps : Ps) (rs : List Rw) (v : V) (n : String) (us : List V), vs = .ref s :: v :: us ∧ us.length = m ∧ SysAt K C CS H s ps rs ∧ Mc.TyB K H v n ∧ hasR rs v = false ∧ ErV CU "value" H E v
theorem ok_getitemE {f fc fU : Addr} {fd fdc fdU : FuncData} (F : Fun K "__getitem__" "System.__getitem__" s_Systemgetitem f fd) (T : Txt K mg) (TS : STx K CS) (SC : SysC P w K mg base C CS fc fdc)
    (TU : SupCB "LookupError" "LookupError.__new__" "LookupError.__init__" tlLE P K mg CU) (EU : ExK P w K mg base "UnknownName" CU fU fdU ["self", "value"] (spEx CU "value")) : FnOk P w K mg base (CX P w) 4 f fd ["self", "at"] (spNoName K C CS CU 0) := by
  refine F.okX sc_Systemgetitem (fun vs H Q E h => ?_) (fun cdv A outer st H vs Q E hr h => ?_)
  · obtain ⟨s, ps, rs, v, n, us, rfl, hu, _⟩ := h
    simp [hu]
  · obtain ⟨s, ps, rs, v, n, us, rfl, hu, sy, ty, no, er⟩ := h
    obtain rfl := List.eq_nil_of_length_eq_zero hu
    obtain ⟨dx, dp, db, ds, h1, h2, h3, h4⟩ := sy.at_
    refine ⟨_, (pss_cons (ps_if (pt_cmpR (op_notInO SC.ok SC.sp SC.b pass0 (hr.mono (by decide))) (pv 1) (pv 0) (by rfl)) (pss_one (ps_raise rfl (takes_of rfl rfl rfl rfl) (pmk_oexB base_LE TU.ox EU.iC EU.tI EU.ok (hr.mono (by decide)) EU.bi .nil pass0 (by rfl) EU.gl (pa_cons (pv 1) pa_nil)))) pss_nil)
      (pss_one (ps_ret (pe_dget (Nat.lt_of_le_of_lt (Nat.add_le_add_left (by decide : 1 ≤ 64) _) hr.units) (pe_fld (pv 0) rfl) (pv 1) (fun _ _ => rfl))))), ?_⟩
    walk_at "rd"
    refine ⟨s, dx, _, rfl, h1, s, ps, rs, v, n, rfl, sy, ty, false, ?_, ?_⟩
    · show V.bl (hasR rs v) = _
      rw [no]
    walk_at "rd"
    show (if true = true then _ else _)
    walk_at "rd"
    refine g_mko ?_
    walk_at "rd"
    exact erv_as (Same.refl _) er
theorem ok_spanE {f fc fU : Addr} {fd fdc fdU : FuncData} (F : Fun K "span" "System.span" s_System_span f fd) (T : Txt K mg) (TS : STx K CS) (SC : SysC P w K mg base C CS fc fdc)
    (TU : SupCB "LookupError" "LookupError.__new__" "LookupError.__init__" tlLE P K mg CU) (EU : ExK P w K mg base "UnknownName" CU fU fdU ["self", "value"] (spEx CU "value")) : FnOk P w K mg base (CX P w) 4 f fd ["self", "name"] (spNoName K C CS CU 0) := by
  refine F.okX sc_System_span (fun vs H Q E h => ?_) (fun cdv A outer st H vs Q E hr h => ?_)
  · obtain ⟨s, ps, rs, v, n, us, rfl, hu, _⟩ := h
    simp [hu]
  · obtain ⟨s, ps, rs, v, n, us, rfl, hu, sy, ty, no, er⟩ := h
    obtain rfl := List.eq_nil_of_length_eq_zero hu
    obtain ⟨dx, dp, db, ds, h1, h2, h3, h4⟩ := sy.at_
    refine ⟨_, (pss_cons (ps_if (pt_cmpR (op_notInO SC.ok SC.sp SC.b pass0 (hr.mono (by decide))) (pv 1) (pv 0) (by rfl)) (pss_one (ps_raise rfl (takes_of rfl rfl rfl rfl) (pmk_oexB base_LE TU.ox EU.iC EU.tI EU.ok (hr.mono (by decide)) EU.bi .nil pass0 (by rfl) EU.gl (pa_cons (pv 1) pa_nil)))) pss_nil)
      (pss_one (ps_ret (pe_dget (Nat.lt_of_le_of_lt (Nat.add_le_add_left (by decide : 1 ≤ 64) _) hr.units) (pe_fld (pv 0) rfl) (pv 1) (fun _ _ => rfl))))), ?_⟩
    walk_at "rd"
    refine ⟨s, dx, _, rfl, h1, s, ps, rs, v, n, rfl, sy, ty, false, ?_, ?_⟩
    · show V.bl (hasR rs v) = _
      rw [no]
    walk_at "rd"
    show (if true = true then _ else _)
    walk_at "rd"
    refine g_mko ?_
    walk_at "rd"
    exact erv_as (Same.refl _) er
theorem ok_calleesE {f fg : Addr} {fd fdg : FuncData} (F : Fun K "callees" "System.callees" s_System_callees f fd) (T : Txt K mg) (OG : OwnSp K CS "__getitem__" fg) (fnG : PySem.W.fnIn K fg = true) (bG : Binds K fdg ["self", "at"] []) (GE : FnOk P w K mg base (CX P w) 4 fg fdg ["self", "at"] (spNoName K C CS CU 0))
    (c_calls_in_order : Cal P w K mg base 5 "calls_in_order" (spCalls K)) : FnOk P w K mg base (CX P w) 6 f fd ["self", "name"] (spNoName K C CS CU 0) := by
  refine F.okX sc_System_callees (fun vs H Q E h => ?_) (fun cdv A outer st H vs Q E hr h => ?_)
  · obtain ⟨s, ps, rs, v, n, us, rfl, hu, _⟩ := h
    simp [hu]
  · obtain ⟨s, ps, rs, v, n, us, rfl, hu, sy, ty, no, er⟩ := h
    obtain rfl := List.eq_nil_of_length_eq_zero hu
    obtain ⟨dx, dp, db, ds, h1, h2, h3, h4⟩ := sy.at_
    refine ⟨_, (pss_one (ps_ret (pe_callB (Mz.cr_sortedT rfl) (by rfl) T.n_sorted (by decide +kernel) (pa_cons (Mz.pe_scT (own := [("part", 2)]) (g := gName 2) (by rfl) sc_System_callees.nd (pi_list (pe_f c_calls_in_order hr (by decide) (by rfl) (pa_cons (pe_ixO (E := E) GE OG fnG bG (passes_call (takes_of rfl rfl rfl rfl) (fun _ _ _ _ h => h)) (hr.mono (by decide)) (pv 0) (pv 1)) pa_nil))) (blkOk_by (own := [("part", 2)]) (N := N_System_callees) (sc := defScope s_System_callees) (by decide +kernel)) (fun _ _ _ _ _ => pg_name (i := 2) sc_System_callees.nd rfl (Or.inl rfl)) (fun _ _ _ _ _ => pts_nil) (fun _ _ _ _ _ => (pe_ix (ix_tupK (K := K) rfl) (pv 2) pe_int (fun _ _ => rfl)))) pa_nil)))), ?_⟩
    refine g_ret ?_
    walk_at "rd"
    refine g_scE (g_ilist ?_)
    walk_at "rd"
    exact ⟨s, dx, _, rfl, h1, s, ps, rs, v, n, [], rfl, rfl, sy, ty, no, er⟩
theorem ok_with_blockE {f fS fc fU : Addr} {fd fdS fdc fdU : FuncData} (F : Fun K "with_block" "System.with_block" s_System_with_block f fd) (T : Txt K mg) (S : MkS P w K mg base C CS CI CU CT fS fdS) (SC : SysC P w K mg base C CS fc fdc)
    (TU : SupCB "LookupError" "LookupError.__new__" "LookupError.__init__" tlLE P K mg CU) (EU : ExK P w K mg base "UnknownName" CU fU fdU ["self", "value"] (spEx CU "value")) : FnOk P w K mg base (CX P w) 12 f fd ["self", "name", "block"] (spNoName K C CS CU 1) := by
  obtain ⟨MS, GS, gS, bS, TS⟩ := S
  refine F.okX sc_System_with_block (fun vs H Q E h => ?_) (fun cdv A outer st H vs Q E hr h => ?_)
  · obtain ⟨s, ps, rs, v, n, us, rfl, hu, _⟩ := h
    simp [hu]
  · obtain ⟨s, ps, rs, v, n, us, rfl, hu, sy, ty, no, er⟩ := h
    obtain ⟨u, rfl⟩ : ∃ u, us = [u] := by
      match us, hu with
      | [u], _ => exact ⟨u, rfl⟩
    obtain ⟨dx, dp, db, ds, h1, h2, h3, h4⟩ := sy.at_
    have hrS := hr
    refine ⟨_, (pss_cons (ps_if (pt_cmpR (op_notInO SC.ok SC.sp SC.b pass0 (hr.mono (by decide))) (pv 1) (pv 0) (by rfl)) (pss_one (ps_raise rfl (takes_of rfl rfl rfl rfl) (pmk_oexB base_LE TU.ox EU.iC EU.tI EU.ok (hr.mono (by decide)) EU.bi .nil pass0 (by rfl) EU.gl (pa_cons (pv 1) pa_nil)))) pss_nil)
      (pss_cons (ps_lock (ps_setLc (i := 3) (own := [("other", 4)]) (g := gName 4) (by rfl) sc_System_with_block.nd rfl rfl (sw_true rfl rfl rfl (by decide +kernel)) (pi_keys (pe_fldK (K := K) rfl (pv 0) rfl)) (blkOk_by (own := [("other", 4)]) (N := N_System_with_block) (sc := defScope s_System_with_block) (by decide +kernel)) (fun _ _ _ _ _ => pg_name (i := 4) sc_System_with_block.nd rfl (Or.inl rfl)) (fun _ _ _ _ _ => pts_nil) (fun _ _ _ _ _ => (pe_tup (pa_cons (pv 4) (pa_cons (pe_ifExp (pt_cmpR op_eq (pv 4) (pv 1) (nomark _)) (pv 2) (pe_dget (Nat.lt_of_le_of_lt (Nat.add_le_add_left (by decide : 1 ≤ 64) _) hr.units) (pe_fldK (K := K) rfl (pv 0) rfl) (pv 4) (fun _ _ => rfl))) pa_nil))))))
      (pss_one (ps_ret (pe_makeS MS GS hrS (by rfl) gS bS (fun σ => passAt (takes_of rfl rfl rfl rfl) σ) (pa_cons (pe_listVals rfl (pe_fld (pv 0) rfl) (by rfl) T.n_list (by decide +kernel)) (pa_cons (pv 3) pa_nil))))))), ?_⟩
    walk_at "rd"
    refine ⟨s, dx, _, rfl, h1, s, ps, rs, v, n, rfl, sy, ty, false, ?_, ?_⟩
    · show V.bl (hasR rs v) = _
      rw [no]
    walk_at "rd"
    show (if true = true then _ else _)
    walk_at "rd"
    refine g_mko ?_
    walk_at "rd"
    exact erv_as (Same.refl _) er
/-- a value that names no policy -/
def spNoPol (K : PySem.W.Frag) (C CS CU : Addr) : Sp := fun vs H _ E => ∃ (s : Addr) (ps : Ps) (rs : List Rw) (v : V) (n : String), vs = [.ref s, v] ∧ SysAt K C CS H s ps rs ∧ Mc.TyB K H v n ∧ (∀ z, v = .str z → hasP ps z = false) ∧ ErV CU "value" H E v
theorem ok_policyE {f fU : Addr} {fd fdU : FuncData} (F : Fun K "policy" "System.policy" s_System_policy f fd) (T : Txt K mg) (TS : STx K CS)
    (TU : SupCB "LookupError" "LookupError.__new__" "LookupError.__init__" tlLE P K mg CU) (EU : ExK P w K mg base "UnknownName" CU fU fdU ["self", "value"] (spEx CU "value")) : FnOk P w K mg base (CX P w) 4 f fd ["self", "name"] (spNoPol K C CS CU) := by
  refine F.okX sc_System_policy (fun vs H Q E h => ?_) (fun cdv A outer st H vs Q E hr h => ?_)
  · obtain ⟨s, ps, rs, v, n, rfl, _⟩ := h
    rfl
  · obtain ⟨s, ps, rs, v, n, rfl, sy, ty, no, er⟩ := h
    obtain ⟨dx, dp, db, ds, h1, h2, h3, h4⟩ := sy.at_
    refine ⟨_, (pss_cons (ps_if (PW.pt (pw_or (pt_not (pt_val (pe_callB call_isi (by rfl) T.n_isinstance (by decide +kernel) (pa_cons (pv 1) (pa_cons (pe_ty "str" (by rfl) T.n_str (by decide +kernel)) pa_nil))))) (pw_or1 (pt_cmp (pc_dnotin (Nat.lt_of_le_of_lt (Nat.add_le_add_left (by decide : 1 ≤ 64) _) hr.units) (pv 1) (pe_fld (pv 0) rfl)) (by rfl))))) (pss_one (ps_raise rfl (takes_of rfl rfl rfl rfl) (pmk_oexB base_LE TU.ox EU.iC EU.tI EU.ok (hr.mono (by decide)) EU.bi .nil pass0 (by rfl) EU.gl (pa_cons (pv 1) pa_nil)))) pss_nil)
      (pss_one (ps_ret (pe_dget (Nat.lt_of_le_of_lt (Nat.add_le_add_left (by decide : 1 ≤ 64) _) hr.units) (pe_fld (pv 0) rfl) (pv 1) (fun _ _ => rfl))))), ?_⟩
    walk_at "rd"
    refine g_isi ty (kb_str ty.mem) ?_
    walk_at "rd"
    rcases not_str ty with ⟨z, rfl, rfl⟩ | ⟨ns, nz⟩
    · show (if false = true then _ else _)
      walk_at "rd"
      refine g_dnotin ?_
      walk_at "rd"
      refine ⟨s, CS, dx, _, _, rfl, h1, TS.cl, TS.n1, slk1, ?_⟩
      refine ⟨dp, _, rfl, DGet.k (k := Sum.inr z) h2, ?_⟩
      rw [val_pol]
      have e : ((polOf ps z).map fun x => V.ref x.1).isSome = false := by
        have := no z rfl
        unfold hasP at this
        rw [Option.isSome_map]; exact this
      rw [e]
      walk_at "rd"
      show (if true = true then _ else _)
      walk_at "rd"
      refine g_mko ?_
      walk_at "rd"
      exact erv_as (Same.refl _) er
    · rw [ns]
      walk_at "rd"
      show (if true = true then _ else _)
      walk_at "rd"
      refine g_mko ?_
      walk_at "rd"
      exact erv_as (Same.refl _) er
end
end K2

namespace K2
open PySem PySem.Spec PyProof.Rows L2 Mc Mx
/-! other systems that are refused -/
section
variable {P : Program} {w : World} {K : PySem.W.Frag} {mg : Str → Option Value} {base : Heap} {C CS CI CU CT CPo CSv : Addr}
local macro_rules | `(tactic| walk_at "rd1") => `(tactic| first
  | with_reducible refine g_seq ?_
  | with_reducible refine g_asg ?_
  | with_reducible refine g_name ?_
  | with_reducible refine g_c ?_
  | with_reducible refine g_op ?_
  | with_reducible refine g_ifS ?_
  | with_reducible refine g_if ?_
  | with_reducible refine g_test ?_
  | with_reducible refine g_B ?_
  | with_reducible refine g_bl ?_
  | with_reducible refine g_blV ?_
  | with_reducible refine g_not ?_
  | with_reducible refine g_and ?_
  | with_reducible refine g_or ?_
  | with_reducible refine g_notV ?_
  | with_reducible refine g_andV ?_
  | with_reducible refine g_orV ?_
  | with_reducible refine g_ret ?_
  | with_reducible refine g_drop ?_
  | with_reducible refine g_next ?_
  | with_reducible refine g_retN ?_
  | with_reducible refine g_call ?_
  | with_reducible refine g_cb ?_
  | with_reducible refine g_cons ?_
  | with_reducible refine g_nil ?_
  | with_reducible refine g_tup ?_
  | with_reducible refine g_lst ?_
  | with_reducible refine g_prop ?_
  | with_reducible refine g_fld ?_
  | with_reducible refine g_meth ?_
  | with_reducible refine g_chain ?_
  | with_reducible refine g_yes ?_
  | with_reducible refine g_make ?_
  | with_reducible refine g_makeK ?_
  | with_reducible refine g_gsub ?_
  | with_reducible refine g_sfld ?_
  | with_reducible refine g_un ?_
  | with_reducible refine g_bm ?_
  | with_reducible refine g_iteT ?_
  | with_reducible refine g_iteF ?_
  | with_reducible refine g_I0 ?_
  | with_reducible refine g_add ?_
  | with_reducible refine g_sub ?_
  | ((with_reducible refine' g_var ?hv ?_); (case hv => rfl))
  | ((with_reducible refine g_eq ?hv ?_); (case hv => rfl))
  | ((with_reducible refine g_ne ?hv ?_); (case hv => rfl)))
local macro_rules | `(tactic| walk_at "rd") => `(tactic| repeat (walk_at "rd1"))

local macro_rules | `(tactic| walk_at "ty") => `(tactic| first | exact .non | exact .bl _ | exact .int _ | exact .str _ | exact .lst (by assumption) | exact .tup (by assumption) | exact .dK (by assumption) | exact .kTup (by assumption) (by assumption))
local macro_rules | `(tactic| walk_at "isiF") => `(tactic| refine g_isi (by walk_at "ty") (b := false) (by decide +kernel) ?_)
local macro_rules | `(tactic| walk_at "isiT") => `(tactic| refine g_isi (by walk_at "ty") (b := true) (by decide +kernel) ?_)

def spWithPolicyE (K : PySem.W.Frag) (C CS CU CPo : Addr) : Sp := fun vs H _ E => ∃ (s : Addr) (ps : Ps) (rs : List Rw) (v : V), vs = [.ref s, v] ∧ SysAt K C CS H s ps rs ∧
  (((∃ m, Mc.TyB K H v m) ∧ ErV CPo "number" H E .non) ∨ ∃ (a : Addr) (q : Pol), v = .ref a ∧ PolAt K C H a q ∧ hasP ps q.z = false ∧ ErV CU "value" H E (.str q.z))
theorem ok_with_policyE {f fS fU fPo : Addr} {fd fdS fdU fdPo : FuncData} (F : Fun K "with_policy" "System.with_policy" s_System_with_policy f fd) (T : Txt K mg) (S : MkS P w K mg base C CS CI CU CT fS fdS) (pr_name : Prp P w K mg base 1 C "name" (getSp C "_name")) (TC : CTxt K C) (IC : ICls K C) (gP : mg "Policy" = some (.ref C)) (OF : Off K C)
    (m_rows : Mth P w K mg base 1 CS "_rows" (spRows K C CS)) (TPo : SupC P K mg CPo) (EPo : ExK P w K mg base "InvalidPolicies" CPo fPo fdPo ["self", "number"] (spEx CPo "number"))
    (TU : SupCB "LookupError" "LookupError.__new__" "LookupError.__init__" tlLE P K mg CU) (EU : ExK P w K mg base "UnknownName" CU fU fdU ["self", "value"] (spEx CU "value")) : FnOk P w K mg base (CX P w) 12 f fd ["self", "policy"] (spWithPolicyE K C CS CU CPo) := by
  obtain ⟨MS, GS, gS, bS, TS⟩ := S
  refine F.okX sc_System_with_policy (fun vs H Q E h => ?_) (fun cdv A outer st H vs Q E hr h => ?_)
  · obtain ⟨s, ps, rs, v, rfl, _⟩ := h
    rfl
  · obtain ⟨s, ps, rs, v, rfl, sy, h⟩ := h
    obtain ⟨dx, dp, db, ds, h1, h2, h3, h4⟩ := sy.at_
    have hrS := hr
    refine ⟨_, (pss_cons (ps_if (pt_not (pt_val (pe_callB call_isi (by rfl) T.n_isinstance (by decide +kernel) (pa_cons (pv 1) (pa_cons (pe_gx (v := .ref C) rfl ⟨_, gP, rfl⟩) pa_nil))))) (pss_one (ps_raise rfl (takes_of rfl rfl rfl rfl) (pmk_oex TPo.ox EPo.iC EPo.tI EPo.ok (hr.mono (by decide)) EPo.bi .nil pass0 (by rfl) EPo.gl (pa_cons pe_non pa_nil)))) pss_nil)
      (pss_cons (ps_if (pt_cmp (pc_dnotin (Nat.lt_of_le_of_lt (Nat.add_le_add_left (by decide : 1 ≤ 64) _) hr.units) (pe_pr pr_name hr (by decide) (pv 1)) (pe_fldK (K := K) rfl (pv 0) rfl)) (by rfl)) (pss_one (ps_raise rfl (takes_of rfl rfl rfl rfl) (pmk_oexB base_LE TU.ox EU.iC EU.tI EU.ok (hr.mono (by decide)) EU.bi .nil pass0 (by rfl) EU.gl (pa_cons (pe_pr pr_name hr (by decide) (pv 1)) pa_nil)))) pss_nil)
      (pss_cons (ps_lock (ps_setLc (i := 2) (own := [("name", 3)]) (g := gName 3) (by rfl) sc_System_with_policy.nd rfl rfl (sw_true rfl rfl rfl (by decide +kernel)) (pi_keys (pe_fldK (K := K) rfl (pv 0) rfl)) (blkOk_by (own := [("name", 3)]) (N := N_System_with_policy) (sc := defScope s_System_with_policy) (by decide +kernel)) (fun _ _ _ _ _ => pg_name (i := 3) sc_System_with_policy.nd rfl (Or.inl rfl)) (fun _ _ _ _ _ => pts_nil) (fun _ _ _ _ _ => (pe_ifExp (pt_cmpR op_eq (pv 3) (pe_pr pr_name hr (by decide) (pv 1)) (nomark _)) (pv 1) (pe_dget (Nat.lt_of_le_of_lt (Nat.add_le_add_left (by decide : 1 ≤ 64) _) hr.units) (pe_fldK (K := K) rfl (pv 0) rfl) (pv 3) (fun _ _ => rfl))))))
      (pss_one (ps_ret (pe_makeS MS GS hrS (by rfl) gS bS (fun σ => passAt (takes_of rfl rfl rfl rfl) σ) (pa_cons (pv 2) (pa_cons (pe_m0 m_rows hr (by decide) (pv 0)) pa_nil)))))))), ?_⟩
    rcases h with ⟨⟨m, ty⟩, er⟩ | ⟨a, q, rfl, ⟨dxa, pp, ga, hpa, tu⟩, hP, er⟩
    · walk_at "rd"
      refine ⟨v, _, _, _, false, rfl, .own _, ty.x, OF m (Mc.TyB.mem ty), ?_⟩
      walk_at "rd"
      show (if true = true then _ else _)
      walk_at "rd"
      refine g_mko ?_
      walk_at "rd"
      exact erv_as (Same.refl _) er
    · walk_at "rd"
      refine ⟨_, _, _, _, true, rfl, .own _, TyX.base (.ins hpa TC.cl IC.ha IC.hn IC.tk IC.hm), kit_same, ?_⟩
      walk_at "rd"
      show (if false = true then _ else _)
      walk_at "rd"
      refine g_dnotin ?_
      walk_at "rd"
      refine ⟨a, dxa, _, rfl, hpa, a, dxa, _, _, rfl, hpa, lk1, ?_⟩
      walk_at "rd"
      refine ⟨s, CS, dx, _, _, rfl, h1, TS.cl, TS.n1, slk1, ?_⟩
      refine ⟨dp, _, rfl, DGet.k (k := Sum.inr q.z) h2, ?_⟩
      rw [val_pol]
      have hno : ((polOf ps q.z).map fun x => V.ref x.1).isSome = false := by
        unfold hasP at hP
        rw [Option.isSome_map]; exact hP
      rw [hno]
      walk_at "rd"
      show (if true = true then _ else _)
      walk_at "rd"
      refine g_mko ?_
      walk_at "rd"
      refine ⟨a, dxa, _, rfl, hpa, a, dxa, _, _, rfl, hpa, lk1, ?_⟩
      walk_at "rd"
      exact erv_as (Same.refl _) er
def spWithServiceE (K : PySem.W.Frag) (C CS CSv : Addr) : Sp := fun vs H _ E => ∃ (s c : Addr) (z : Str) (ps : Ps) (rs : List Rw), vs = [.ref s, .str z, .ref c] ∧ SysAt K C CS H s ps rs ∧ rs.length < 6 ∧ z ∈ nmR rs ∧ isNm z = true ∧ Mc.TyB K H (.ref c) "tuple" ∧ ErV CSv "number" H E (.int (rs.length : Nat))
theorem ok_with_serviceE {f fS : Addr} {fd fdS : FuncData} (F : Fun K "with_service" "System.with_service" s_System_with_service f fd) (T : Txt K mg) (TS : STx K CS) (MS : Mk K CS fS) (GS : FnOk P w K mg base (CX P w) 10 fS fdS psS (spSysE2 K C CSv)) (gS : mg "System" = some (.ref CS)) (bS : Binds K fdS psS [])
    (m_rows : Mth P w K mg base 1 CS "_rows" (spRows K C CS)) : FnOk P w K mg base (CX P w) 12 f fd ["self", "name", "block"] (spWithServiceE K C CS CSv) := by
  refine F.okX sc_System_with_service (fun vs H Q E h => ?_) (fun cdv A outer st H vs Q E hr h => ?_)
  · obtain ⟨s, c, z, ps, rs, rfl, _⟩ := h
    rfl
  · obtain ⟨s, c, z, ps, rs, rfl, sy, hl6, hz, hn, tc, er⟩ := h
    obtain ⟨dx, dp, db, ds, h1, h2, h3, h4⟩ := sy.at_
    have hrS := hr
    refine ⟨_, (pss_one (ps_ret (pe_makeS MS GS hrS (by rfl) gS bS (fun σ => passAt (takes_of rfl rfl rfl rfl) σ) (pa_cons (pe_listVals rfl (pe_fld (pv 0) rfl) (by rfl) T.n_list (by decide +kernel)) (pa_cons (pe_op op_cat (pe_m0 m_rows hr (by decide) (pv 0)) (pe_lst (pa_cons (pe_tup (pa_cons (pv 1) (pa_cons (pv 2) pa_nil))) pa_nil))) pa_nil))))), ?_⟩
    walk_at "rd"
    refine g_makeS ?_
    walk_at "rd"
    refine g_lvals ?_
    walk_at "rd"
    refine ⟨s, CS, dx, _, _, rfl, h1, TS.cl, TS.n1, slk1, ?_⟩
    refine ⟨dp, _, rfl, h2, fun pl pl0 => ?_⟩
    have S1 := same_new (o := .lst ((PDk ps).map (·.2))) pl0
    have h1p : upd H pl (.lst ((PDk ps).map (·.2))) pl = some (.lst (rfP ps)) := by
      rw [upd_same]
      unfold PDk
      rw [List.map_map]; rfl
    generalize upd H pl (.lst ((PDk ps).map (·.2))) = H1 at S1 h1p ⊢
    walk_at "rd"
    refine ⟨s, dx, _, rfl, S1 _ _ h1, rfl, ?_⟩
    walk_at "rd"
    refine ⟨s, ps, rs, rfl, sy.ext S1, fun r rr H2 r0 fr2 S2 hr2 sv2 => ?_⟩
    walk_at "rd"
    refine tup_go ?hl fun t H3 t0 S3 ht => ?_
    case hl => exact Nat.le_of_ble_eq_true rfl
    walk_at "rd"
    refine lst_go ?hl fun l2 H4 l20 S4 hl2 => ?_
    case hl => exact Nat.le_of_ble_eq_true rfl
    have len := sv2.len
    refine ⟨r, l2, _, _, rfl, rfl, S4 _ _ (S3 _ _ hr2), hl2, sz_le (by rw [List.length_map]; show _ + 1 ≤ 1000; omega), fun p hp => ?_⟩
    walk_at "rd"
    have S5 := same_new (o := .lst (rr.map V.ref ++ [.ref t])) hp
    have h5 : upd H4 p (.lst (rr.map V.ref ++ [.ref t])) p = some (.lst (rr.map V.ref ++ [.ref t])) := upd_same
    generalize upd H4 p (.lst (rr.map V.ref ++ [.ref t])) = H5 at S5 h5 ⊢
    have S25 := Same.trans S2 (Same.trans S3 (Same.trans S4 S5))
    have S05 := Same.trans S1 S25
    have S35 := Same.trans S3 (Same.trans S4 S5)
    have ht5 := S5 _ _ (S4 _ _ ht)
    intro x' dx' nx nd ne
    refine ⟨.ref x', .ref p, _, pl, ps, H5, rfl, same_ins nx nd, .inl (S25 _ _ h1p), sy.pol.ext S05, sy.pl, sy.pn, .inr ⟨p, _, rr, rs, .ref t, rfl, .inl h5, ?_, ?_, ?_, sv2.ext S35, sy.rows.ext S05, sy.rn, .inr ⟨t, c, z, rfl, ⟨.tup ht5, SqT.of ht5⟩, K2.TyB.ext S05 tc, hn, hz⟩, rfl⟩, er.ext S05⟩
    · rw [List.length_append, List.length_map]; show _ + 1 ≤ 6; omega
    · rw [← len, ← List.length_map (f := V.ref) (as := rr)]
      exact List.getElem?_concat_length
    · rw [← len, ← List.length_map (f := V.ref) (as := rr)]
      exact List.take_left
end
end K2

namespace Mc
open PySem PySem.Spec PyProof.Rows L2
/-! the law run where it makes lambdas (tables of code objects) and shows containers (guards) -/
/-- one of the tables -/
def Tb (cs : List (Addr × Addr)) (b : Addr) : Prop := ∃ p ∈ cs, b = p.2
theorem law_runT {P : Program} {w : World} {K : PySem.W.Frag} {mg mb : Str → Option Value} {k : Nat} {fa a : Addr} {cs : List (Addr × Addr)} {fd : FuncData} {x : Str} {sp : Sp} {s1 : Shared} {vs : List Value} {ns : List Int}
    (inK : K.In s1.heap) (gl : s1.heap.Ns mainGlobals mg) (bl : s1.heap.Ns builtinsNs mb) (bb : ∀ y : Str, y ≠ "__name__" → mb y = bootBuiltins y) (nl : s1.heap.NoLimit) (ge : s1.gens = #[])
    (tb : ∀ p ∈ cs, s1.heap.get? p.2 = some { cls := .none, data := .fields #[] }) (tk : ∀ p ∈ cs, K.lookup p.2 = none) (tc : ∀ p ∈ cs, PySem.W.CodeHd s1.heap p.1 p.2)
    (bmo : ∃ (bm : Addr) (ob : Obj), mg "__builtins__" = some (.ref bm) ∧ bm ≠ builtinsNs ∧ s1.heap.get? bm = some ob ∧ ob.cls = .type "module" ∧ ob.dict = some builtinsNs ∧ ob.data = .plain)
    (obj : s1.heap.get? a = some { cls := .type "list", data := .seq vs.toArray }) (hIn : IntsAre vs ns) (len : ns.length ≤ sizeLine) (room : Room k callerA)
    (F : ∀ base : Heap, K.In base → base.Ns mainGlobals mg → (∀ p ∈ cs, LamX.TabB base mg p.1 p.2) → FnG P w K mg base CX0 k fa fd [x] sp) (bnd : ∀ (s : Shared) (u : Value), BindsTo s fd ⟨[u], []⟩ [(x, u)])
    (pr : ∀ H : Hp, (∀ p ∈ cs, H p.2 = some (.tbl #[])) → SqL K H a (ns.map V.int) → sp [.ref a] H (fun v _ => v = .bl true) E0) :
    codeAny (model P w) callerA (.call (.ref fa) ⟨[.ref a], []⟩) (fun r s' => r = .ok (.ret (.bool true)) ∧ OldK s1.heap s'.heap ∧ s'.os = s1.os ∧ AllBare s'.gens) s1 := by
  have rel := vals_ints hIn
  have lv := hIn.length
  have atT : ∀ {b : Addr}, Tb cs b → s1.heap.get? b = some { cls := .none, data := .fields #[] } := by
    rintro b ⟨p, hp, rfl⟩
    exact tb p hp
  have aT : ¬ Tb cs a := fun z => by
    have q := atT z
    rw [obj] at q
    exact Data.noConfusion (congrArg Obj.data (Option.some.inj q))
  have main : ∀ H : Hp, (∀ p ∈ cs, H p.2 = some (.tbl #[])) → (∀ b, H b = none ∨ Tb cs b ∨ ∃ o xs, H b = some (.frz o (.lst xs))) → SqL K H a (ns.map V.int) → HOk P w H s1.heap → (∀ b, H b ≠ none → b = a ∨ Tb cs b) → (H a ≠ none → K.lookup a = none) →
      codeAny (model P w) callerA (.call (.ref fa) ⟨[.ref a], []⟩) (fun r s' => r = .ok (.ret (.bool true)) ∧ OldK s1.heap s'.heap ∧ s'.os = s1.os ∧ AllBare s'.gens) s1 := by
    intro H tabs onl sq hok onlyA freeK
    -- what is no list and no empty record is not tracked
    have off : ∀ {b : Addr} {o : Obj}, s1.heap.get? b = some o → (∀ xs n, o.data = .seq xs n → False) → (o.data = .fields #[] → False) → H b = none := by
      intro b o e n1 n2
      rcases hq : H b with _ | u
      · rfl
      · rcases onlyA b (by rw [hq]; intro z; cases z) with eb | eb
        · rw [eb, obj] at e
          obtain rfl := Option.some.inj e
          exact (n1 _ _ rfl).elim
        · rw [atT eb] at e
          obtain rfl := Option.some.inj e
          exact (n2 rfl).elim
    have base : ∀ {b : Addr} {o : Obj}, s1.heap.get? b = some o → (∀ xs n, o.data = .seq xs n → False) → (o.data = .fields #[] → False) → (hidT s1.heap H).get? b = some o := fun e n1 n2 => hidT_get e (off e n1 n2)
    have keepNs : ∀ {b : Addr} {m : Str → Option Value}, s1.heap.Ns b m → (hidT s1.heap H).Ns b m := by
      rintro b m ⟨o, es, n, e, d, r⟩
      exact ⟨o, es, n, base e (fun _ _ z => by rw [d] at z; exact Data.noConfusion z) (fun z => by rw [d] at z; exact Data.noConfusion z), d, r⟩
    have inB : K.In (hidT s1.heap H) := by
      intro b o e
      refine hidT_get (inK b o e) ?_
      rcases hq : H b with _ | u
      · rfl
      · have nn : H b ≠ none := by rw [hq]; intro z; cases z
        rcases onlyA b nn with eb | ⟨p, hp, eb⟩
        · rw [eb] at nn e
          rw [freeK nn] at e
          cases e
        · rw [eb, tk p hp] at e
          cases e
    obtain ⟨mc, c1, c2⟩ := nl
    have md : Mod K mg (hidT s1.heap H) := ⟨inB, keepNs gl, ⟨mb, keepNs bl, bb⟩, ⟨mc, keepNs c1, c2⟩⟩
    have nsNe : ∀ {b c : Addr} {m : Str → Option Value} {o : Obj}, s1.heap.Ns b m → s1.heap.get? c = some o → (∀ es n, o.data = .dict es n → False) → c ≠ b := by
      rintro b c m o ⟨o', es, n, e, d, _⟩ hc nd rfl
      rw [hc] at e
      obtain rfl := Option.some.inj e
      exact nd _ _ d
    have TB : ∀ p ∈ cs, LamX.TabB (hidT s1.heap H) mg p.1 p.2 := by
      intro p hp
      obtain ⟨o, us, file, tf, flags, tg, inF, text, tt, e1, e2, e3, e4, rest⟩ := tc p hp
      refine ⟨⟨o, us, file, tf, flags, tg, inF, text, tt, base e1 (fun _ _ z => by rw [e3] at z; exact Data.noConfusion z) (fun z => ?_), e2, e3, e4, rest⟩, ?_, ?_⟩
      · rw [e3] at z
        obtain rfl : us = #[] := by injection z
        simp at e4
      · obtain ⟨bm, ob, b1, b2, b3, b4, b5, b6⟩ := bmo
        refine ⟨bm, ob, b1, b2, nsNe gl b3 (fun _ _ z => by rw [b6] at z; exact Data.noConfusion z), (fun q => ?_), base b3 (fun _ _ z => by rw [b6] at z; exact Data.noConfusion z) (fun z => by rw [b6] at z; exact Data.noConfusion z), b4, b5, b6⟩
        rw [q, tb p hp] at b3
        obtain rfl := Option.some.inj b3
        exact Data.noConfusion b6
      · exact Ne.symm (nsNe gl (tb p hp) (fun _ _ z => Data.noConfusion z))
    have env : Env0 P w K mg (hidT s1.heap H) callerA [] s1 H :=
      ⟨rfl, md, fun b o e => of_hidT e, Nat.le_of_eq (hidT_size _ _), trivial, (fun b hb => (List.not_mem_nil (show b ∈ ([] : List Addr) from hb)).elim), hok, AllBare.of_eq ge⟩
    have R := (F _ inB (keepNs gl) TB).run callerA [] s1 H ⟨[.ref a], []⟩ [.ref a] [.ref a] (fun v _ => v = .bl true) E0 rfl room env (bnd s1 (.ref a)) (.cons rfl .nil) (pr H tabs sq)
    refine codeAny_mono R ?_
    intro r s' z
    match r, z with
    | .ok (.ret u), z =>
      obtain ⟨v, H', eo, br, un, hok', rv, ev⟩ := z
      subst ev
      cases rv
      have kept : ∀ b o, ¬ Tb cs b → s1.heap.get? b = some o → s'.heap.get? b = some o := by
        intro b o nb e
        rcases hq : H b with _ | u
        · exact un.keep b o e hq (fun z => (List.not_mem_nil (show b ∈ ([] : List Addr) from z)).elim) (fun z => (List.not_mem_nil z).elim)
        · rcases onl b with q | q | ⟨ob, xs, q⟩
          · rw [hq] at q
            cases q
          · exact absurd q nb
          · have f1 := (hok b _ q).1
            have f2 := (hok' b _ (un.frzs b ob _ q)).1
            rw [e] at f1
            cases f1
            exact f2
      have grew : ∀ p ∈ cs, ∃ more : Array Value, s'.heap.get? p.2 = some { cls := .none, data := .fields more } := by
        intro p hp
        obtain ⟨more, q⟩ := un.tbls p.2 #[] (tabs p hp)
        exact ⟨_, hok' p.2 _ q⟩
      refine ⟨rfl, ⟨fun b o e => ?_, fun b o e => ?_⟩, eo, br⟩
      · by_cases nb : Tb cs b
        · obtain ⟨p, hp, rfl⟩ := nb
          obtain ⟨more, q⟩ := grew p hp
          rw [tb p hp] at e
          obtain rfl := Option.some.inj e
          exact .inr (.inl ⟨((tc p hp).tab (tb p hp)).isCodeTable, rfl, #[], more, rfl, by rw [Array.empty_append]; exact q⟩)
        · exact .inl (kept b o nb e)
      · by_cases nb : Tb cs b
        · obtain ⟨p, hp, rfl⟩ := nb
          obtain ⟨more, q⟩ := grew p hp
          exact ⟨_, q⟩
        · exact ⟨o, kept b o nb e⟩
  have dec : ∀ b, Decidable (Tb cs b) := fun b => Classical.propDecidable _
  rcases hk : K.lookup a with _ | o
  · let H : Hp := fun b => if b = a then some (.frz { cls := .type "list", data := .seq vs.toArray } (.lst (ns.map V.int))) else if Tb cs b then some (.tbl #[]) else none
    have at_a : H a = some (.frz { cls := .type "list", data := .seq vs.toArray } (.lst (ns.map V.int))) := if_pos rfl
    have at_t : ∀ b, Tb cs b → H b = some (.tbl #[]) := fun b hb => (if_neg (show ¬ b = a from fun z => aT (z ▸ hb))).trans (if_pos hb)
    have at_o : ∀ b, b ≠ a → ¬ Tb cs b → H b = none := fun b h1 h2 => (if_neg h1).trans (if_neg h2)
    refine main H (fun p hp => at_t _ ⟨p, hp, rfl⟩) (fun b => ?_) (.inl (.inr ⟨_, at_a⟩)) (fun b u z => ?_) (fun b z => ?_) (fun _ => hk)
    · by_cases h1 : b = a
      · subst h1
        exact .inr (.inr ⟨_, _, at_a⟩)
      · by_cases h2 : Tb cs b
        · exact .inr (.inl h2)
        · exact .inl (at_o b h1 h2)
    · by_cases h1 : b = a
      · subst h1
        rw [at_a] at z
        cases z
        exact ⟨obj, by rw [List.length_map]; exact len, vs, _, rel, obj⟩
      · by_cases h2 : Tb cs b
        · rw [at_t b h2] at z
          cases z
          exact atT h2
        · rw [at_o b h1 h2] at z
          cases z
    · by_cases h1 : b = a
      · exact .inl h1
      · by_cases h2 : Tb cs b
        · exact .inr h2
        · exact absurd (at_o b h1 h2) z
  · have e := inK a o hk
    rw [obj] at e
    cases e
    let H : Hp := fun b => if Tb cs b then some (.tbl #[]) else none
    have at_t : ∀ b, Tb cs b → H b = some (.tbl #[]) := fun b hb => if_pos hb
    have at_o : ∀ b, ¬ Tb cs b → H b = none := fun b h2 => if_neg h2
    refine main H (fun p hp => at_t _ ⟨p, hp, rfl⟩) (fun b => ?_) (Or.inr ⟨_, vs.toArray, _, hk, rfl, rfl, rfl, ?_, by simpa using rel⟩) (fun b u z => ?_) (fun b z => ?_) (fun z => absurd (at_o a aT) z)
    · by_cases h2 : Tb cs b
      · exact .inr (.inl h2)
      · exact .inl (at_o b h2)
    · rw [List.size_toArray, lv]
      exact len
    · by_cases h2 : Tb cs b
      · rw [at_t b h2] at z
        cases z
        exact atT h2
      · rw [at_o b h2] at z
        cases z
    · by_cases h2 : Tb cs b
      · exact .inr h2
      · exact absurd (at_o b h2) z
/-- what the law's head knows: its def, the tables, its promise -/
def LawT (l : PySem.W.OpenLaw) (w : World) (K : PySem.W.Frag) (k n : Nat) (x : Str) (mg : Str → Option Value) (fa : Addr) (h : Heap) : Prop :=
  ∃ (fd : FuncData) (cs : List (Addr × Addr)) (sp : Sp), (∀ p ∈ cs, h.get? p.2 = some { cls := .none, data := .fields #[] }) ∧ (∀ p ∈ cs, K.lookup p.2 = none) ∧ (∀ p ∈ cs, PySem.W.CodeHd h p.1 p.2) ∧ (∀ (s : Shared) (u : Value), BindsTo s fd ⟨[u], []⟩ [(x, u)]) ∧
    (∀ (H : Hp) (a : Addr) (ns : List Int), ns.length ≤ n → (∀ z ∈ ns, Builtin.Int.intBits z ≤ 1048576) → (∀ p ∈ cs, H p.2 = some (.tbl #[])) → SqL K H a (ns.map V.int) → sp [.ref a] H (fun v _ => v = .bl true) E0) ∧
    ∀ base : Heap, K.In base → base.Ns mainGlobals mg → (∀ p ∈ cs, LamX.TabB base mg p.1 p.2) → FnG l.prog w K mg base CX0 k fa fd [x] sp
theorem walk_runT {l : PySem.W.OpenLaw} {n k : Nat} {q : Program} {loose : List Str} {XP : (Str → Option Value) → Heap → Prop} {YP : World → Heap → Prop} {d : DefRec} {K : Params → PySem.W.Frag} {x : Str}
    (hn : l.most = some n) (hn2 : n ≤ sizeLine) (hdf : d.params.defaults = []) (room : Room k callerA) (hY : ∀ (w : World) (h : Heap), YP w h → (K w.params).In h)
    (F : ∀ (w : World) (mg : Str → Option Value) (fa : Addr) (h : Heap), YP w h → (K w.params).In h → h.Ns mainGlobals mg → mg d.name = some (.ref fa) → LawT l w (K w.params) k n x mg fa h) :
    PySem.W.WalkO q loose XP YP l.row.toRowW d [] (fun f vs => PySem.call f vs) := by
  refine Att.attach_callB hn hdf ?_
  intro w s0 s1 mg mb fa o pm cd doc a vs ns G Y ho hd hcd hmg hobj hints hlen hbits hg
  obtain ⟨fd, cs, sp, t1, t2, t3, hb, pr, hF⟩ := F w mg fa _ Y (hY w _ Y) G.T.g hmg
  exact law_runT (hY w _ Y) G.T.g G.T.b G.T.builtins G.T.nolimit hg t1 t2 t3 G.T.bmain hobj hints (Nat.le_trans hlen hn2) room hF hb (fun H hT hS => pr H a ns hlen hbits hT hS)
end Mc

namespace Mc
open PySem PySem.Spec PyProof.Rows L2
/-- a def whose code object is known -/
structure FunC (K : PySem.W.Frag) (x qual : Str) (st : Stmt) (f : Addr) (fd : FuncData) (c0 : Value) : Prop where
  ex : ∃ (oc : Value) (od : Option Addr) (kV doc pm : Value) (an : Option Addr) (ct : Value) (osl : Array (Option Value)),
    fd = PySem.W.fnOf x qual (defArgs st) (defBody st) (defScope st) .none kV doc pm an c0 ct ∧ K.lookup f = some ⟨oc, od, .func fd, osl⟩ ∧ PySem.W.codeIn K c0 qual = true
  kp : PySem.W.keepIn K (.ref f) = true
theorem fnG_ofC {CX : CXT} {P : Program} {w : World} {K : PySem.W.Frag} {mg : Str → Option Value} {base : Heap} {k : Nat} {f : Addr} {x qual : Str} {st : Stmt} {fd : FuncData}
    {N ps : List Str} {sp : Sp} {c0 : Value} (F : FunC K x qual st f fd c0) (S : FnScope N ps (defScope st)) (len : ∀ vs H Q E, sp vs H Q E → vs.length = ps.length)
    (hbody : ∀ (A : Around) (outer : List Env) (s : Shared) (H : Hp) (vs : List V) (Q : VK) (E : XK), A.guards = some [] →
      Room k (A.deeper (envOfC qual (defScope st) s.heap.objs.size f c0)) → sp vs H Q E →
      ∃ t, PSs (cxOf CX P w K mg base N qual (defScope st) f c0 A outer s H E).nox (defBody st) t ∧ t { nx := fun _ H' => Q .non H', rt := Q } (start N vs) H) :
    FnG P w K mg base CX (k + 1) f fd ps sp := by
  obtain ⟨oc, od, kV, doc, pm, an, ct, osl, rfl, lk, hcd⟩ := F.ex
  constructor
  · exact len
  intro A outer s H args us vs Q E hg room env bind rel want
  have inh : K.In s.heap := env.mod.kin.keeps fun b o e => (env.bs b o e).1
  have nol : s.heap.NoLimit := env.mod.nolimit.keeps fun b o e => (env.bs b o e).1
  have kinds : ∀ y ∈ ps.zip us, (defScope st).names.lookup y.1 = some .local ∨
      ((defScope st).names.lookup y.1 = some .cell ∧ ((cellsFrom (s.heap.objs.size + 1) (defScope st).names []).lookup y.1).isSome = true) := by
    rintro ⟨n, v⟩ hy
    have hn := (List.of_mem_zip hy).1
    rcases S.par n hn with q | q
    · exact Or.inl q
    · exact Or.inr ⟨q, PySem.W.cellsFrom_some _ _ _ (Or.inl q)⟩
  have go := hbody A outer s H vs Q E hg (room.deeper _) want
  obtain ⟨t, ht0, hq⟩ := go
  have ht := ht0.nox
  refine codeAny_call_function room.depth (inh _ _ lk) rfl S.co S.gen rfl (PySem.W.codeRec_of inh hcd) (bind _ _ _ _ ?_)
  refine wpAny_newFunctionEnv_cells S.kind kinds fun en hen s1 inc => ?_
  subst hen
  refine ⟨nol.keeps inc.toInCall.keep, codeAny_func ?_⟩
  have J := inv_start (CX := CX) (E := E) S room.hd env (len _ _ _ _ want) rel inc
  have R := ht.run [] s1 (start N vs) H _ J hq
  refine wpAny_mono R ?_ (fun _ _ z => z)
  intro fl s' z
  cases fl with
  | next => obtain ⟨σ', H', J', q⟩ := z; exact ⟨V.non, H', J'.os, J'.bare, J'.base, J'.hok, rfl, q⟩
  | ret u => obtain ⟨v, σ', H', J', rv, q⟩ := z; exact ⟨v, H', J'.os, J'.bare, J'.base, J'.hok, rv, q⟩
  | brk => obtain ⟨_, _, _, q⟩ := z; exact False.elim q
  | cont => obtain ⟨_, _, _, q⟩ := z; exact False.elim q

/-- .. of the module, by its name -/
structure DefC (K : PySem.W.Frag) (mg : Str → Option Value) (x : Str) (st : Stmt) (ps : List Str) (c0 : Value) : Prop where
  ex : ∃ (f : Addr) (fd : FuncData), FunC K x x st f fd c0 ∧ mg x = some (.ref f) ∧ Binds K fd ps []
theorem calG_ofC {P : Program} {w : World} {K : PySem.W.Frag} {mg : Str → Option Value} {base : Heap} {x : Str} {st : Stmt} {N ps : List Str} {k : Nat} {sp : Sp} {c0 : Value} (D : DefC K mg x st ps c0) (S : FnScope N ps (defScope st)) (len : ∀ vs H Q E, sp vs H Q E → vs.length = ps.length)
    (hbody : ∀ (f : Addr) (A : Around) (outer : List Env) (s : Shared) (H : Hp) (vs : List V) (Q : VK) (E : XK), A.guards = some [] → Room k (A.deeper (envOfC x (defScope st) s.heap.objs.size f c0)) → sp vs H Q E →
      ∃ t, PSs (cxOf CX0 P w K mg base N x (defScope st) f c0 A outer s H E).nox (defBody st) t ∧ t { nx := fun _ H' => Q .non H', rt := Q } (start N vs) H) : Mx.CalG P w K mg base (k + 1) x sp := by
  obtain ⟨f, fd, F, hm, b⟩ := D.ex
  exact ⟨f, fd, ps, fnG_ofC F S len (hbody f), hm, F.kp, b⟩
end Mc

namespace K2
open PySem PySem.Spec PyProof.Rows L2 Mc Mx
/-! what the law is told of an error -/
section
variable {P : Program} {w : World} {K : PySem.W.Frag} {mg : Str → Option Value} {base : Heap} {CPo CSv CI CU : Addr}
local macro_rules | `(tactic| walk_at "rd1") => `(tactic| first
  | with_reducible refine g_seq ?_
  | with_reducible refine g_asg ?_
  | with_reducible refine g_name ?_
  | with_reducible refine g_c ?_
  | with_reducible refine g_op ?_
  | with_reducible refine g_ifS ?_
  | with_reducible refine g_if ?_
  | with_reducible refine g_test ?_
  | with_reducible refine g_B ?_
  | with_reducible refine g_bl ?_
  | with_reducible refine g_blV ?_
  | with_reducible refine g_not ?_
  | with_reducible refine g_and ?_
  | with_reducible refine g_or ?_
  | with_reducible refine g_notV ?_
  | with_reducible refine g_andV ?_
  | with_reducible refine g_orV ?_
  | with_reducible refine g_ret ?_
  | with_reducible refine g_drop ?_
  | with_reducible refine g_next ?_
  | with_reducible refine g_retN ?_
  | with_reducible refine g_call ?_
  | with_reducible refine g_cb ?_
  | with_reducible refine g_cons ?_
  | with_reducible refine g_nil ?_
  | with_reducible refine g_tup ?_
  | with_reducible refine g_lst ?_
  | with_reducible refine g_prop ?_
  | with_reducible refine g_fld ?_
  | with_reducible refine g_meth ?_
  | with_reducible refine g_chain ?_
  | with_reducible refine g_yes ?_
  | with_reducible refine g_make ?_
  | with_reducible refine g_makeK ?_
  | with_reducible refine g_gsub ?_
  | with_reducible refine g_sfld ?_
  | with_reducible refine g_un ?_
  | with_reducible refine g_bm ?_
  | with_reducible refine g_iteT ?_
  | with_reducible refine g_iteF ?_
  | with_reducible refine g_I0 ?_
  | with_reducible refine g_add ?_
  | with_reducible refine g_sub ?_
  | ((with_reducible refine' g_var ?hv ?_); (case hv => rfl))
  | ((with_reducible refine g_eq ?hv ?_); (case hv => rfl))
  | ((with_reducible refine g_ne ?hv ?_); (case hv => rfl)))
local macro_rules | `(tactic| walk_at "rd") => `(tactic| repeat (walk_at "rd1"))

local macro_rules | `(tactic| walk_at "ty") => `(tactic| first | exact .non | exact .bl _ | exact .int _ | exact .str _ | exact .lst (by assumption) | exact .tup (by assumption) | exact .dK (by assumption) | exact .kTup (by assumption) (by assumption))
local macro_rules | `(tactic| walk_at "isiF") => `(tactic| refine g_isi (by walk_at "ty") (b := false) (by decide +kernel) ?_)
local macro_rules | `(tactic| walk_at "isiT") => `(tactic| refine g_isi (by walk_at "ty") (b := true) (by decide +kernel) ?_)

theorem takes_len {X : Cx} {W : WX} (tk : Takes X W) : Takes X (fun cls d σ H => σ.length = X.N.length → W cls d σ H) := fun u s' ⟨a, B, sI, pn1, σ1, H1, cls, d, e, JT, nb, up, sky, na, os, ag, w⟩ =>
  tk u s' ⟨a, B, sI, pn1, σ1, H1, cls, d, e, JT, nb, up, sky, na, os, ag, w JT.len⟩
/-- what the teller makes of what it calls -/
def TT6 (K : PySem.W.Frag) (CPo CSv CI CU : Addr) : (XK → Hp → VK → Prop) → Hp → VK → Prop := fun tl H Q => ∃ Ech : XK, tl Ech H (fun _ H' => Q (.str "made") H') ∧
  ∀ cls d H', Ech cls d H' → ∃ dd fs, d = some dd ∧ H' dd = some (.xd fs) ∧
    ((cls = .ref CPo ∧ ∃ v, fs.lookup ("number" : Str) = some v ∧ LstG Q [.str "policies", v] H') ∨ (cls = .ref CSv ∧ ∃ v, fs.lookup ("number" : Str) = some v ∧ LstG Q [.str "services", v] H') ∨
      (cls = .ref CI ∧ ∃ v p, fs.lookup ("service" : Str) = some v ∧ fs.lookup ("place" : Str) = some p ∧ LstG Q [.str "part", v, p] H') ∨
      (cls = .ref CU ∧ ∃ v z, fs.lookup ("value" : Str) = some v ∧ ShowsV K H' v z ∧ LstG Q [.str "name", .str z] H'))
/-- which class is which -/
structure Xs (K : PySem.W.Frag) (mg : Str → Option Value) (CPo CSv CI CU : Addr) : Prop where
  X1 : XfC K CPo
  X2 : XfC K CSv
  X3 : XfC K CI
  X4 : XfC K CU
  n1 : PySem.W.findIn K (.ref CPo) "number" = some none
  n2 : PySem.W.findIn K (.ref CSv) "number" = some none
  n3 : PySem.W.findIn K (.ref CI) "service" = some none
  n3' : PySem.W.findIn K (.ref CI) "place" = some none
  n4 : PySem.W.findIn K (.ref CU) "value" = some none
  g1 : mg "InvalidPolicies" = some (.ref CPo)
  g2 : mg "InvalidServices" = some (.ref CSv)
  g3 : mg "InvalidPart" = some (.ref CI)
  g4 : mg "UnknownName" = some (.ref CU)
  x11 : PySem.W.exmOne K (.ref CPo) (.ref CPo) = some true
  x21 : PySem.W.exmOne K (.ref CSv) (.ref CPo) = some false
  x22 : PySem.W.exmOne K (.ref CSv) (.ref CSv) = some true
  x31 : PySem.W.exmOne K (.ref CI) (.ref CPo) = some false
  x32 : PySem.W.exmOne K (.ref CI) (.ref CSv) = some false
  x33 : PySem.W.exmOne K (.ref CI) (.ref CI) = some true
  x41 : PySem.W.exmOne K (.ref CU) (.ref CPo) = some false
  x42 : PySem.W.exmOne K (.ref CU) (.ref CSv) = some false
  x43 : PySem.W.exmOne K (.ref CU) (.ref CI) = some false
  x44 : PySem.W.exmOne K (.ref CU) (.ref CU) = some true
theorem told6 {X : Cx} {g : Addr} {cdg : Value} {q : Str} (Z : Xs X.K X.mg CPo CSv CI CU) (T : Txt X.K X.mg) (hgX : X.A.guards = some []) (hrX : Room 3 X.A) :
    LamX.GivesTo X N_law_told "_law_told" (defScope s_law_told) g cdg (defBody s_law_told) "_law_call" q (TT6 X.K CPo CSv CI CU) := by
  intro f c' s H Q tl act hc h
  obtain ⟨Ech, h1, h2⟩ := h
  have hu : (X.A.deeper (envOfC "_law_told" (defScope s_law_told) s.heap.objs.size g cdg)).units + 64 < cLine := (hrX.deeper _).units
  have hg : (X.A.deeper (envOfC "_law_told" (defScope s_law_told) s.heap.objs.size g cdg)).guards = some [] := hgX
  refine ⟨_, pss_one (ps_try_mas (Wout := fun _ _ _ _ => False)
      (tb := fun W D σ H => (∀ cls d σ' H', Ech cls d H' → σ'.length = N_law_told.length → W cls d σ' H') ∧ σ[0]? = some (some (.ref f)) ∧ H c' = some (LamX.CodeO c' q) ∧ tl Ech H (fun _ H' => D.rt (.str "made") H'))
      rfl rfl sc_law_told.nd LamX.takes0 (fun W pn xe tk _ => ?_)
      (.cons (i := 1) rfl rfl ⟨rfl, by decide, .inl Z.g1⟩ (fun a oe cls d pn hz hf => pss_one (ps_ret (pe_lst (pa_cons pe_str (pa_cons (pe_xf Z.X1 Z.n1 hz hf (pv 1)) pa_nil)))))
      (.cons (i := 1) rfl rfl ⟨rfl, by decide, .inl Z.g2⟩ (fun a oe cls d pn hz hf => pss_one (ps_ret (pe_lst (pa_cons pe_str (pa_cons (pe_xf Z.X2 Z.n2 hz hf (pv 1)) pa_nil)))))
      (.cons (i := 1) rfl rfl ⟨rfl, by decide, .inl Z.g3⟩ (fun a oe cls d pn hz hf => pss_one (ps_ret (pe_lst (pa_cons pe_str (pa_cons (pe_xf Z.X3 Z.n3 hz hf (pv 1)) (pa_cons (pe_xf Z.X3 Z.n3' hz hf (pv 1)) pa_nil))))))
      (.cons (i := 1) rfl rfl ⟨rfl, by decide, .inl Z.g4⟩ (fun a oe cls d pn hz hf => pss_one (ps_ret (pe_lst (pa_cons pe_str (pa_cons (pe_callB (call_reprA (K := X.K) hg hu rfl) (by rfl) T.n_repr (by decide +kernel) (pa_cons (pe_xf Z.X4 Z.n4 hz hf (pv 1)) pa_nil)) pa_nil)))))
      .nil))))), ?_⟩
  · refine ⟨fun pins s' σ H' D I h' => ?_⟩
    obtain ⟨hW, h1, h2, h3⟩ := h'
    exact PSs.run (pss_cons (ps_expr (act _ pn xe Ech _ _ (takes_len tk) hW)) (pss_one (ps_ret pe_str))) pins s' σ H' D I ⟨h1, h2, h3⟩
  · refine ⟨fun cls d σ' H' hE hl => ?_, rfl, hc, h1⟩
    obtain ⟨dd, fs, ed, hdd, h⟩ := h2 cls d H' hE
    match σ', hl with
    | [x0, x1], _ =>
      rcases h with ⟨rfl, v, l, q⟩ | ⟨rfl, v, l, q⟩ | ⟨rfl, v, p, l, l2, q⟩ | ⟨rfl, v, z, l, sh, q⟩
      · refine ⟨true, Z.x11, fun _ a _ => ?_, fun z => by cases z⟩
        exact ⟨_, rfl, rfl, rfl, dd, fs, v, ed, hdd, l, q⟩
      · refine ⟨false, Z.x21, (fun z => by cases z), fun _ => ⟨true, Z.x22, fun _ a _ => ?_, fun z => by cases z⟩⟩
        exact ⟨_, rfl, rfl, rfl, dd, fs, v, ed, hdd, l, q⟩
      · refine ⟨false, Z.x31, (fun z => by cases z), fun _ => ⟨false, Z.x32, (fun z => by cases z), fun _ => ⟨true, Z.x33, fun _ a _ => ?_, fun z => by cases z⟩⟩⟩
        exact ⟨_, rfl, rfl, rfl, dd, fs, v, ed, hdd, l, _, rfl, rfl, rfl, dd, fs, p, ed, hdd, l2, q⟩
      · refine ⟨false, Z.x41, (fun z => by cases z), fun _ => ⟨false, Z.x42, (fun z => by cases z), fun _ => ⟨false, Z.x43, (fun z => by cases z), fun _ => ⟨true, Z.x44, fun _ a _ => ?_, fun z => by cases z⟩⟩⟩⟩
        exact ⟨_, rfl, rfl, rfl, dd, fs, v, ed, hdd, l, v, z, rfl, sh, q⟩
/-- _law_told(lambda: body) -/
theorem pe_told {X : Cx} {T : List (Addr × Str)} {g c Pt : Addr} {fd : FuncData} {k : Nat} {params : Arguments} {body : Expr} {scope : Scope} {t : XK → TE} {p lpos pos : Pos} (F : Fun X.K "_law_told" "_law_told" s_law_told g fd) (hm : X.mg "_law_told" = some (.ref g)) (b : Binds X.K fd ["_law_call"] [])
    (Z : Xs X.K X.mg CPo CSv CI CU) (TX : Txt X.K X.mg) (hgX : X.A.guards = some [])
    (TB : LamX.TabB X.base X.mg c Pt) (hcode : X.env.code = .ref c) (hmT : (Pt, X.env.qual ++ "<lambda>") ∈ T) (hu : ∀ p ∈ T, p.1 = Pt → p.2 = X.env.qual ++ "<lambda>") (hr : Room (k + 3) X.A) (hg : Gl X "_law_told")
    (L : LamX.LamS X.env.scope scope) (hdef : defaultsOf params X.env = ([], []))
    (hbind : ∀ (q : Str) (cl : List (Str × Addr)) (pm cv ctv : Value), bindArgs (PySem.W.kla_fn "<lambda>" q params body scope cl pm cv ctv) ⟨[], []⟩ = pure [])
    (hbody : ∀ (A : Around) (outer : List Env) (s : Shared) (H : Hp) (E : XK) (f c' : Addr), Room k (A.deeper (LamX.lamEnv X scope s.heap.objs.size f c')) → PE (LamX.lamCx X A outer s H E scope f c') body (t E)) :
    PE X (.Call (.Name "_law_told" p) [.Lambda params body scope lpos] [] pos) (LamX.tLam T (TT6 X.K CPo CSv CI CU) t) := by
  obtain ⟨oc, od, kV, doc, pm, an, cdv, ct, osl, rfl, lk, hcd⟩ := F.ex
  exact LamX.pe_lamcall (a := "_law_call") (c := c) (P := Pt) (Ng := N_law_told) hg hm F.kp lk hcd b sc_law_told rfl (Or.inl rfl) (told6 Z TX hgX (hr.mono (by omega))) TB hcode hmT hu (hr.mono (by omega)) L hdef hbind hbody
/-- what a lambda's body lets out is taken -/
theorem pass_lam {X : Cx} {A : Around} {outer : List Env} {s : Shared} {H : Hp} {E : XK} {scope : Scope} {f c' : Addr} : Passes (CX X.prog X.w) (LamX.lamCx X A outer s H E scope f c') E :=
  passes_call (takes_of (X := LamX.lamCx X A outer s H E scope f c') rfl rfl rfl rfl) (fun _ _ _ _ h => h)
end
end K2

namespace K2
open PySem PySem.Spec PyProof.Rows L2 Mc Mx
/-! what the law of refused systems writes itself -/
structure Lay (d : PyData) (e : Nat) : Prop where
  cl : d.canLay0 = true
  dp : d.depth ≤ e
structure LayA (ds : List PyData) (e : Nat) : Prop where
  cl : PyData.canLayAll0 ds = true
  dp : PyData.depthAll ds ≤ e
theorem Lay.mono {d : PyData} {e g : Nat} (h : Lay d e) (he : e ≤ g) : Lay d g := ⟨h.cl, Nat.le_trans h.dp he⟩
theorem LayA.nil {e : Nat} : LayA [] e := ⟨by simp only [PyData.canLayAll0], by simp only [PyData.depthAll]; omega⟩
theorem LayA.cons {d : PyData} {ds : List PyData} {e : Nat} (h : Lay d e) (t : LayA ds e) : LayA (d :: ds) e := ⟨by simp only [PyData.canLayAll0, h.cl, t.cl]; rfl, by have := h.dp; have := t.dp; simp only [PyData.depthAll]; omega⟩
theorem LayA.tuple {ds : List PyData} {e : Nat} (h : LayA ds e) : Lay (.tuple ds) (e + 1) := ⟨by simp only [PyData.canLay0, h.cl], by have := h.dp; simp only [PyData.depth]; omega⟩
theorem LayA.list {ds : List PyData} {e : Nat} (h : LayA ds e) : Lay (.list ds) (e + 1) := ⟨by simp only [PyData.canLay0, h.cl], by have := h.dp; simp only [PyData.depth]; omega⟩
theorem Lay.int {i : Int} {e : Nat} : Lay (.int i) e := ⟨by simp only [PyData.canLay0], by simp only [PyData.depth]; omega⟩
theorem Lay.none {e : Nat} : Lay .none e := ⟨by simp only [PyData.canLay0], by simp only [PyData.depth]; omega⟩
theorem Lay.of {d : PyData} {w e : Nat} (h : Good d w e) : Lay d e := ⟨h.cl, h.dp⟩
theorem Lay.shaped {d : PyData} {e : Nat} (h : Lay d e) (he : e ≤ 64) : SeqAt.shaped d = true := by
  unfold SeqAt.shaped
  rw [h.cl, decide_eq_true (Nat.le_trans h.dp he)]
  rfl
theorem Lay.refl {d : PyData} {e : Nat} (h : Lay d e) : PyData.eqv d d = true := SeqAt.eqv_refl _ h.cl
theorem Lay.str {z : Str} {e : Nat} (h : ∀ c ∈ z.cps.toList, c < 1000) (hl : z.length ≤ 10) : Lay (.str z) e := (Lay.of (Good.str h hl)).mono (Nat.zero_le _)
instance decEr : DecidableEq Er := fun a b => match a, b with
  | .part z i, .part y j => if h : z = y ∧ i = j then .isTrue (by rw [h.1, h.2]) else .isFalse (by intro e; cases e; exact h ⟨rfl, rfl⟩)
  | .name z, .name y => if h : z = y then .isTrue (by rw [h]) else .isFalse (by intro e; cases e; exact h rfl)
  | .long z, .long y => if h : z = y then .isTrue (by rw [h]) else .isFalse (by intro e; cases e; exact h rfl)
  | .part _ _, .name _ => .isFalse (by intro e; cases e)
  | .part _ _, .long _ => .isFalse (by intro e; cases e)
  | .name _, .part _ _ => .isFalse (by intro e; cases e)
  | .name _, .long _ => .isFalse (by intro e; cases e)
  | .long _, .part _ _ => .isFalse (by intro e; cases e)
  | .long _, .name _ => .isFalse (by intro e; cases e)
theorem hasK_app {k l : List (Key × V)} {z : Str} : hasK (k ++ l) z = (hasK k z || hasK l z) := by
  unfold hasK
  rw [← valV_any, ← valV_any, ← valV_any, List.any_append]
/-- the same by names and blocks alone -/
def pN (qs : List Pol) (p : Str) : Option Pol := qs.find? fun q => decide (q.z = p)
def hN (qs : List Pol) (p : Str) : Bool := (pN qs p).isSome
def sN (qs : List Pol) (p : Str) : Int := match pN qs p with
  | some q => spanQ q
  | none => 0
def outN (qs : List Pol) : List (Str × List Tr) → List Str → Option Er
  | [], _ => none
  | (z, b) :: rs, ks => match wr (pio b 0) 0 with
    | some i => some (.part z i)
    | none => match nmErr (fun y => decide (y ∈ ks)) (hN qs) (csOf (pio b 0)) with
      | some y => some (.name y)
      | none => if 400 < spanB (sN qs) b then some (.long z) else outN qs rs (ks ++ [z])
theorem pN_of (ps : Ps) (p : Str) : pN (ps.map (·.2)) p = (polOf ps p).map (·.2) := by
  unfold pN polOf
  rw [List.find?_map]
  rfl
theorem hN_of (ps : Ps) : hN (ps.map (·.2)) = hasP ps := by
  funext p
  unfold hN hasP
  rw [pN_of, Option.isSome_map]
theorem sN_of (ps : Ps) : sN (ps.map (·.2)) = spOf ps := by
  funext p
  unfold sN spOf
  rw [pN_of]
  cases polOf ps p <;> rfl
theorem out_of (ps : Ps) : ∀ (rs : List Rw) (k : List (Key × V)) (ks : List Str), (∀ z, hasK k z = decide (z ∈ ks)) → sysOut ps rs k = outN (ps.map (·.2)) (rs.map fun x => (x.z, x.b)) ks
  | [], _, _, _ => rfl
  | x :: rs, k, ks, h => by
    have e : hasK k = fun y => decide (y ∈ ks) := funext h
    rw [List.map_cons]
    unfold sysOut outN
    rw [e, hN_of, sN_of]
    have ih := out_of ps rs (k ++ [(Sum.inr x.z, V.ref x.c)]) (ks ++ [x.z]) fun z => by
      rw [hasK_app, h]
      have e2 : hasK [(Sum.inr x.z, V.ref x.c)] z = decide (z = x.z) := by
        unfold hasK
        by_cases hz : z = x.z
        · rw [valV_pos (by rw [hz]), decide_eq_true hz]; rfl
        · rw [valV_neg (by intro e; exact hz (Sum.inr.inj e).symm), decide_eq_false hz]; rfl
      rw [e2]
      simp only [List.mem_append, List.mem_singleton, Bool.decide_or]
    rw [ih]
    all_goals (cases wr (pio x.b 0) 0 with
      | some i => rfl
      | none => cases nmErr (fun y => decide (y ∈ ks)) (hasP ps) (csOf (pio x.b 0)) <;> rfl)
theorem out_at (ps : Ps) (rs : List Rw) : sysOut ps rs [] = outN (ps.map (·.2)) (rs.map fun x => (x.z, x.b)) [] := out_of ps rs [] [] fun z => rfl
def plain (z : Str) (l : Int) : Pol := ⟨z, l, 1, [], none, false, .go⟩
theorem ok_plain {z : Str} {l : Int} (h : isNm z = true) (h1 : 1 ≤ l) (h2 : l ≤ 20) : (plain z l).ok :=
  ⟨h, nm_short h, h1, h2, (by show (1 : Int) ≤ 1; decide), (by show (1 : Int) ≤ 3; decide), (fun i hi => by cases hi), (fun _ => ⟨rfl, fun i hi => by cases hi⟩), trivial⟩
abbrev qP : Pol := plain "p" 3
abbrev qQ : Pol := plain "q" 4
theorem ok_qP : qP.ok := ok_plain (by decide +kernel) (by decide) (by decide)
theorem ok_qQ : qQ.ok := ok_plain (by decide +kernel) (by decide) (by decide)
abbrev bA : List Tr := [.leaf (.run 1 2)]
abbrev bB : List Tr := [.leaf (.call false "a" "p"), .leaf (.call true "a" "q")]
theorem out0 : outN [qP, qQ] [("a", bA), ("b", bB)] [] = none := by decide +kernel
theorem out1 : outN [qP, qQ] [("a", [.leaf (.call false "b" "p")]), ("b", bB)] [] = some (.name "b") := by decide +kernel
theorem out2 : outN [qP, qQ] [("a", bA), ("b", [.leaf (.call true "b" "p")])] [] = some (.name "b") := by decide +kernel
theorem out3 : outN [qP, qQ] [("a", bA), ("b", [.leaf (.call true "a" "r")])] [] = some (.name "r") := by decide +kernel
theorem out4 : outN [qP, qQ] [("a", bA), ("b", [.leaf .risk, .odd])] [] = some (.part "b" 1) := by decide +kernel
theorem out5 : outN [qP, qQ] [("a", bA), ("b", bB), ("c", [.leaf (.call false "c" "p")])] [] = some (.name "c") := by decide +kernel
theorem out6 : outN [qP, qQ] [("a", bA), ("b", [.leaf (.call true "a" "r"), .leaf (.call false "x" "p")])] [] = some (.name "r") := by decide +kernel
theorem out7 (z : Str) (h : z = "b" ∨ z = "c" ∨ z = "zz") : outN [qP, qQ] [("a", bA), ("b", [.leaf (.run 1 1), .leaf (.call false z "none"), .leaf (.call false "none" "p")]), ("c", [])] [] = some (.name z) := by
  rcases h with rfl | rfl | rfl <;> decide +kernel
section
variable {P : Program} {w : World} {K : PySem.W.Frag} {mg : Str → Option Value} {base : Heap} {C CS CPo CSv CI CU CT : Addr}
local macro_rules | `(tactic| walk_at "rd1") => `(tactic| first
  | with_reducible refine g_seq ?_
  | with_reducible refine g_asg ?_
  | with_reducible refine g_name ?_
  | with_reducible refine g_c ?_
  | with_reducible refine g_op ?_
  | with_reducible refine g_ifS ?_
  | with_reducible refine g_if ?_
  | with_reducible refine g_test ?_
  | with_reducible refine g_B ?_
  | with_reducible refine g_bl ?_
  | with_reducible refine g_blV ?_
  | with_reducible refine g_not ?_
  | with_reducible refine g_and ?_
  | with_reducible refine g_or ?_
  | with_reducible refine g_notV ?_
  | with_reducible refine g_andV ?_
  | with_reducible refine g_orV ?_
  | with_reducible refine g_ret ?_
  | with_reducible refine g_drop ?_
  | with_reducible refine g_next ?_
  | with_reducible refine g_retN ?_
  | with_reducible refine g_call ?_
  | with_reducible refine g_cb ?_
  | with_reducible refine g_cons ?_
  | with_reducible refine g_nil ?_
  | with_reducible refine g_tup ?_
  | with_reducible refine g_lst ?_
  | with_reducible refine g_prop ?_
  | with_reducible refine g_fld ?_
  | with_reducible refine g_meth ?_
  | with_reducible refine g_chain ?_
  | with_reducible refine g_yes ?_
  | with_reducible refine g_make ?_
  | with_reducible refine g_makeK ?_
  | with_reducible refine g_gsub ?_
  | with_reducible refine g_sfld ?_
  | with_reducible refine g_un ?_
  | with_reducible refine g_bm ?_
  | with_reducible refine g_iteT ?_
  | with_reducible refine g_iteF ?_
  | with_reducible refine g_I0 ?_
  | with_reducible refine g_add ?_
  | with_reducible refine g_sub ?_
  | ((with_reducible refine' g_var ?hv ?_); (case hv => rfl))
  | ((with_reducible refine g_eq ?hv ?_); (case hv => rfl))
  | ((with_reducible refine g_ne ?hv ?_); (case hv => rfl)))
local macro_rules | `(tactic| walk_at "rd") => `(tactic| repeat (walk_at "rd1"))

local macro_rules | `(tactic| walk_at "ty") => `(tactic| first | exact .non | exact .bl _ | exact .int _ | exact .str _ | exact .lst (by assumption) | exact .tup (by assumption) | exact .dK (by assumption) | exact .kTup (by assumption) (by assumption))
local macro_rules | `(tactic| walk_at "isiF") => `(tactic| refine g_isi (by walk_at "ty") (b := false) (by decide +kernel) ?_)
local macro_rules | `(tactic| walk_at "isiT") => `(tactic| refine g_isi (by walk_at "ty") (b := true) (by decide +kernel) ?_)

/-- a list of a word and what is told -/
theorem told_pol {H : Hp} {n : V} {Q : VK} {tl : XK → Hp → VK → Prop} (h : ∀ (E : XK) (Q' : VK), ErV CPo "number" H E n → tl E H Q') (q : ∀ H' l, H l = none → Same H H' → H' l = some (.lst [.str "policies", n]) → Q (.ref l) H') : TT6 K CPo CSv CI CU tl H Q :=
  ⟨fun cls d H' => cls = .ref CPo ∧ ∃ dd, d = some dd ∧ Same H H' ∧ H' dd = some (.xd [("number", n)]), h _ _ fun d H' S hd => ⟨rfl, d, rfl, S, hd⟩, fun cls d H' ⟨ec, dd, ed, S, hd⟩ => ⟨dd, _, ed, hd, .inl ⟨ec, n, rfl, lst_go (by show 2 ≤ 1000; decide) fun l H2 l0 S2 hl => q H2 l (none_of S l0) (Same.trans S S2) hl⟩⟩⟩
theorem told_srv {H : Hp} {n : V} {Q : VK} {tl : XK → Hp → VK → Prop} (h : ∀ (E : XK) (Q' : VK), ErV CSv "number" H E n → tl E H Q') (q : ∀ H' l, H l = none → Same H H' → H' l = some (.lst [.str "services", n]) → Q (.ref l) H') : TT6 K CPo CSv CI CU tl H Q :=
  ⟨fun cls d H' => cls = .ref CSv ∧ ∃ dd, d = some dd ∧ Same H H' ∧ H' dd = some (.xd [("number", n)]), h _ _ fun d H' S hd => ⟨rfl, d, rfl, S, hd⟩, fun cls d H' ⟨ec, dd, ed, S, hd⟩ => ⟨dd, _, ed, hd, .inr (.inl ⟨ec, n, rfl, lst_go (by show 2 ≤ 1000; decide) fun l H2 l0 S2 hl => q H2 l (none_of S l0) (Same.trans S S2) hl⟩)⟩⟩
theorem told_part {H : Hp} {z p : V} {Q : VK} {tl : XK → Hp → VK → Prop} (h : ∀ (E : XK) (Q' : VK), (∀ d H', Same H H' → H' d = some (.xd [("place", p), ("service", z)]) → E (.ref CI) (some d) H') → tl E H Q') (q : ∀ H' l, H l = none → Same H H' → H' l = some (.lst [.str "part", z, p]) → Q (.ref l) H') : TT6 K CPo CSv CI CU tl H Q :=
  ⟨fun cls d H' => cls = .ref CI ∧ ∃ dd, d = some dd ∧ Same H H' ∧ H' dd = some (.xd [("place", p), ("service", z)]), h _ _ fun d H' S hd => ⟨rfl, d, rfl, S, hd⟩, fun cls d H' ⟨ec, dd, ed, S, hd⟩ => ⟨dd, _, ed, hd, .inr (.inr (.inl ⟨ec, z, p, rfl, rfl, lst_go (by show 3 ≤ 1000; decide) fun l H2 l0 S2 hl => q H2 l (none_of S l0) (Same.trans S S2) hl⟩))⟩⟩
theorem told_name {H : Hp} {v : V} {z : Str} {Q : VK} {tl : XK → Hp → VK → Prop} (sh : ShowsV K H v z) (h : ∀ (E : XK) (Q' : VK), ErV CU "value" H E v → tl E H Q') (q : ∀ H' l, H l = none → Same H H' → H' l = some (.lst [.str "name", .str z]) → Q (.ref l) H') : TT6 K CPo CSv CI CU tl H Q :=
  ⟨fun cls d H' => cls = .ref CU ∧ ∃ dd, d = some dd ∧ Same H H' ∧ H' dd = some (.xd [("value", v)]), h _ _ fun d H' S hd => ⟨rfl, d, rfl, S, hd⟩, fun cls d H' ⟨ec, dd, ed, S, hd⟩ => ⟨dd, _, ed, hd, .inr (.inr (.inr ⟨ec, v, z, rfl, sh.ext S, lst_go (by show 2 ≤ 1000; decide) fun l H2 l0 S2 hl => q H2 l (none_of S l0) (Same.trans S S2) hl⟩))⟩⟩
/-- equal lists of two -/
theorem ne_two {H : Hp} {Q : VK} {a b : Addr} {x y : V} {d e : PyData} {g : Nat} (ha : H a = some (.lst [x, y])) (hb : H b = some (.lst [x, y])) (hx : Dp K H x d) (hy : Dp K H y e) (lx : Lay d g) (ly : Lay e g) (hg : g ≤ 40) (q : Q (.bl false) H) : rNeD K (.ref a) (.ref b) H Q := by
  have l := (LayA.cons lx (LayA.cons ly .nil)).list
  refine ⟨_, _, .lst (SqL.of ha) (.cons hx (.cons hy .nil)), .lst (SqL.of hb) (.cons hx (.cons hy .nil)), l.shaped (by omega), l.shaped (by omega), ?_⟩
  rw [l.refl]
  exact q
theorem eq_two {H : Hp} {Q : VK} {a b : Addr} {x y : V} {d e : PyData} {g : Nat} (ha : H a = some (.lst [x, y])) (hb : H b = some (.lst [x, y])) (hx : Dp K H x d) (hy : Dp K H y e) (lx : Lay d g) (ly : Lay e g) (hg : g ≤ 40) (q : Q (.bl true) H) : rEqD K (.ref a) (.ref b) H Q := by
  have l := (LayA.cons lx (LayA.cons ly .nil)).list
  refine ⟨_, _, .lst (SqL.of ha) (.cons hx (.cons hy .nil)), .lst (SqL.of hb) (.cons hx (.cons hy .nil)), l.shaped (by omega), l.shaped (by omega), ?_⟩
  rw [l.refl]
  exact q
theorem ne_three {H : Hp} {Q : VK} {a b : Addr} {x y u : V} {d e f : PyData} {g : Nat} (ha : H a = some (.lst [x, y, u])) (hb : H b = some (.lst [x, y, u])) (hx : Dp K H x d) (hy : Dp K H y e) (hu : Dp K H u f) (lx : Lay d g) (ly : Lay e g) (lu : Lay f g) (hg : g ≤ 40) (q : Q (.bl false) H) : rNeD K (.ref a) (.ref b) H Q := by
  have l := (LayA.cons lx (LayA.cons ly (LayA.cons lu .nil))).list
  refine ⟨_, _, .lst (SqL.of ha) (.cons hx (.cons hy (.cons hu .nil))), .lst (SqL.of hb) (.cons hx (.cons hy (.cons hu .nil))), l.shaped (by omega), l.shaped (by omega), ?_⟩
  rw [l.refl]
  exact q
/-! all but the tables of lambdas stay -/
abbrev Xn := LamX.ExtN
theorem Kp.extN {H H' : Hp} (e : Xn H H') : Kp H H' := fun b o h => by
  by_cases hq : ∃ ps, o = .tbl ps
  · exact .inr (.inr hq)
  · exact .inl (e b o h fun ps z => hq ⟨ps, z⟩)
theorem tyN {H H' : Hp} {v : V} {n : String} (e : Xn H H') (h : Mc.TyB K H v n) : Mc.TyB K H' v n := K2.TyB.kp (Kp.extN e) h
theorem sqL_extN {H H' : Hp} {a : Addr} {xs : List V} (e : Xn H H') (h : SqL K H a xs) : SqL K H' a xs := by
  rcases h with (h | ⟨o, h⟩) | h
  · exact .inl (.inl (e _ _ h (by intro _ z; cases z)))
  · exact .inl (.inr ⟨o, e _ _ h (by intro _ z; cases z)⟩)
  · exact .inr h
theorem sqT_extN {H H' : Hp} {a : Addr} {xs : List V} (e : Xn H H') (h : SqT K H a xs) : SqT K H' a xs := by
  rcases h with (h | ⟨o, h⟩) | h
  · exact .inl (.inl (e _ _ h (by intro _ z; cases z)))
  · exact .inl (.inr ⟨o, e _ _ h (by intro _ z; cases z)⟩)
  · exact .inr h
theorem dpN {H H' : Hp} (e : Xn H H') {v : V} {d : PyData} (h : Dp K H v d) : Dp K H' v d := Dp.rec (motive_1 := fun v d _ => Dp K H' v d) (motive_2 := fun vs ds _ => DpAll K H' vs ds) .non .bl .int .str
  (fun s _ ih => .lst (sqL_extN e s) ih) (fun s _ ih => .tup (sqT_extN e s) ih) .nil (fun _ _ h1 h2 => .cons h1 h2) h
theorem showsN {H H' : Hp} (e : Xn H H') {v : V} {z : Str} (h : ShowsV K H v z) : ShowsV K H' v z := by
  cases h with
  | non => exact .non
  | bl b => exact .bl b
  | int h => exact .int h
  | str h => exact .str h
  | ref hd hs hx hp hz => exact .ref (dpN e hd) hs hx hp hz
theorem RwsAt.kp {H H' : Hp} {rs : List Rw} (e : Kp H H') (h : RwsAt K H rs) : RwsAt K H' rs := fun x hx => ⟨(h x hx).c.kp e, RepB.kp e _ _ (h x hx).b, (h x hx).nm, (h x hx).hl⟩
theorem PolAt.kp {a : Addr} {H H' : Hp} {q : Pol} (e : Kp H H') (h : PolAt K C H a q) : PolAt K C H' a q := by
  obtain ⟨dx, pa, ga, h1, h2⟩ := h
  exact ⟨dx, pa, ga, e.get h1 (by intro _ k; cases k), TupV.kp e h2.p, TupV.kp e h2.g⟩
theorem PolsAt.kp {H H' : Hp} {ps : Ps} (e : Kp H H') (h : PolsAt K C H ps) : PolsAt K C H' ps := fun x hx => ⟨(h x hx).1.kp e, (h x hx).2⟩
theorem SysAt.kp {s : Addr} {H H' : Hp} {ps : Ps} {rs : List Rw} (e : Kp H H') (h : SysAt K C CS H s ps rs) : SysAt K C CS H' s ps rs := by
  obtain ⟨⟨dx, dp, db, ds, h1, h2, h3, h4⟩, h5, h6, h7, h8, h9, h10, h11, h12⟩ := h
  exact ⟨⟨dx, dp, db, ds, e.get h1 (by intro _ z; cases z), e.get h2 (by intro _ z; cases z), e.get h3 (by intro _ z; cases z), e.get h4 (by intro _ z; cases z)⟩, h5.kp e, h6.kp e, h7, h8, h9, h10, h11, h12⟩
theorem rt_run {H : Hp} {r : Addr} {a b : Int} (t : TupV K H r [.str "run", .int a, .int b]) (ok : 0 ≤ a ∧ a ≤ b ∧ b ≤ 20) : RepT K H (.leaf (.run a b)) (.ref r) := by unfold RepT; exact ⟨ok, r, rfl, t⟩
theorem rt_risk {H : Hp} {r : Addr} (t : TupV K H r [.str "risk"]) : RepT K H (.leaf .risk) (.ref r) := by unfold RepT; exact ⟨trivial, r, rfl, t⟩
theorem rt_call {H : Hp} {r : Addr} {z p : Str} (t : TupV K H r [.str "call", .str z, .str p]) (hz : isNm z = true) (hp : isNm p = true) : RepT K H (.leaf (.call false z p)) (.ref r) := by unfold RepT; exact ⟨⟨hz, hp⟩, r, rfl, t⟩
theorem rt_want {H : Hp} {r : Addr} {z p : Str} (t : TupV K H r [.str "want", .str z, .str p]) (hz : isNm z = true) (hp : isNm p = true) : RepT K H (.leaf (.call true z p)) (.ref r) := by unfold RepT; exact ⟨⟨hz, hp⟩, r, rfl, t⟩
theorem rt_run21 {H : Hp} {r : Addr} (t : TupV K H r [.str "run", .int 2, .int 1]) : RepT K H .odd (.ref r) := by
  unfold RepT
  refine .inr ⟨r, [(.str "run", "str"), (.int 2, "int"), (.int 1, "int")], rfl, t, ?_, ?_, by decide +kernel, by decide +kernel⟩
  · intro p hp
    simp only [List.mem_cons, List.not_mem_nil, or_false] at hp
    rcases hp with rfl | rfl | rfl
    · exact .str _
    · exact .int _
    · exact .int _
  · intro p hp z e
    simp only [List.mem_cons, List.not_mem_nil, or_false] at hp
    rcases hp with rfl | rfl | rfl
    · cases e; decide +kernel
    · cases e
    · cases e
theorem rowOf_ne {x : Rw} {rs : List Rw} {z : Str} (h : x.z ≠ z) : rowOf (x :: rs) z = rowOf rs z := by unfold rowOf; rw [List.find?_cons_of_neg (by simpa using h)]
theorem rowOf_eq {x : Rw} {rs : List Rw} {z : Str} (h : x.z = z) : rowOf (x :: rs) z = some x := by unfold rowOf; rw [List.find?_cons_of_pos (by simpa using h)]
theorem b_none {go f : Addr} {fd : FuncData} (F : FI K go f fd) : ∃ ds, Vals [.int 1, .non, .non, .bl false, .ref go] ds ∧ Binds K fd psP ds :=
  F.binds0 (ps := psP) 3 (by simp) rfl (fun D doc pm an cdv ct us ks h1 h2 => match us, ks, h1, h2 with
    | [_, _, _], [_, _, _, _, _], _, _ => kc_cons rfl rfl (kc_cons rfl rfl (kc_cons rfl rfl (kc_cons rfl rfl (kc_cons rfl rfl (kc_nil rfl))))))
/-- a policy made -/
theorem pol_new {H : Hp} {y dx ga : Addr} {q : Pol} {p : V} {Q : Hp → Prop} {vs : List V} {E : XK} (ev : vs = [.ref y, .str q.z, .int q.l, .int q.t, p, eV q.e, .bl q.b, .ref ga]) (ny : H y = none) (nd : H dx = none) (ok : q.ok) (tg : TupV K H ga q.g.vs)
    (hp : (p = .non ∧ (q.e = none → q.ps = List.replicate (q.t - 1).toNat 0)) ∨ (q.e = none ∧ ∃ pa, p = .ref pa ∧ TupV K H pa (q.ps.map V.int))) (k : ∀ H', Same H H' → PolAt K C H' y q → Q H') :
    spInit K C vs (upd (upd H dx (.own y)) y (.ins C dx [])) (fun v H2 => v = .non ∧ Q H2) E := by
  have S := same_ins (C := C) ny nd
  refine ⟨y, dx, q, p, ga, ev, ok, upd_same, TupV.ext S tg, ?_, fun H' pl fr => ⟨rfl, k H' (same_made ny nd fr) pl⟩⟩
  rcases hp with h | ⟨h1, pa, h2, h3⟩
  · exact .inl h
  · exact .inr ⟨h1, pa, h2, TupV.ext S h3⟩
end
end K2

namespace K2
open PySem PySem.Spec PyProof.Rows L2 Mc Mx
theorem sl_listK {X : Cx} {K : PySem.W.Frag} (hK : X.K = K) : SlR X (rSlL K) := hK ▸ sl_list
theorem ab : ¬ ("a" : Str) = "b" := by decide +kernel
section
variable {P : Program} {w : World} {K : PySem.W.Frag} {mg : Str → Option Value} {base : Heap} {C CS CPo CSv CI CU CT : Addr}
local macro_rules | `(tactic| walk_at "rd1") => `(tactic| first
  | with_reducible refine g_seq ?_
  | with_reducible refine g_asg ?_
  | with_reducible refine g_name ?_
  | with_reducible refine g_c ?_
  | with_reducible refine g_op ?_
  | with_reducible refine g_ifS ?_
  | with_reducible refine g_if ?_
  | with_reducible refine g_test ?_
  | with_reducible refine g_B ?_
  | with_reducible refine g_bl ?_
  | with_reducible refine g_blV ?_
  | with_reducible refine g_not ?_
  | with_reducible refine g_and ?_
  | with_reducible refine g_or ?_
  | with_reducible refine g_notV ?_
  | with_reducible refine g_andV ?_
  | with_reducible refine g_orV ?_
  | with_reducible refine g_ret ?_
  | with_reducible refine g_drop ?_
  | with_reducible refine g_next ?_
  | with_reducible refine g_retN ?_
  | with_reducible refine g_call ?_
  | with_reducible refine g_cb ?_
  | with_reducible refine g_cons ?_
  | with_reducible refine g_nil ?_
  | with_reducible refine g_tup ?_
  | with_reducible refine g_lst ?_
  | with_reducible refine g_prop ?_
  | with_reducible refine g_fld ?_
  | with_reducible refine g_meth ?_
  | with_reducible refine g_chain ?_
  | with_reducible refine g_yes ?_
  | with_reducible refine g_make ?_
  | with_reducible refine g_makeK ?_
  | with_reducible refine g_gsub ?_
  | with_reducible refine g_sfld ?_
  | with_reducible refine g_un ?_
  | with_reducible refine g_bm ?_
  | with_reducible refine g_iteT ?_
  | with_reducible refine g_iteF ?_
  | with_reducible refine g_I0 ?_
  | with_reducible refine g_add ?_
  | with_reducible refine g_sub ?_
  | ((with_reducible refine' g_var ?hv ?_); (case hv => rfl))
  | ((with_reducible refine g_eq ?hv ?_); (case hv => rfl))
  | ((with_reducible refine g_ne ?hv ?_); (case hv => rfl)))
local macro_rules | `(tactic| walk_at "rd") => `(tactic| repeat (walk_at "rd1"))

local macro_rules | `(tactic| walk_at "ty") => `(tactic| first | exact .non | exact .bl _ | exact .int _ | exact .str _ | exact .lst (by assumption) | exact .tup (by assumption) | exact .dK (by assumption) | exact .kTup (by assumption) (by assumption))
local macro_rules | `(tactic| walk_at "isiF") => `(tactic| refine g_isi (by walk_at "ty") (b := false) (by decide +kernel) ?_)
local macro_rules | `(tactic| walk_at "isiT") => `(tactic| refine g_isi (by walk_at "ty") (b := true) (by decide +kernel) ?_)

/-- what the making of lambdas wants, def by def -/
structure MkL (P : Program) (w : World) (K : PySem.W.Frag) (mg : Str → Option Value) (base : Heap) (T : List (Addr × Str)) (g : Addr) (fdL : FuncData) (c Pt : Addr) (q : Str) : Prop where
  dl : Fun K "_law_told" "_law_told" s_law_told g fdL
  hm : mg "_law_told" = some (.ref g)
  bl : Binds K fdL ["_law_call"] []
  tb : LamX.TabB base mg c Pt
  mt : (Pt, q) ∈ T
  ut : ∀ p ∈ T, p.1 = Pt → p.2 = q
structure MkE (P : Program) (w : World) (K : PySem.W.Frag) (mg : Str → Option Value) (base : Heap) (CS : Addr) (m : Str) (f : Addr) (fd : FuncData) (k : Nat) (ps : List Str) (sp : Sp) : Prop where
  me : Meth K CS m f
  ok : FnOk P w K mg base (CX P w) k f fd ps sp
  b : Binds K fd ps []
structure MkG (P : Program) (w : World) (K : PySem.W.Frag) (mg : Str → Option Value) (base : Heap) (C CS CU f : Addr) (fd : FuncData) : Prop where
  ok : FnOk P w K mg base (CX P w) 4 f fd ["self", "at"] (spNoName K C CS CU 0)
  sp : OwnSp K CS "__getitem__" f
  fn : PySem.W.fnIn K f = true
  b : Binds K fd ["self", "at"] []
structure VF (K : PySem.W.Frag) (H : Hp) (ps : Ps) (rs : List Rw) (v : V) (n : String) (z : Str) (d : PyData) : Prop where
  ty : Mc.TyB K H v n
  sh : ShowsV K H v z
  lz : Lay (.str z) 0
  no : hasR rs v = false
  np : v = .str "p" ∨ ∀ y, v = .str y → hasP ps y = false
  dp : Dp K H v d
  ly : Lay d 3
  eq : PyData.eqv d (.str "p") = decide (v = .str "p")
theorem hasP_nm {ps : Ps} {qs : List Pol} (h : ps.map (·.2) = qs) (z : Str) : hasP ps z = hN qs z := by rw [← h, hN_of]
theorem row_nm {rs : List Rw} {l : List (Str × List Tr)} (h : (rs.map fun x => (x.z, x.b)) = l) (z : Str) : (rowOf rs z).isSome = (l.find? fun y => decide (y.1 = z)).isSome := by
  subst h
  unfold rowOf
  rw [List.find?_map, Option.isSome_map]
  rfl
def spDoors (Ts : List (Addr × Str)) (K : PySem.W.Frag) (C CS : Addr) : Sp := fun vs H Q _ => ∃ (s : Addr) (ps : Ps) (rs : List Rw), vs = [.ref s] ∧ SysAt K C CS H s ps rs ∧ ps.map (·.2) = [qP, qQ] ∧ (rs.map fun x => (x.z, x.b)) = ([("a", bA), ("b", bB)] : List (Str × List Tr)) ∧ LamX.Tabs Ts H ∧ ∀ H', Xn H H' → LamX.Tabs Ts H' → Q (.bl true) H'
theorem str_data (z : Str) : PyData.eqv (.str z) (.str "p") = decide (V.str z = V.str "p") := by
  simp only [PyData.eqv]
  by_cases h : z = "p"
  · subst h; simp
  · rw [decide_eq_false (by intro e; exact h (V.str.inj e))]
    exact beq_false_of_ne h
theorem sh_r (H : Hp) : ShowsV K H (.str "r") "'r'" := by
  have := ShowsV.str (K := K) (H := H) (x := "r") (by decide +kernel)
  rwa [show reprText "r" = "'r'" by decide +kernel] at this
theorem sh_b (H : Hp) : ShowsV K H (.str "b") "'b'" := by
  have := ShowsV.str (K := K) (H := H) (x := "b") (by decide +kernel)
  rwa [show reprText "b" = "'b'" by decide +kernel] at this
theorem sh_c (H : Hp) : ShowsV K H (.str "c") "'c'" := by
  have := ShowsV.str (K := K) (H := H) (x := "c") (by decide +kernel)
  rwa [show reprText "c" = "'c'" by decide +kernel] at this
theorem setR_nm (rs : List Rw) (x : Rw) : ((setR rs x).map fun y => (y.z, y.b)) = (rs.map fun y => (y.z, y.b)).map fun y => if y.1 = x.z then (x.z, x.b) else y := by
  unfold setR
  rw [List.map_map, List.map_map]
  refine List.map_congr_left fun y _ => ?_
  show ((if y.z = x.z then x else y).z, (if y.z = x.z then x else y).b) = if y.z = x.z then (x.z, x.b) else (y.z, y.b)
  by_cases h : y.z = x.z
  · rw [if_pos h, if_pos h]
  · rw [if_neg h, if_neg h]
theorem set_out {ps : Ps} {rs : List Rw} {qs : List Pol} {l : List (Str × List Tr)} (eps : ps.map (·.2) = qs) (ers : (rs.map fun x => (x.z, x.b)) = l) (z : Str) (c : Addr) (b : List Tr) (xs : List V) : sysOut ps (setR rs ⟨z, c, b, xs⟩) [] = outN qs (l.map fun y => if y.1 = z then (z, b) else y) [] := by
  rw [out_at, eps, setR_nm, ers]
theorem app_out {ps : Ps} {rs : List Rw} {qs : List Pol} {l : List (Str × List Tr)} (eps : ps.map (·.2) = qs) (ers : (rs.map fun x => (x.z, x.b)) = l) (z : Str) (c : Addr) (b : List Tr) (xs : List V) : sysOut ps (rs ++ [⟨z, c, b, xs⟩]) [] = outN qs (l ++ [(z, b)]) [] := by
  rw [out_at, eps, List.map_append, ers]
  rfl
theorem ok_doors {Ts : List (Addr × Str)} {g c Pt ago fI f1 f2 f3 f4 f5 f6 fg : Addr} {fdL fdI fd1 fd2 fd3 fd4 fd5 fd6 fdg : FuncData} (TX : Txt K mg) (Z : Xs K mg CPo CSv CI CU) (DL : MkL P w K mg base Ts g fdL c Pt "_law_doors_right.<locals>.<lambda>") (D : DefC K mg "_law_doors_right" s_law_doors_right ["_law_one"] (.ref c))
    (TS : STx K CS) (M : Mk K C fI) (GI : FnOk P w K mg base CX0 6 fI fdI psP (spInit K C)) (gP : mg "Policy" = some (.ref C)) (ds0 : List Value) (v0 : Vals [.int 1, .non, .non, .bl false, .ref ago] ds0) (b0 : Binds K fdI psP ds0) (tgo : ∀ H, TupV K H ago En.go.vs)
    (GG : MkG P w K mg base C CS CU fg fdg) (MSP : MkE P w K mg base CS "span" f1 fd1 4 ["self", "name"] (spNoName K C CS CU 0)) (MCA : MkE P w K mg base CS "callees" f2 fd2 6 ["self", "name"] (spNoName K C CS CU 0)) (MPO : MkE P w K mg base CS "policy" f3 fd3 4 ["self", "name"] (spNoPol K C CS CU))
    (MWB : MkE P w K mg base CS "with_block" f4 fd4 12 ["self", "name", "block"] (spNoName K C CS CU 1)) (MWB2 : MkE P w K mg base CS "with_block" f4 fd4 12 ["self", "name", "block"] (spWithBlock K C CS CI CU CT)) (MWP : MkE P w K mg base CS "with_policy" f5 fd5 12 ["self", "policy"] (spWithPolicyE K C CS CU CPo))
    (MWS : MkE P w K mg base CS "with_service" f6 fd6 12 ["self", "name", "block"] (spWithServiceE K C CS CSv)) (MWS2 : MkE P w K mg base CS "with_service" f6 fd6 12 ["self", "name", "block"] (spWithService K C CS CI CU CT)) : Mx.CalG P w K mg base 17 "_law_doors_right" (spDoors Ts K C CS) := by
  have T := TX
  refine calG_ofC D sc_law_doors_right (fun vs H Q E h => ?_) (fun f A outer st H vs Q E hgA hr h => ?_)
  · obtain ⟨s, ps, rs, rfl, _⟩ := h
    rfl
  · obtain ⟨s, ps, rs, rfl, sy, eps, ers, tabs, k⟩ := h
    have hrT : Room 15 (A.deeper (envOfC "_law_doors_right" (defScope s_law_doors_right) st.heap.objs.size f (.ref c))) := hr.mono (by decide)
    have hu : (A.deeper (envOfC "_law_doors_right" (defScope s_law_doors_right) st.heap.objs.size f (.ref c))).units + 64 < cLine := hr.units
    have hg : (A.deeper (envOfC "_law_doors_right" (defScope s_law_doors_right) st.heap.objs.size f (.ref c))).guards = some [] := hgA
    obtain ⟨dx1, dp1, db1, ds1, h0, _⟩ := sy.at_
    have rn : ∀ z, hasR rs (.str z) = ((([("a", bA), ("b", bB)] : List (Str × List Tr)).find? fun y => decide (y.1 = z))).isSome := fun z => row_nm ers z
    have pn : ∀ z, hasP ps z = hN [qP, qQ] z := fun z => hasP_nm eps z
    refine ⟨_, (pss_cons (ps_for PassesOwn.never rfl (pi_list (pe_lst (pa_cons pe_str (pa_cons pe_str (pa_cons pe_non (pa_cons pe_int (pa_cons (pe_lst (pa_cons pe_str pa_nil)) (pa_cons (pe_tup (pa_cons pe_str pa_nil)) (pa_cons pe_str (pa_cons pe_bl pa_nil)))))))))) (pg_name (i := 1) sc_law_doors_right.nd rfl (Or.inr rfl)) (pss_cons (ps_set (i := 2) sc_law_doors_right.nd rfl (Or.inl rfl) (pe_lst (pa_cons pe_str (pa_cons (pe_callB (call_reprA (K := K) hg hu rfl) (by rfl) T.n_repr (by decide +kernel) (pa_cons (pv 1) pa_nil)) pa_nil))))
      (pss_cons (ps_if (pt_cmpR (op_neD hu) (pe_told DL.dl DL.hm DL.bl Z TX hg DL.tb rfl DL.mt DL.ut hrT (by rfl) (LamX.lamS_by (by rfl)) rfl (fun _ _ _ _ _ => rfl) (fun A outer s H E f c' hrl => (pe_ixO (E := E) GG.ok GG.sp GG.fn GG.b pass_lam (hrl.mono (by decide)) (pv 0) (pv 1)))) (pv 2) (nomark _)) (pss_one (ps_ret pe_bl)) pss_nil)
      (pss_cons (ps_if (pt_cmpR (op_neD hu) (pe_told DL.dl DL.hm DL.bl Z TX hg DL.tb rfl DL.mt DL.ut hrT (by rfl) (LamX.lamS_by (by rfl)) rfl (fun _ _ _ _ _ => rfl) (fun A outer s H E f c' hrl => (pe_meth (pv 0) TS.cl MSP.me MSP.ok (hrl.mono (by decide)) MSP.b .nil pass_lam (pa_cons (pv 1) pa_nil)))) (pv 2) (nomark _)) (pss_one (ps_ret pe_bl)) pss_nil)
      (pss_cons (ps_if (pt_cmpR (op_neD hu) (pe_told DL.dl DL.hm DL.bl Z TX hg DL.tb rfl DL.mt DL.ut hrT (by rfl) (LamX.lamS_by (by rfl)) rfl (fun _ _ _ _ _ => rfl) (fun A outer s H E f c' hrl => (pe_meth (pv 0) TS.cl MCA.me MCA.ok (hrl.mono (by decide)) MCA.b .nil pass_lam (pa_cons (pv 1) pa_nil)))) (pv 2) (nomark _)) (pss_one (ps_ret pe_bl)) pss_nil)
      (pss_cons (ps_if (pt_cmpR (op_neD hu) (pe_told DL.dl DL.hm DL.bl Z TX hg DL.tb rfl DL.mt DL.ut hrT (by rfl) (LamX.lamS_by (by rfl)) rfl (fun _ _ _ _ _ => rfl) (fun A outer s H E f c' hrl => (pe_meth (pv 0) TS.cl MWB.me MWB.ok (hrl.mono (by decide)) MWB.b .nil pass_lam (pa_cons (pv 1) (pa_cons pe_non pa_nil))))) (pv 2) (nomark _)) (pss_one (ps_ret pe_bl)) pss_nil)
      (pss_one (ps_if (PW.pt (pw_and (pt_cmpR (op_neD hu) (pv 1) pe_str (nomark _)) (pw_and1 (pt_cmpR (op_neD hu) (pe_told DL.dl DL.hm DL.bl Z TX hg DL.tb rfl DL.mt DL.ut hrT (by rfl) (LamX.lamS_by (by rfl)) rfl (fun _ _ _ _ _ => rfl) (fun A outer s H E f c' hrl => (pe_meth (pv 0) TS.cl MPO.me MPO.ok (hrl.mono (by decide)) MPO.b .nil pass_lam (pa_cons (pv 1) pa_nil)))) (pv 2) (nomark _))))) (pss_one (ps_ret pe_bl)) pss_nil))))))))
      (pss_cons (ps_for PassesOwn.never rfl (pi_list (pe_lst (pa_cons pe_non (pa_cons pe_int (pa_cons pe_str (pa_cons pe_dnewK pa_nil)))))) (pg_name (i := 3) sc_law_doors_right.nd rfl (Or.inr rfl)) (pss_one (ps_if (pt_cmpR (op_neD hu) (pe_told DL.dl DL.hm DL.bl Z TX hg DL.tb rfl DL.mt DL.ut hrT (by rfl) (LamX.lamS_by (by rfl)) rfl (fun _ _ _ _ _ => rfl) (fun A outer s H E f c' hrl => (pe_meth (pv 0) TS.cl MWP.me MWP.ok (hrl.mono (by decide)) MWP.b .nil pass_lam (pa_cons (pv 3) pa_nil)))) (pe_lst (pa_cons pe_str (pa_cons pe_non pa_nil))) (nomark _)) (pss_one (ps_ret pe_bl)) pss_nil)))
      (pss_cons (ps_if (pt_cmpR (op_neD hu) (pe_told DL.dl DL.hm DL.bl Z TX hg DL.tb rfl DL.mt DL.ut hrT (by rfl) (LamX.lamS_by (by rfl)) rfl (fun _ _ _ _ _ => rfl) (fun A outer s H E f c' hrl => (pe_meth (pv 0) TS.cl MWP.me MWP.ok (hrl.mono (by decide)) MWP.b .nil pass_lam (pa_cons (pe_make M GI (hrl.mono (by decide)) (by rfl) gP b0 v0 pass0 (pa_cons pe_str (pa_cons pe_int pa_nil))) pa_nil)))) (pe_lst (pa_cons pe_str (pa_cons pe_str pa_nil))) (nomark _)) (pss_one (ps_ret pe_bl)) pss_nil)
      (pss_cons (ps_if (pt_cmpR (op_neD hu) (pe_told DL.dl DL.hm DL.bl Z TX hg DL.tb rfl DL.mt DL.ut hrT (by rfl) (LamX.lamS_by (by rfl)) rfl (fun _ _ _ _ _ => rfl) (fun A outer s H E f c' hrl => (pe_meth (pv 0) TS.cl MWB2.me MWB2.ok (hrl.mono (by decide)) MWB2.b .nil pass_lam (pa_cons pe_str (pa_cons (pe_tup (pa_cons (pe_tup (pa_cons pe_str (pa_cons pe_str (pa_cons pe_str pa_nil)))) pa_nil)) pa_nil))))) (pe_lst (pa_cons pe_str (pa_cons pe_str pa_nil))) (nomark _)) (pss_one (ps_ret pe_bl)) pss_nil)
      (pss_cons (ps_if (pt_cmpR (op_neD hu) (pe_told DL.dl DL.hm DL.bl Z TX hg DL.tb rfl DL.mt DL.ut hrT (by rfl) (LamX.lamS_by (by rfl)) rfl (fun _ _ _ _ _ => rfl) (fun A outer s H E f c' hrl => (pe_meth (pv 0) TS.cl MWB2.me MWB2.ok (hrl.mono (by decide)) MWB2.b .nil pass_lam (pa_cons pe_str (pa_cons (pe_tup (pa_cons (pe_tup (pa_cons pe_str (pa_cons pe_str (pa_cons pe_str pa_nil)))) pa_nil)) pa_nil))))) (pe_lst (pa_cons pe_str (pa_cons pe_str pa_nil))) (nomark _)) (pss_one (ps_ret pe_bl)) pss_nil)
      (pss_cons (ps_if (pt_cmpR (op_neD hu) (pe_told DL.dl DL.hm DL.bl Z TX hg DL.tb rfl DL.mt DL.ut hrT (by rfl) (LamX.lamS_by (by rfl)) rfl (fun _ _ _ _ _ => rfl) (fun A outer s H E f c' hrl => (pe_meth (pv 0) TS.cl MWB2.me MWB2.ok (hrl.mono (by decide)) MWB2.b .nil pass_lam (pa_cons pe_str (pa_cons (pe_tup (pa_cons (pe_tup (pa_cons pe_str (pa_cons pe_str (pa_cons pe_str pa_nil)))) pa_nil)) pa_nil))))) (pe_lst (pa_cons pe_str (pa_cons pe_str pa_nil))) (nomark _)) (pss_one (ps_ret pe_bl)) pss_nil)
      (pss_cons (ps_if (pt_cmpR (op_neD hu) (pe_told DL.dl DL.hm DL.bl Z TX hg DL.tb rfl DL.mt DL.ut hrT (by rfl) (LamX.lamS_by (by rfl)) rfl (fun _ _ _ _ _ => rfl) (fun A outer s H E f c' hrl => (pe_meth (pv 0) TS.cl MWB2.me MWB2.ok (hrl.mono (by decide)) MWB2.b .nil pass_lam (pa_cons pe_str (pa_cons (pe_tup (pa_cons (pe_tup (pa_cons pe_str pa_nil)) (pa_cons (pe_tup (pa_cons pe_str (pa_cons pe_int (pa_cons pe_int pa_nil)))) pa_nil))) pa_nil))))) (pe_lst (pa_cons pe_str (pa_cons pe_str (pa_cons pe_int pa_nil)))) (nomark _)) (pss_one (ps_ret pe_bl)) pss_nil)
      (pss_cons (ps_if (pt_cmpR (op_neD hu) (pe_told DL.dl DL.hm DL.bl Z TX hg DL.tb rfl DL.mt DL.ut hrT (by rfl) (LamX.lamS_by (by rfl)) rfl (fun _ _ _ _ _ => rfl) (fun A outer s H E f c' hrl => (pe_meth (pv 0) TS.cl MWS2.me MWS2.ok (hrl.mono (by decide)) MWS2.b .nil pass_lam (pa_cons pe_str (pa_cons (pe_tup (pa_cons (pe_tup (pa_cons pe_str (pa_cons pe_str (pa_cons pe_str pa_nil)))) pa_nil)) pa_nil))))) (pe_lst (pa_cons pe_str (pa_cons pe_str pa_nil))) (nomark _)) (pss_one (ps_ret pe_bl)) pss_nil)
      (pss_one (ps_ret (pe_cmpR (op_eqD hu) (pe_told DL.dl DL.hm DL.bl Z TX hg DL.tb rfl DL.mt DL.ut hrT (by rfl) (LamX.lamS_by (by rfl)) rfl (fun _ _ _ _ _ => rfl) (fun A outer s H E f c' hrl => (pe_meth (pv 0) TS.cl MWS.me MWS.ok (hrl.mono (by decide)) MWS.b .nil pass_lam (pa_cons pe_str (pa_cons (pe_tup pa_nil) pa_nil))))) (pe_lst (pa_cons pe_str (pa_cons pe_int pa_nil))) (nomark _)))))))))))), ?_⟩
    walk_at "rd"
    refine g_for (g_ilist ?_)
    walk_at "rd"
    refine lst_go ?hl fun lA H1 lA0 S1 hlA => ?_
    case hl => exact Nat.le_of_ble_eq_true rfl
    walk_at "rd"
    refine tup_go ?hl fun tA H2 tA0 S2 htA => ?_
    case hl => exact Nat.le_of_ble_eq_true rfl
    walk_at "rd"
    refine lst_go ?hl fun m H3 m0 S3 hm => ?_
    case hl => exact Nat.le_of_ble_eq_true rfl
    have S03 := Same.trans S1 (Same.trans S2 S3)
    have hlA := S3 _ _ (S2 _ _ hlA)
    have htA := S3 _ _ htA
    have vf : ∀ v ∈ ([.str "c", .str "", .non, .int 5, .ref lA, .ref tA, .str "p", .bl true] : List V), ∃ n z d, VF K H3 ps rs v n z d := fun v hv => by
      simp only [List.mem_cons, List.not_mem_nil, or_false] at hv
      rcases hv with rfl | rfl | rfl | rfl | rfl | rfl | rfl | rfl
      · exact ⟨_, "'c'", _, .str _, (by have := ShowsV.str (K := K) (H := H3) (x := "c") (by decide +kernel); rwa [show reprText "c" = "'c'" by decide +kernel] at this), .str (by decide +kernel) (by decide +kernel), by rw [rn]; decide +kernel, .inr (fun y e => by cases e; rw [pn]; decide +kernel), .str _, .str (by decide +kernel) (by decide +kernel), str_data _⟩
      · exact ⟨_, "''", _, .str _, (by have := ShowsV.str (K := K) (H := H3) (x := "") (by decide +kernel); rwa [show reprText "" = "''" by decide +kernel] at this), .str (by decide +kernel) (by decide +kernel), by rw [rn]; decide +kernel, .inr (fun y e => by cases e; rw [pn]; decide +kernel), .str _, .str (by decide +kernel) (by decide +kernel), str_data _⟩
      · exact ⟨_, _, .none, .non, .non, .str (by decide +kernel) (by decide +kernel), rfl, .inr (fun y e => by cases e), .non, .none, by simp only [PyData.eqv]; rfl⟩
      · exact ⟨_, _, .int 5, .int _, .int (by decide +kernel), .str (by decide +kernel) (by decide +kernel), rfl, .inr (fun y e => by cases e), .int _, .int, by simp only [PyData.eqv]; rfl⟩
      · exact ⟨_, _, .list [.str "a"], .lst hlA, .ref (.lst (SqL.of hlA) (.cons (.str _) .nil)) (by decide +kernel) (by decide +kernel) (by decide +kernel) (by decide +kernel), .str (by decide +kernel) (by decide +kernel), rfl, .inr (fun y e => by cases e), .lst (SqL.of hlA) (.cons (.str _) .nil), ((LayA.cons (Lay.str (by decide +kernel) (by decide +kernel)) .nil).list : Lay _ 1).mono (by decide), by simp only [PyData.eqv]; rfl⟩
      · exact ⟨_, _, .tuple [.str "a"], .tup htA, .ref (.tup (SqT.of htA) (.cons (.str _) .nil)) (by decide +kernel) (by decide +kernel) (by decide +kernel) (by decide +kernel), .str (by decide +kernel) (by decide +kernel), rfl, .inr (fun y e => by cases e), .tup (SqT.of htA) (.cons (.str _) .nil), ((LayA.cons (Lay.str (by decide +kernel) (by decide +kernel)) .nil).tuple : Lay _ 1).mono (by decide), by simp only [PyData.eqv]; rfl⟩
      · exact ⟨_, "'p'", _, .str _, (by have := ShowsV.str (K := K) (H := H3) (x := "p") (by decide +kernel); rwa [show reprText "p" = "'p'" by decide +kernel] at this), .str (by decide +kernel) (by decide +kernel), by rw [rn]; decide +kernel, .inl rfl, .str _, .str (by decide +kernel) (by decide +kernel), str_data _⟩
      · exact ⟨_, _, .bool true, .bl _, .bl _, .str (by decide +kernel) (by decide +kernel), rfl, .inr (fun y e => by cases e), .bl _, (Lay.of (Good.bool true)).mono (by decide), by simp only [PyData.eqv]; rfl⟩
    refine ⟨m, rfl, ⟨_, SqL.of hm⟩, ?_⟩
    have sy3 := sy.ext S03
    have h3 := S03 _ _ h0
    refine for_list (K := K) (a := m) (xs := [.str "c", .str "", .non, .int 5, .ref lA, .ref tA, .str "p", .bl true]) (fun i σ H' => ∃ o1 o2 o3 : Option V, σ = [some (.ref s), o1, o2, o3] ∧ Xn H3 H' ∧ LamX.Tabs Ts H') ⟨_, _, _, rfl, LamX.ExtN.refl _, tabs.ext S03⟩ (fun i σ H' _ ⟨_, _, _, _, e, _⟩ => SqL.of (e _ _ hm (by intro _ z; cases z))) ?_ ?_
    · rintro i v σ H4 hv ⟨o1, o2, o3, rfl, e4, tb4⟩
      obtain ⟨n, z, d, V1⟩ := vf v (List.mem_of_getElem? hv)
      walk_at "rd"
      refine ⟨v, z, rfl, showsN e4 V1.sh, ?_⟩
      walk_at "rd"
      refine lst_go ?hl fun due H5 due0 S5 hdue => ?_
      case hl => exact Nat.le_of_ble_eq_true rfl
      walk_at "rd"
      have e5 := e4.trans (LamX.ExtN.of S5)
      have tb5 := tb4.ext S5
      refine ⟨tb5, fun H6 q6 tb6 => ?_⟩
      have e6 := e5.trans q6
      have sy6 := sy3.kp (Kp.extN e6)
      have h6 := e6 _ _ h3 (by intro _ z; cases z)
      have hdue6 := q6 _ _ hdue (by intro _ z; cases z)
      refine told_name (showsN e6 V1.sh) (fun E Q' er => ?_) (fun H7 l7 l0 S7 hl7 => ?_)
      · walk_at "rd"
        exact ⟨s, dx1, _, rfl, h6, s, ps, rs, v, n, [], rfl, rfl, sy6, tyN e6 V1.ty, V1.no, er⟩
      walk_at "rd"
      refine ne_two hl7 (S7 _ _ hdue6) (.str _) (.str _) (Lay.str (by decide +kernel) (by decide +kernel)) V1.lz (by decide) ?_
      walk_at "rd"
      have e7 := e6.trans (LamX.ExtN.of S7)
      have tb7 := tb6.ext S7
      have hdue7 := S7 _ _ hdue6
      clear sy6 h6
      refine ⟨tb7, fun H8 q8 tb8 => ?_⟩
      have e8 := e7.trans q8
      have sy8 := sy3.kp (Kp.extN e8)
      have h8 := e8 _ _ h3 (by intro _ z; cases z)
      have hdue8 := q8 _ _ hdue7 (by intro _ z; cases z)
      refine told_name (showsN e8 V1.sh) (fun E Q' er => ?_) (fun H9 l9 l0 S9 hl9 => ?_)
      · walk_at "rd"
        refine ⟨s, dx1, _, rfl, h8, rfl, ?_⟩
        walk_at "rd"
        exact ⟨s, ps, rs, v, n, [], rfl, rfl, sy8, tyN e8 V1.ty, V1.no, er⟩
      walk_at "rd"
      refine ne_two hl9 (S9 _ _ hdue8) (.str _) (.str _) (Lay.str (by decide +kernel) (by decide +kernel)) V1.lz (by decide) ?_
      walk_at "rd"
      have e9 := e8.trans (LamX.ExtN.of S9)
      have tb9 := tb8.ext S9
      have hdue9 := S9 _ _ hdue8
      clear sy8 h8
      refine ⟨tb9, fun H10 q10 tb10 => ?_⟩
      have e10 := e9.trans q10
      have sy10 := sy3.kp (Kp.extN e10)
      have h10 := e10 _ _ h3 (by intro _ z; cases z)
      have hdue10 := q10 _ _ hdue9 (by intro _ z; cases z)
      refine told_name (showsN e10 V1.sh) (fun E Q' er => ?_) (fun H11 l11 l0 S11 hl11 => ?_)
      · walk_at "rd"
        refine ⟨s, dx1, _, rfl, h10, rfl, ?_⟩
        walk_at "rd"
        exact ⟨s, ps, rs, v, n, [], rfl, rfl, sy10, tyN e10 V1.ty, V1.no, er⟩
      walk_at "rd"
      refine ne_two hl11 (S11 _ _ hdue10) (.str _) (.str _) (Lay.str (by decide +kernel) (by decide +kernel)) V1.lz (by decide) ?_
      walk_at "rd"
      have e11 := e10.trans (LamX.ExtN.of S11)
      have tb11 := tb10.ext S11
      have hdue11 := S11 _ _ hdue10
      clear sy10 h10
      refine ⟨tb11, fun H12 q12 tb12 => ?_⟩
      have e12 := e11.trans q12
      have sy12 := sy3.kp (Kp.extN e12)
      have h12 := e12 _ _ h3 (by intro _ z; cases z)
      have hdue12 := q12 _ _ hdue11 (by intro _ z; cases z)
      refine told_name (showsN e12 V1.sh) (fun E Q' er => ?_) (fun H13 l13 l0 S13 hl13 => ?_)
      · walk_at "rd"
        refine ⟨s, dx1, _, rfl, h12, rfl, ?_⟩
        walk_at "rd"
        exact ⟨s, ps, rs, v, n, [.non], rfl, rfl, sy12, tyN e12 V1.ty, V1.no, er⟩
      walk_at "rd"
      refine ne_two hl13 (S13 _ _ hdue12) (.str _) (.str _) (Lay.str (by decide +kernel) (by decide +kernel)) V1.lz (by decide) ?_
      walk_at "rd"
      have e13 := e12.trans (LamX.ExtN.of S13)
      have tb13 := tb12.ext S13
      have hdue13 := S13 _ _ hdue12
      clear sy12 h12
      refine ⟨d, .str "p", dpN e13 V1.dp, .str _, V1.ly.shaped (by decide), (Lay.str (z := "p") (e := 0) (by decide +kernel) (by decide +kernel)).shaped (by decide), ?_⟩
      rw [V1.eq]
      refine ⟨_, rfl, ?_⟩
      cases hp : decide (v = V.str "p") with
      | true =>
        refine g_andC0 rfl ?_
        walk_at "rd"
        exact ⟨_, _, _, rfl, e13, tb13⟩
      | false =>
        refine g_andC rfl ?_
        refine ⟨tb13, fun H14 q14 tb14 => ?_⟩
        have e14 := e13.trans q14
        have sy14 := sy3.kp (Kp.extN e14)
        have h14 := e14 _ _ h3 (by intro _ z; cases z)
        have hdue14 := q14 _ _ hdue13 (by intro _ z; cases z)
        refine told_name (showsN e14 V1.sh) (fun E Q' er => ?_) (fun H15 l15 l0 S15 hl15 => ?_)
        · walk_at "rd"
          refine ⟨s, dx1, _, rfl, h14, rfl, ?_⟩
          walk_at "rd"
          exact ⟨s, ps, rs, v, n, rfl, sy14, tyN e14 V1.ty, V1.np.resolve_left (of_decide_eq_false hp), er⟩
        walk_at "rd"
        refine ne_two hl15 (S15 _ _ hdue14) (.str _) (.str _) (Lay.str (by decide +kernel) (by decide +kernel)) V1.lz (by decide) ?_
        walk_at "rd"
        have e15 := e14.trans (LamX.ExtN.of S15)
        have tb15 := tb14.ext S15
        have hdue15 := S15 _ _ hdue14
        clear sy14 h14
        exact ⟨_, _, _, rfl, e15, tb15⟩
    · rintro σ H4 ⟨o1, o2, o3, rfl, e4, tb4⟩
      have l2 : rs.length = 2 := by rw [← List.length_map (f := fun x : Rw => (x.z, x.b)), ers]; rfl
      have rsm : ∀ {z : Str}, ((([("a", bA), ("b", bB)] : List (Str × List Tr)).find? fun y => decide (y.1 = z))).isSome = true → (rowOf rs z).isSome = true := fun {z} h => (row_nm ers z).trans h
      have nR : nmR rs = [("a" : Str), "b"] := by
        have := congrArg (List.map fun y : Str × List Tr => y.1) ers
        rw [List.map_map] at this
        exact this
      walk_at "rd"
      refine g_for (g_ilist ?_)
      walk_at "rd"
      refine fun ed hed => ?_
      have S5 : Same H4 (upd H4 ed (.dK [])) := same_new hed
      have h5d : upd H4 ed (.dK []) ed = some (.dK []) := upd_same
      generalize upd H4 ed (.dK []) = H5 at S5 h5d ⊢
      walk_at "rd"
      refine lst_go ?hl fun m2 H6 m20 S6 hm2 => ?_
      case hl => exact Nat.le_of_ble_eq_true rfl
      have e6 := e4.trans (LamX.ExtN.of (Same.trans S5 S6))
      have tb6 := tb4.ext (Same.trans S5 S6)
      have h6d := S6 _ _ h5d
      have vt : ∀ v ∈ ([.non, .int 5, .str "p", .ref ed] : List V), ∃ n, Mc.TyB K H6 v n := fun v hv => by
        simp only [List.mem_cons, List.not_mem_nil, or_false] at hv
        rcases hv with rfl | rfl | rfl | rfl
        · exact ⟨_, .non⟩
        · exact ⟨_, .int _⟩
        · exact ⟨_, .str _⟩
        · exact ⟨_, .dK h6d⟩
      refine ⟨m2, rfl, ⟨_, SqL.of hm2⟩, ?_⟩
      refine for_list (K := K) (a := m2) (xs := [.non, .int 5, .str "p", .ref ed]) (fun i σ H' => ∃ o3 : Option V, σ = [some (.ref s), o1, o2, o3] ∧ Xn H6 H' ∧ LamX.Tabs Ts H') ⟨_, rfl, LamX.ExtN.refl _, tb6⟩ (fun i σ H' _ ⟨_, _, e, _⟩ => SqL.of (e _ _ hm2 (by intro _ z; cases z))) ?_ ?_
      · rintro i v σ H7 hv ⟨o3, rfl, e7, tb7⟩
        obtain ⟨n, ty⟩ := vt v (List.mem_of_getElem? hv)
        walk_at "rd"
        refine ⟨tb7, fun H8 q8 tb8 => ?_⟩
        have e8 := e7.trans q8
        have sy8 := sy3.kp (Kp.extN (e6.trans e8))
        have h8 := (e6.trans e8) _ _ h3 (by intro _ z; cases z)
        refine told_pol (n := .non) (fun E Q' er => ?_) (fun H9 l9 l0 S9 hl9 => ?_)
        · walk_at "rd"
          refine ⟨s, dx1, _, rfl, h8, rfl, ?_⟩
          walk_at "rd"
          exact ⟨s, ps, rs, v, rfl, sy8, .inl ⟨⟨n, tyN e8 ty⟩, er⟩⟩
        walk_at "rd"
        refine lst_go ?hl fun due H10 due0 S10 hdue => ?_
        case hl => exact Nat.le_of_ble_eq_true rfl
        refine ne_two (S10 _ _ hl9) hdue (.str _) .non (Lay.str (by decide +kernel) (by decide +kernel) : Lay _ 0) .none (by decide) ?_
        walk_at "rd"
        exact ⟨_, rfl, e8.trans (LamX.ExtN.of (Same.trans S9 S10)), tb8.ext (Same.trans S9 S10)⟩
      rintro σ H20 ⟨o3, rfl, q20, tb20⟩
      have e20 := e6.trans q20
      clear q20 vt e6 tb6 h6d S5 S6 h5d tb4 e4
      walk_at "rd"
      refine ⟨tb20, fun H21 q21 tb21 => ?_⟩
      have e21 := e20.trans q21
      have sy21 := sy3.kp (Kp.extN e21)
      have h21 := e21 _ _ h3 (by intro _ z; cases z)
      refine told_name (v := .str "r") (z := "'r'") (sh_r _) (fun E Q' er => ?_) (fun H22 l22 l0 S22 hl22 => ?_)
      · walk_at "rd"
        refine ⟨s, dx1, _, rfl, h21, rfl, ?_⟩
        walk_at "rd"
        intro y dy ny ndy ney
        refine pol_new (q := plain "r" 1) rfl ny ndy (ok_plain (by decide +kernel) (by decide) (by decide)) (tgo _) (.inl ⟨rfl, fun _ => rfl⟩) fun G1 T1 py => ?_
        walk_at "rd"
        exact ⟨s, ps, rs, .ref y, rfl, sy21.ext T1, .inr ⟨y, plain "r" 1, rfl, py, (by rw [pn]; decide +kernel), er.ext T1⟩⟩
      walk_at "rd"
      refine lst_go ?hl fun due23 H23 due0 S23 hdue23 => ?_
      case hl => exact Nat.le_of_ble_eq_true rfl
      refine ne_two (S23 _ _ hl22) hdue23 (.str _) (.str _) (Lay.str (by decide +kernel) (by decide +kernel) : Lay _ 0) (Lay.str (by decide +kernel) (by decide +kernel)) (by decide) ?_
      have S23d := Same.trans S22 S23
      have e23 := e21.trans (LamX.ExtN.of S23d)
      have tb23 := tb21.ext S23d
      clear sy21 h21
      walk_at "rd"
      refine ⟨tb23, fun H24 q24 tb24 => ?_⟩
      have e24 := e23.trans q24
      have sy24 := sy3.kp (Kp.extN e24)
      have h24 := e24 _ _ h3 (by intro _ z; cases z)
      refine told_name (v := .str "b") (z := "'b'") (sh_b _) (fun E Q' er => ?_) (fun H25 l25 l0 S25 hl25 => ?_)
      · walk_at "rd"
        refine ⟨s, dx1, _, rfl, h24, rfl, ?_⟩
        walk_at "rd"
        refine tup_go ?hl fun t1 G1 _ T1 ht1 => ?_
        case hl => exact Nat.le_of_ble_eq_true rfl
        walk_at "rd"
        refine tup_go ?hl fun t2 G2 _ T2 ht2 => ?_
        case hl => exact Nat.le_of_ble_eq_true rfl
        walk_at "rd"
        have T12 := Same.trans T1 T2
        have ht1 := T2 _ _ ht1
        exact ⟨s, ps, rs, ⟨"a", t2, [.leaf (.call false "b" "p")], _⟩, rfl, sy24.ext T12, (rsm (z := "a") (by decide +kernel)), ⟨⟨.tup ht2, SqT.of ht2⟩, RepB.one (rt_call ⟨.tup ht1, SqT.of ht1⟩ (by decide +kernel) (by decide +kernel)), (by show isNm "a" = true; decide +kernel), by show (pio [.leaf (.call false "b" "p")] 0).length ≤ 1000; decide +kernel⟩, .inr ⟨.name "b", (set_out eps ers _ _ _ _).trans (by decide +kernel), er.ext T12⟩⟩
      walk_at "rd"
      refine lst_go ?hl fun due26 H26 due0 S26 hdue26 => ?_
      case hl => exact Nat.le_of_ble_eq_true rfl
      refine ne_two (S26 _ _ hl25) hdue26 (.str _) (.str _) (Lay.str (by decide +kernel) (by decide +kernel) : Lay _ 0) (Lay.str (by decide +kernel) (by decide +kernel)) (by decide) ?_
      have S26d := Same.trans S25 S26
      have e26 := e24.trans (LamX.ExtN.of S26d)
      have tb26 := tb24.ext S26d
      clear sy24 h24
      walk_at "rd"
      refine ⟨tb26, fun H27 q27 tb27 => ?_⟩
      have e27 := e26.trans q27
      have sy27 := sy3.kp (Kp.extN e27)
      have h27 := e27 _ _ h3 (by intro _ z; cases z)
      refine told_name (v := .str "b") (z := "'b'") (sh_b _) (fun E Q' er => ?_) (fun H28 l28 l0 S28 hl28 => ?_)
      · walk_at "rd"
        refine ⟨s, dx1, _, rfl, h27, rfl, ?_⟩
        walk_at "rd"
        refine tup_go ?hl fun t1 G1 _ T1 ht1 => ?_
        case hl => exact Nat.le_of_ble_eq_true rfl
        walk_at "rd"
        refine tup_go ?hl fun t2 G2 _ T2 ht2 => ?_
        case hl => exact Nat.le_of_ble_eq_true rfl
        walk_at "rd"
        have T12 := Same.trans T1 T2
        have ht1 := T2 _ _ ht1
        exact ⟨s, ps, rs, ⟨"b", t2, [.leaf (.call true "b" "p")], _⟩, rfl, sy27.ext T12, (rsm (z := "b") (by decide +kernel)), ⟨⟨.tup ht2, SqT.of ht2⟩, RepB.one (rt_want ⟨.tup ht1, SqT.of ht1⟩ (by decide +kernel) (by decide +kernel)), (by show isNm "b" = true; decide +kernel), by show (pio [.leaf (.call true "b" "p")] 0).length ≤ 1000; decide +kernel⟩, .inr ⟨.name "b", (set_out eps ers _ _ _ _).trans (by decide +kernel), er.ext T12⟩⟩
      walk_at "rd"
      refine lst_go ?hl fun due29 H29 due0 S29 hdue29 => ?_
      case hl => exact Nat.le_of_ble_eq_true rfl
      refine ne_two (S29 _ _ hl28) hdue29 (.str _) (.str _) (Lay.str (by decide +kernel) (by decide +kernel) : Lay _ 0) (Lay.str (by decide +kernel) (by decide +kernel)) (by decide) ?_
      have S29d := Same.trans S28 S29
      have e29 := e27.trans (LamX.ExtN.of S29d)
      have tb29 := tb27.ext S29d
      clear sy27 h27
      walk_at "rd"
      refine ⟨tb29, fun H30 q30 tb30 => ?_⟩
      have e30 := e29.trans q30
      have sy30 := sy3.kp (Kp.extN e30)
      have h30 := e30 _ _ h3 (by intro _ z; cases z)
      refine told_name (v := .str "r") (z := "'r'") (sh_r _) (fun E Q' er => ?_) (fun H31 l31 l0 S31 hl31 => ?_)
      · walk_at "rd"
        refine ⟨s, dx1, _, rfl, h30, rfl, ?_⟩
        walk_at "rd"
        refine tup_go ?hl fun t1 G1 _ T1 ht1 => ?_
        case hl => exact Nat.le_of_ble_eq_true rfl
        walk_at "rd"
        refine tup_go ?hl fun t2 G2 _ T2 ht2 => ?_
        case hl => exact Nat.le_of_ble_eq_true rfl
        walk_at "rd"
        have T12 := Same.trans T1 T2
        have ht1 := T2 _ _ ht1
        exact ⟨s, ps, rs, ⟨"b", t2, [.leaf (.call true "a" "r")], _⟩, rfl, sy30.ext T12, (rsm (z := "b") (by decide +kernel)), ⟨⟨.tup ht2, SqT.of ht2⟩, RepB.one (rt_want ⟨.tup ht1, SqT.of ht1⟩ (by decide +kernel) (by decide +kernel)), (by show isNm "b" = true; decide +kernel), by show (pio [.leaf (.call true "a" "r")] 0).length ≤ 1000; decide +kernel⟩, .inr ⟨.name "r", (set_out eps ers _ _ _ _).trans (by decide +kernel), er.ext T12⟩⟩
      walk_at "rd"
      refine lst_go ?hl fun due32 H32 due0 S32 hdue32 => ?_
      case hl => exact Nat.le_of_ble_eq_true rfl
      refine ne_two (S32 _ _ hl31) hdue32 (.str _) (.str _) (Lay.str (by decide +kernel) (by decide +kernel) : Lay _ 0) (Lay.str (by decide +kernel) (by decide +kernel)) (by decide) ?_
      have S32d := Same.trans S31 S32
      have e32 := e30.trans (LamX.ExtN.of S32d)
      have tb32 := tb30.ext S32d
      clear sy30 h30
      walk_at "rd"
      refine ⟨tb32, fun H33 q33 tb33 => ?_⟩
      have e33 := e32.trans q33
      have sy33 := sy3.kp (Kp.extN e33)
      have h33 := e33 _ _ h3 (by intro _ z; cases z)
      refine told_part (z := .str "b") (p := .int 1) (fun E Q' er => ?_) (fun H34 l34 l0 S34 hl34 => ?_)
      · walk_at "rd"
        refine ⟨s, dx1, _, rfl, h33, rfl, ?_⟩
        walk_at "rd"
        refine tup_go ?hl fun t1 G1 _ T1 ht1 => ?_
        case hl => exact Nat.le_of_ble_eq_true rfl
        walk_at "rd"
        refine tup_go ?hl fun t2 G2 _ T2 ht2 => ?_
        case hl => exact Nat.le_of_ble_eq_true rfl
        walk_at "rd"
        refine tup_go ?hl fun t3 G3 _ T3 ht3 => ?_
        case hl => exact Nat.le_of_ble_eq_true rfl
        walk_at "rd"
        have T13 := Same.trans T1 (Same.trans T2 T3)
        have ht1 := T3 _ _ (T2 _ _ ht1)
        have ht2 := T3 _ _ ht2
        exact ⟨s, ps, rs, ⟨"b", t3, [.leaf .risk, .odd], _⟩, rfl, sy33.ext T13, (rsm (z := "b") (by decide +kernel)), ⟨⟨.tup ht3, SqT.of ht3⟩, RepB.app (RepB.one (rt_risk ⟨.tup ht1, SqT.of ht1⟩)) (RepB.one (rt_run21 ⟨.tup ht2, SqT.of ht2⟩)), (by show isNm "b" = true; decide +kernel), by show (pio [.leaf .risk, .odd] 0).length ≤ 1000; decide +kernel⟩, .inr ⟨.part "b" 1, (set_out eps ers _ _ _ _).trans (by decide +kernel), fun d H' S hd => er d H' (Same.trans T13 S) hd⟩⟩
      walk_at "rd"
      refine lst_go ?hl fun due35 H35 due0 S35 hdue35 => ?_
      case hl => exact Nat.le_of_ble_eq_true rfl
      refine ne_three (S35 _ _ hl34) hdue35 (.str _) (.str _) (.int _) (Lay.str (by decide +kernel) (by decide +kernel) : Lay _ 0) (Lay.str (by decide +kernel) (by decide +kernel)) .int (by decide) ?_
      have S35d := Same.trans S34 S35
      have e35 := e33.trans (LamX.ExtN.of S35d)
      have tb35 := tb33.ext S35d
      clear sy33 h33
      walk_at "rd"
      refine ⟨tb35, fun H36 q36 tb36 => ?_⟩
      have e36 := e35.trans q36
      have sy36 := sy3.kp (Kp.extN e36)
      have h36 := e36 _ _ h3 (by intro _ z; cases z)
      refine told_name (v := .str "c") (z := "'c'") (sh_c _) (fun E Q' er => ?_) (fun H37 l37 l0 S37 hl37 => ?_)
      · walk_at "rd"
        refine ⟨s, dx1, _, rfl, h36, rfl, ?_⟩
        walk_at "rd"
        refine tup_go ?hl fun t1 G1 _ T1 ht1 => ?_
        case hl => exact Nat.le_of_ble_eq_true rfl
        walk_at "rd"
        refine tup_go ?hl fun t2 G2 _ T2 ht2 => ?_
        case hl => exact Nat.le_of_ble_eq_true rfl
        walk_at "rd"
        have T12 := Same.trans T1 T2
        have ht1 := T2 _ _ ht1
        exact ⟨s, ps, rs, ⟨"c", t2, [.leaf (.call false "c" "p")], _⟩, rfl, sy36.ext T12, by omega, (by rw [nR]; show ("c" : Str) ∉ [("a" : Str), "b"]; decide +kernel), ⟨⟨.tup ht2, SqT.of ht2⟩, RepB.one (rt_call ⟨.tup ht1, SqT.of ht1⟩ (by decide +kernel) (by decide +kernel)), (by show isNm "c" = true; decide +kernel), by show (pio [.leaf (.call false "c" "p")] 0).length ≤ 1000; decide +kernel⟩, .inr ⟨.name "c", (app_out eps ers _ _ _ _).trans (by decide +kernel), er.ext T12⟩⟩
      walk_at "rd"
      refine lst_go ?hl fun due38 H38 due0 S38 hdue38 => ?_
      case hl => exact Nat.le_of_ble_eq_true rfl
      refine ne_two (S38 _ _ hl37) hdue38 (.str _) (.str _) (Lay.str (by decide +kernel) (by decide +kernel) : Lay _ 0) (Lay.str (by decide +kernel) (by decide +kernel)) (by decide) ?_
      have S38d := Same.trans S37 S38
      have e38 := e36.trans (LamX.ExtN.of S38d)
      have tb38 := tb36.ext S38d
      clear sy36 h36
      walk_at "rd"
      refine ⟨tb38, fun H39 q39 tb39 => ?_⟩
      have e39 := e38.trans q39
      have sy39 := sy3.kp (Kp.extN e39)
      have h39 := e39 _ _ h3 (by intro _ z; cases z)
      refine told_srv (n := .int 2) (fun E Q' er => ?_) (fun H40 l40 l0 S40 hl40 => ?_)
      · walk_at "rd"
        refine ⟨s, dx1, _, rfl, h39, rfl, ?_⟩
        walk_at "rd"
        refine tup_go ?hl fun t1 G1 _ T1 ht1 => ?_
        case hl => exact Nat.zero_le _
        walk_at "rd"
        exact ⟨s, t1, "a", ps, rs, rfl, sy39.ext T1, by omega, (by rw [nR]; exact List.mem_cons_self ..), (by decide +kernel), .tup ht1, by rw [l2]; exact er.ext T1⟩
      walk_at "rd"
      refine lst_go ?hl fun due41 H41 due0 S41 hdue41 => ?_
      case hl => exact Nat.le_of_ble_eq_true rfl
      refine eq_two (S41 _ _ hl40) hdue41 (.str _) (.int _) (Lay.str (by decide +kernel) (by decide +kernel) : Lay _ 0) .int (by decide) ?_
      have S41d := Same.trans S40 S41
      have e41 := e39.trans (LamX.ExtN.of S41d)
      have tb41 := tb39.ext S41d
      clear sy39 h39
      exact k _ ((LamX.ExtN.of S03).trans e41) tb41
end
end K2

namespace Mx
open PySem PySem.Spec PyProof.Rows L2 Mc
/-- text * number -/
theorem op_mulStr {X : Cx} : OpR X (binaryOp .Mult) (fun x y H Q => ∃ z n, x = .str z ∧ y = .int n ∧ MulOk z n ∧ Q (.str (Txt.mul z n)) H) := by
  intro pins s σ H x y v u Q I rx ry h
  obtain ⟨z, n, rfl, rfl, ok, q⟩ := h
  obtain ⟨t, rfl⟩ := rx
  obtain ⟨t', rfl⟩ := ry
  exact SB.mul ok fun t' k => ⟨.str _, H, I.tok _, ⟨_, rfl⟩, q⟩
theorem pi_listK {X : Cx} {K : PySem.W.Frag} {tg l : Expr} {tl : TE} (hK : X.K = K) (hl : PE X l tl) : PI X tg l (iList K tl) := hK ▸ pi_list hl
end Mx
namespace K2
open PySem PySem.Spec PyProof.Rows L2 Mc Mx
theorem fn_calm {P : Program} {w : World} {K : PySem.W.Frag} {mg : Str → Option Value} {base : Heap} {k : Nat} {f : Addr} {fd : FuncData} {ps : List Str} {sp : Sp} (F : FnOk P w K mg base (CX P w) k f fd ps sp) : FnOk P w K mg base CX0 k f fd ps (fun vs H Q _ => sp vs H Q E0) := by
  refine ⟨fun vs H Q E h => F.len _ _ _ _ h, fun A outer s H args us vs Q E r e0 b v h => codeAny_mono (F.run A outer s H args us vs Q E0 r e0 b v h) fun r s' z => ?_⟩
  match r, z with
  | .ok (.ret u), z => exact z
  | .error e, z =>
    obtain ⟨_, _, _, _, _, _, _, _, _, _, _, _, hE⟩ := z
    exact False.elim hE
def nmz (i : Nat) : Str := Txt.mul "p" (0 + (i : Int) + 1)
theorem ok_p : ∀ i : Nat, i < 8 → MulOk "p" (0 + (i : Int) + 1) := by unfold MulOk; decide +kernel
theorem ok_y : ∀ i : Nat, i < 8 → MulOk "y" (0 + (i : Int)) := by unfold MulOk; decide +kernel
theorem nm_p : ∀ i : Nat, i < 8 → isNm (nmz i) = true := by decide +kernel
theorem len_y : ∀ i : Nat, i < 8 → ("x" : Str).length + (Txt.mul "y" (0 + (i : Int))).length ≤ sizeLine := by decide +kernel
abbrev nmL (n : Nat) : List Str := (List.range n).map nmz
theorem nm_nd : (nmL 8).Nodup := by decide +kernel
theorem nm_ok : ∀ z ∈ nmL 8, isNm z = true := by decide +kernel
theorem nmL_at {i : Nat} (h : i < 8) : (nmL 8)[i]? = some (nmz i) := by
  rw [List.getElem?_map, List.getElem?_range h]; rfl
theorem nmL_take {i : Nat} (h : i ≤ 8) : (nmL 8).take i = nmL i := by
  rw [← List.map_take, List.take_range, Nat.min_eq_left h]
abbrev nmQ : List Str := nmL 8 ++ [("q" : Str)]
theorem out8 : outN ((nmL 8).map fun z => plain z 1) [("a", [])] [] = none := by decide +kernel
section
variable {P : Program} {w : World} {K : PySem.W.Frag} {mg : Str → Option Value} {base : Heap} {C CS CPo CSv CI CU CT : Addr}
local macro_rules | `(tactic| walk_at "rd1") => `(tactic| first
  | with_reducible refine g_seq ?_
  | with_reducible refine g_asg ?_
  | with_reducible refine g_name ?_
  | with_reducible refine g_c ?_
  | with_reducible refine g_op ?_
  | with_reducible refine g_ifS ?_
  | with_reducible refine g_if ?_
  | with_reducible refine g_test ?_
  | with_reducible refine g_B ?_
  | with_reducible refine g_bl ?_
  | with_reducible refine g_blV ?_
  | with_reducible refine g_not ?_
  | with_reducible refine g_and ?_
  | with_reducible refine g_or ?_
  | with_reducible refine g_notV ?_
  | with_reducible refine g_andV ?_
  | with_reducible refine g_orV ?_
  | with_reducible refine g_ret ?_
  | with_reducible refine g_drop ?_
  | with_reducible refine g_next ?_
  | with_reducible refine g_retN ?_
  | with_reducible refine g_call ?_
  | with_reducible refine g_cb ?_
  | with_reducible refine g_cons ?_
  | with_reducible refine g_nil ?_
  | with_reducible refine g_tup ?_
  | with_reducible refine g_lst ?_
  | with_reducible refine g_prop ?_
  | with_reducible refine g_fld ?_
  | with_reducible refine g_meth ?_
  | with_reducible refine g_chain ?_
  | with_reducible refine g_yes ?_
  | with_reducible refine g_make ?_
  | with_reducible refine g_makeK ?_
  | with_reducible refine g_gsub ?_
  | with_reducible refine g_sfld ?_
  | with_reducible refine g_un ?_
  | with_reducible refine g_bm ?_
  | with_reducible refine g_iteT ?_
  | with_reducible refine g_iteF ?_
  | with_reducible refine g_I0 ?_
  | with_reducible refine g_add ?_
  | with_reducible refine g_sub ?_
  | ((with_reducible refine' g_var ?hv ?_); (case hv => rfl))
  | ((with_reducible refine g_eq ?hv ?_); (case hv => rfl))
  | ((with_reducible refine g_ne ?hv ?_); (case hv => rfl)))
local macro_rules | `(tactic| walk_at "rd") => `(tactic| repeat (walk_at "rd1"))

local macro_rules | `(tactic| walk_at "ty") => `(tactic| first | exact .non | exact .bl _ | exact .int _ | exact .str _ | exact .lst (by assumption) | exact .tup (by assumption) | exact .dK (by assumption) | exact .kTup (by assumption) (by assumption))
local macro_rules | `(tactic| walk_at "isiF") => `(tactic| refine g_isi (by walk_at "ty") (b := false) (by decide +kernel) ?_)
local macro_rules | `(tactic| walk_at "isiT") => `(tactic| refine g_isi (by walk_at "ty") (b := true) (by decide +kernel) ?_)

theorem sys_goR {H1 : Hp} {x dx pl sv : Addr} {ps : Ps} {rr : List Addr} {rs : List Rw} {R : Hp → Prop} {E : XK} (nx : H1 x = none) (nd : H1 dx = none) (hpl : SeqV K H1 pl (rfP ps)) (hpa : PolsAt K C H1 ps) (l8 : ps.length ≤ 8) (pn : (nmP ps).Nodup)
    (hsv : SeqV K H1 sv (rr.map V.ref)) (hsr : SrvAt K H1 rr rs) (hra : RwsAt K H1 rs) (r1 : 1 ≤ rs.length) (r6 : rs.length ≤ 6) (rn : (nmR rs).Nodup) (ok : sysOut ps rs [] = none) (k : ∀ H', Same H1 H' → SysAt K C CS H' x ps rs → R H') :
    spSys K C CS CI CU CT (.ref x :: ([.ref pl, .ref sv] ++ [])) (upd (upd H1 dx (.own x)) x (.ins CS dx [])) (fun v H2 => v = .non ∧ R H2) E :=
  ⟨x, dx, pl, sv, ps, rr, rs, H1, rfl, upd_same, nx, same_ins nx nd, hpl, hpa, l8, pn, hsv, hsr, hra, r1, r6, rn, .inl ⟨ok, fun H' S sy => ⟨rfl, k H' S sy⟩⟩⟩
theorem rw_nil {H : Hp} {z : Str} {c : Addr} (t : TupV K H c []) (hz : isNm z = true) : RwAt K H ⟨z, c, [], []⟩ := ⟨t, (by unfold RepB; rfl), hz, by show (pio [] 0).length ≤ 1000; rw [pio_nil]; exact Nat.zero_le _⟩
theorem lay_strs {H : Hp} {l : Addr} {ss : List Str} (h : H l = some (.lst (ss.map V.str))) (hn : ∀ z ∈ ss, isNm z = true) : Dp K H (.ref l) (.list (ss.map PyData.str)) ∧ Lay (.list (ss.map PyData.str)) 1 :=
  ⟨.lst (SqL.of h) (dp_strs ss), ⟨(good_names hn).list.cl, (good_names hn).list.dp⟩⟩
theorem ne_same {H : Hp} {Q : VK} {x y : V} {d : PyData} {e : Nat} (hx : Dp K H x d) (hy : Dp K H y d) (l : Lay d e) (he : e ≤ 64) (q : Q (.bl false) H) : rNeD K x y H Q := ⟨d, d, hx, hy, l.shaped he, l.shaped he, by rw [l.refl]; exact q⟩
/-- any system at all, in a lambda -/
abbrev spAny (K : PySem.W.Frag) (C CS CPo CSv CI CU CT : Addr) : Sp := fun vs H Q E => spSys K C CS CI CU CT vs H Q E ∨ (spSysE1 K C CPo vs H Q E ∨ spSysE2 K C CSv vs H Q E)
theorem any_pol {H : Hp} {x dx : Addr} {pl sv n : V} {Q : VK} {E : XK} (nx : H x = none) (nd : H dx = none) (b : BadPols K C H pl n) (er : ErV CPo "number" H E n) : spAny K C CS CPo CSv CI CU CT (.ref x :: ([pl, sv] ++ [])) (upd (upd H dx (.own x)) x (.ins CS dx [])) Q E :=
  .inr (.inl ⟨.ref x, pl, sv, n, H, rfl, same_ins nx nd, b, er⟩)
theorem any_srv {H : Hp} {x dx pl : Addr} {sv n : V} {ps : Ps} {Q : VK} {E : XK} (nx : H x = none) (nd : H dx = none) (hpl : SeqV K H pl (rfP ps)) (hpa : PolsAt K C H ps) (l8 : ps.length ≤ 8) (pn : (nmP ps).Nodup) (b : BadServs K H sv n) (er : ErV CSv "number" H E n) :
    spAny K C CS CPo CSv CI CU CT (.ref x :: ([.ref pl, sv] ++ [])) (upd (upd H dx (.own x)) x (.ins CS dx [])) Q E :=
  .inr (.inr ⟨.ref x, sv, n, pl, ps, H, rfl, same_ins nx nd, hpl, hpa, l8, pn, b, er⟩)
/-- policies of these names, as far as they are made -/
def PvP (K : PySem.W.Frag) (C : Addr) (zs : List Str) (H0 : Hp) (Dd : Addr) (i : Nat) (H' : Hp) : Prop := ∃ ps : Ps, H' Dd = some (.lst (rfP ps)) ∧ PolsAt K C H' ps ∧ ps.map (·.2) = ((zs.take i).map fun z => plain z 1) ∧ Same H0 H'
theorem pvp_new {zs : List Str} {H0 : Hp} {Dd : Addr} (h : H0 Dd = none) : PvP K C zs H0 Dd 0 (upd H0 Dd (.lst [])) := ⟨[], upd_same, (fun x hx => by cases hx), rfl, same_new h⟩
theorem pvp_step {H0 H5 : Hp} {Dd y : Addr} {ps : Ps} {z : Str} {zs : List Str} {i : Nat} (D0 : H0 Dd = none) (h : H5 Dd = some (.lst (rfP ps))) (S : Same H0 H5) (pa : PolsAt K C H5 ps) (py : PolAt K C H5 y (plain z 1)) (hz : isNm z = true) (e : ps.map (·.2) = ((zs.take i).map fun z => plain z 1)) (hzi : zs[i]? = some z) :
    PvP K C zs H0 Dd (i + 1) (upd H5 Dd (.lst (rfP ps ++ [.ref y]))) := by
  have k := Kp.upd (ys := rfP ps ++ [.ref y]) h
  refine ⟨ps ++ [(y, plain z 1)], ?_, fun x hx => ?_, ?_, same_upd D0 S⟩
  · rw [upd_same]; show _ = some (HO.lst ((ps ++ [(y, plain z 1)]).map fun x => V.ref x.1)); rw [List.map_append]; rfl
  · rcases List.mem_append.mp hx with hx | hx
    · exact ⟨(pa x hx).1.kp k, (pa x hx).2⟩
    · rw [List.mem_singleton.mp hx]; exact ⟨py.kp k, ok_plain hz (by decide) (by decide)⟩
  · rw [List.map_append, e, List.take_add_one, hzi, List.map_append]; rfl
theorem pvp_len {zs : List Str} {ps : Ps} {i : Nat} (e : ps.map (·.2) = ((zs.take i).map fun z => plain z 1)) : ps.length = min i zs.length := by
  rw [← List.length_map (f := fun x : Addr × Pol => x.2), e, List.length_map, List.length_take]
theorem pvp_nm {zs : List Str} {ps : Ps} (e : ps.map (·.2) = (zs.map fun z => plain z 1)) : nmP ps = zs := by
  have := congrArg (List.map fun q : Pol => q.z) e
  rw [List.map_map, List.map_map] at this
  exact this.trans (List.map_id' zs)
theorem seqN {H H' : Hp} {a : Addr} {xs : List V} (e : Xn H H') (h : SeqV K H a xs) : SeqV K H' a xs := h.imp (fun h => e _ _ h (by intro _ z; cases z)) fun h => h.kp (Kp.extN e)
theorem BadPols.extN {H H' : Hp} {v n : V} (e : Xn H H') (h : BadPols K C H v n) : BadPols K C H' v n := by
  rcases h with ⟨rfl, ⟨m, ty, m1, m2⟩ | ⟨a, xs, rfl, ha, hl⟩⟩ | ⟨a, xs, ps, y, rfl, ha, hl, hy, ht, pa, hnd, bad, rfl⟩
  · exact .inl ⟨rfl, .inl ⟨m, tyN e ty, m1, m2⟩⟩
  · exact .inl ⟨rfl, .inr ⟨a, xs, rfl, seqN e ha, hl⟩⟩
  · refine .inr ⟨a, xs, ps, y, rfl, seqN e ha, hl, hy, ht, pa.kp (Kp.extN e), hnd, ?_, rfl⟩
    rcases bad with ⟨m, ty⟩ | ⟨x, ex, px, hm⟩
    · exact .inl ⟨m, tyN e ty⟩
    · exact .inr ⟨x, ex, px.kp (Kp.extN e), hm⟩
theorem BadRow.extN {H H' : Hp} {v : V} (e : Xn H H') (h : BadRow K H v) : BadRow K H' v := by
  rcases h with ⟨m, ty, z⟩ | ⟨a, xs, ea, t, h⟩
  · exact .inl ⟨m, tyN e ty, z⟩
  · refine .inr ⟨a, xs, ea, t.kp (Kp.extN e), h.imp id ?_⟩
    rintro ⟨x, y, n, m, h1, h2, h3, h4⟩
    exact ⟨x, y, n, m, h1, tyN e h2, tyN e h3, h4⟩
theorem BadServs.extN {H H' : Hp} {v n : V} (e : Xn H H') (h : BadServs K H v n) : BadServs K H' v n := by
  rcases h with ⟨rfl, ⟨m, ty, m1, m2⟩ | ⟨a, xs, rfl, ha, hl⟩⟩ | ⟨a, xs, rr, rs, y, rfl, ha, hl, hy, ht, sr, ra, hnd, bad, rfl⟩
  · exact .inl ⟨rfl, .inl ⟨m, tyN e ty, m1, m2⟩⟩
  · exact .inl ⟨rfl, .inr ⟨a, xs, rfl, seqN e ha, hl⟩⟩
  · refine .inr ⟨a, xs, rr, rs, y, rfl, seqN e ha, hl, hy, ht, sr.kp (Kp.extN e), ra.kp (Kp.extN e), hnd, ?_, rfl⟩
    rcases bad with b | ⟨a, c, z, ea, t, tc, h⟩
    · exact .inl (b.extN e)
    · exact .inr ⟨a, c, z, ea, t.kp (Kp.extN e), tyN e tc, h⟩
def spLists (Ts : List (Addr × Str)) (K : PySem.W.Frag) (C : Addr) : Sp := fun vs H Q _ => ∃ (D p1 p2 : Addr), vs = [.ref D] ∧ H D = some (.lst [.ref p1, .ref p2]) ∧ PolAt K C H p1 qP ∧ PolAt K C H p2 qQ ∧ LamX.Tabs Ts H ∧ ∀ H', Xn H H' → LamX.Tabs Ts H' → Q (.bl true) H'
theorem ok_lists {Ts : List (Addr × Str)} {g c Pt ago fI fS : Addr} {fdL fdI fdS : FuncData} (TX : Txt K mg) (Z : Xs K mg CPo CSv CI CU) (DL : MkL P w K mg base Ts g fdL c Pt "_law_lists_right.<locals>.<lambda>") (D : DefC K mg "_law_lists_right" s_law_lists_right ["_law_good"] (.ref c))
    (TS : STx K CS) (M : Mk K C fI) (GI : FnOk P w K mg base CX0 6 fI fdI psP (spInit K C)) (gP : mg "Policy" = some (.ref C)) (ds0 : List Value) (v0 : Vals [.int 1, .non, .non, .bl false, .ref ago] ds0) (b0 : Binds K fdI psP ds0) (tgo : ∀ H, TupV K H ago En.go.vs)
    (MS : Mk K CS fS) (GX : FnOk P w K mg base (CX P w) 10 fS fdS psS (spSys K C CS CI CU CT)) (GA : FnOk P w K mg base (CX P w) 10 fS fdS psS (spAny K C CS CPo CSv CI CU CT)) (gS : mg "System" = some (.ref CS)) (bS : Binds K fdS psS [])
    (m_policies : Mth P w K mg base 1 CS "policies" (spNames K C CS fun ps _ => nmP ps)) : Mx.CalG P w K mg base 17 "_law_lists_right" (spLists Ts K C) := by
  have T := TX
  have GS := fn_calm GX
  refine calG_ofC D sc_law_lists_right (fun vs H Q E h => ?_) (fun f A outer st H vs Q E hgA hr h => ?_)
  · obtain ⟨D, p1, p2, rfl, _⟩ := h
    rfl
  · obtain ⟨D, p1, p2, rfl, hD, a1, a2, tabs, k⟩ := h
    have hrT : Room 15 (A.deeper (envOfC "_law_lists_right" (defScope s_law_lists_right) st.heap.objs.size f (.ref c))) := hr.mono (by decide)
    have hrS : Room 11 (A.deeper (envOfC "_law_lists_right" (defScope s_law_lists_right) st.heap.objs.size f (.ref c))) := hr.mono (by decide)
    have hrI : Room 7 (A.deeper (envOfC "_law_lists_right" (defScope s_law_lists_right) st.heap.objs.size f (.ref c))) := hr.mono (by decide)
    have hu : (A.deeper (envOfC "_law_lists_right" (defScope s_law_lists_right) st.heap.objs.size f (.ref c))).units + 64 < cLine := hr.units
    have hg : (A.deeper (envOfC "_law_lists_right" (defScope s_law_lists_right) st.heap.objs.size f (.ref c))).guards = some [] := hgA
    refine ⟨_, (pss_cons (ps_set (i := 1) sc_law_lists_right.nd rfl (Or.inr rfl) (pe_lc (own := [("_law_turn", 2)]) (g := gName 2) (by rfl) sc_law_lists_right.nd (pi_range1 (by rfl) T.n_range (pa_cons pe_int pa_nil)) (blkOk_by (own := [("_law_turn", 2)]) (N := N_law_lists_right) (sc := defScope s_law_lists_right) (by decide +kernel)) (fun _ _ _ _ _ => pg_name (i := 2) sc_law_lists_right.nd rfl (Or.inl rfl)) (fun _ _ _ _ _ => pts_nil) (fun _ _ _ _ _ => (pe_op op_mulStr pe_str (pe_op op_add (pv 2) pe_int)))))
      (pss_cons (ps_set (i := 3) sc_law_lists_right.nd rfl (Or.inl rfl) (pe_make MS GS hrS (by rfl) gS bS .nil pass0 (pa_cons (pe_lc (own := [("_law_name", 4)]) (g := gName 4) (by rfl) sc_law_lists_right.nd (pi_list (pv 1)) (blkOk_by (own := [("_law_name", 4)]) (N := N_law_lists_right) (sc := defScope s_law_lists_right) (by decide +kernel)) (fun _ _ _ _ _ => pg_name (i := 4) sc_law_lists_right.nd rfl (Or.inl rfl)) (fun _ _ _ _ _ => pts_nil) (fun _ _ _ _ _ => (pe_make M GI hrI (by rfl) gP b0 v0 pass0 (pa_cons (pv 4) (pa_cons pe_int pa_nil))))) (pa_cons (pe_lst (pa_cons (pe_tup (pa_cons pe_str (pa_cons (pe_tup pa_nil) pa_nil))) pa_nil)) pa_nil))))
      (pss_cons (ps_if (pt_cmpR (op_neD hu) (pe_m0 m_policies hr (by decide) (pv 3)) (pv 1) (nomark _)) (pss_one (ps_ret pe_bl)) pss_nil)
      (pss_cons (ps_if (pt_cmpR (op_neD hu) (pe_told DL.dl DL.hm DL.bl Z TX hg DL.tb rfl DL.mt DL.ut hrT (by rfl) (LamX.lamS_by (by rfl)) rfl (fun _ _ _ _ _ => rfl) (fun A outer s H E f c' hrl => (pe_make MS GA (hrl.mono (by decide)) (by rfl) gS bS .nil pass_lam (pa_cons (pe_lc (own := [("_law_name", 4)]) (g := gName 4) (by rfl) sc_law_lists_right.nd (pi_listK (K := K) rfl (pe_op op_cat (pv 1) (pe_lst (pa_cons pe_str pa_nil)))) (blkOk_by (own := [("_law_name", 4)]) (N := N_law_lists_right) (by rfl)) (fun _ _ _ _ _ => pg_name (i := 4) sc_law_lists_right.nd rfl (Or.inl rfl)) (fun _ _ _ _ _ => pts_nil) (fun _ _ _ _ _ => (pe_make M GI (hrl.mono (by decide)) (by rfl) gP b0 v0 pass0 (pa_cons (pv 4) (pa_cons pe_int pa_nil))))) (pa_cons pe_non pa_nil))))) (pe_lst (pa_cons pe_str (pa_cons pe_non pa_nil))) (nomark _)) (pss_one (ps_ret pe_bl)) pss_nil)
      (pss_cons (ps_for PassesOwn.never rfl (pi_list (pe_lst (pa_cons pe_non (pa_cons pe_int (pa_cons pe_str (pa_cons pe_dnewK (pa_cons (pe_op op_cat (pe_lc (own := [("_law_turn", 2)]) (g := gName 2) (by rfl) sc_law_lists_right.nd (pi_range1 (by rfl) T.n_range (pa_cons pe_int pa_nil)) (blkOk_by (own := [("_law_turn", 2)]) (N := N_law_lists_right) (sc := defScope s_law_lists_right) (by decide +kernel)) (fun _ _ _ _ _ => pg_name (i := 2) sc_law_lists_right.nd rfl (Or.inl rfl)) (fun _ _ _ _ _ => pts_nil) (fun _ _ _ _ _ => (pe_make M GI hrI (by rfl) gP b0 v0 pass0 (pa_cons (pe_op op_mulStr pe_str (pe_op op_add (pv 2) pe_int)) (pa_cons pe_int pa_nil))))) (pv 0)) pa_nil))))))) (pg_name (i := 5) sc_law_lists_right.nd rfl (Or.inr rfl)) (pss_one (ps_if (pt_cmpR (op_neD hu) (pe_told DL.dl DL.hm DL.bl Z TX hg DL.tb rfl DL.mt DL.ut hrT (by rfl) (LamX.lamS_by (by rfl)) rfl (fun _ _ _ _ _ => rfl) (fun A outer s H E f c' hrl => (pe_make MS GA (hrl.mono (by decide)) (by rfl) gS bS .nil pass_lam (pa_cons (pv 5) (pa_cons pe_non pa_nil))))) (pe_lst (pa_cons pe_str (pa_cons pe_non pa_nil))) (nomark _)) (pss_one (ps_ret pe_bl)) pss_nil)))
      (pss_cons (ps_for PassesOwn.never rfl (pi_list (pe_lst (pa_cons pe_non (pa_cons pe_int (pa_cons pe_str (pa_cons pe_dnewK (pa_cons (pe_lst pa_nil) (pa_cons (pe_tup pa_nil) (pa_cons (pe_lc (own := [("_law_turn", 2)]) (g := gName 2) (by rfl) sc_law_lists_right.nd (pi_range1 (by rfl) T.n_range (pa_cons pe_int pa_nil)) (blkOk_by (own := [("_law_turn", 2)]) (N := N_law_lists_right) (sc := defScope s_law_lists_right) (by decide +kernel)) (fun _ _ _ _ _ => pg_name (i := 2) sc_law_lists_right.nd rfl (Or.inl rfl)) (fun _ _ _ _ _ => pts_nil) (fun _ _ _ _ _ => (pe_tup (pa_cons (pe_op op_add_str pe_str (pe_op op_mulStr pe_str (pv 2))) (pa_cons (pe_tup pa_nil) pa_nil))))) pa_nil))))))))) (pg_name (i := 5) sc_law_lists_right.nd rfl (Or.inr rfl)) (pss_one (ps_if (pt_cmpR (op_neD hu) (pe_told DL.dl DL.hm DL.bl Z TX hg DL.tb rfl DL.mt DL.ut hrT (by rfl) (LamX.lamS_by (by rfl)) rfl (fun _ _ _ _ _ => rfl) (fun A outer s H E f c' hrl => (pe_make MS GA (hrl.mono (by decide)) (by rfl) gS bS .nil pass_lam (pa_cons (pv 0) (pa_cons (pv 5) pa_nil))))) (pe_lst (pa_cons pe_str (pa_cons pe_non pa_nil))) (nomark _)) (pss_one (ps_ret pe_bl)) pss_nil)))
      (pss_one (ps_ret pe_bl)))))))), ?_⟩
    walk_at "rd"
    refine g_lc (g_irng ?_)
    walk_at "rd"
    refine ⟨8, rfl, by decide, by decide, fun Dn Dn0 => ?_⟩
    refine lc_range (lo := 0) (n := (8 : Int).toNat) (fun i H' => Same H H' ∧ H' Dn = some (.lst ((nmL i).map V.str))) ⟨same_new Dn0, upd_same⟩ ?_ ?_
    · rintro i H1 hi ⟨S1, h1⟩
      have hi : i < 8 := hi
      walk_at "rd"
      refine ⟨rfl, ?_⟩
      walk_at "rd"
      refine ⟨_, _, rfl, rfl, ok_p i hi, ?_⟩
      refine ⟨_, h1, small1000 (by rw [List.length_map, List.length_map, List.length_range]; omega), same_upd Dn0 S1, ?_⟩
      rw [upd_same]
      show _ = some (HO.lst (((List.range (i + 1)).map nmz).map V.str))
      rw [List.range_succ, List.map_append, List.map_append]
      rfl
    rintro H1 ⟨S1, hDn⟩
    have hDn : H1 Dn = some (.lst ((nmL 8).map V.str)) := hDn
    have hD := S1 _ _ hD
    have a1 := a1.ext S1
    have a2 := a2.ext S1
    have tabs := tabs.ext S1
    walk_at "rd"
    refine g_lc (g_ilist ?_)
    walk_at "rd"
    refine ⟨Dn, rfl, ⟨_, SqL.of hDn⟩, fun Dp Dp0 => ?_⟩
    refine lc_list (K := K) (a := Dn) (xs := (nmL 8).map V.str) (fun i H' => PvP K C (nmL 8) H1 Dp i H') (pvp_new Dp0) (fun i H' _ ⟨_, _, _, _, e⟩ => SqL.of (e _ _ hDn)) ?_ ?_
    · rintro i v H2 hv ⟨ps, h2, pa, ep, S2⟩
      rw [List.getElem?_map] at hv
      obtain ⟨z, hz, rfl⟩ := Option.map_eq_some_iff.mp hv
      have hi := (List.getElem?_eq_some_iff.mp hz).1
      have hl := pvp_len ep
      walk_at "rd"
      refine ⟨rfl, ?_⟩
      walk_at "rd"
      intro y dy ny ndy ney
      refine pol_new (q := plain z 1) rfl ny ndy (ok_plain (nm_ok z (List.mem_of_getElem? hz)) (by decide) (by decide)) (tgo _) (.inl ⟨rfl, fun _ => rfl⟩) fun H3 S3 py => ?_
      exact ⟨_, S3 _ _ h2, small1000 (by rw [List.length_map]; simp at hl; omega), pvp_step Dp0 (S3 _ _ h2) (Same.trans S2 S3) (pa.ext S3) py (nm_ok z (List.mem_of_getElem? hz)) ep hz⟩
    rintro H2 ⟨ps, h2, pa, ep, S2⟩
    rw [show ((nmL 8).map V.str).length = 8 from rfl, show (nmL 8).take 8 = nmL 8 from rfl] at ep
    have hDn := S2 _ _ hDn
    have hD := S2 _ _ hD
    have a1 := a1.ext S2
    have a2 := a2.ext S2
    have tabs := tabs.ext S2
    walk_at "rd"
    refine tup_go ?hl fun t0 H3 t00 S3 ht0 => ?_
    case hl => exact Nat.zero_le _
    walk_at "rd"
    refine tup_go ?hl fun t1 H4 t10 S4 ht1 => ?_
    case hl => exact Nat.le_of_ble_eq_true rfl
    walk_at "rd"
    refine lst_go ?hl fun l1 H5 l10 S5 hl1 => ?_
    case hl => exact Nat.le_of_ble_eq_true rfl
    walk_at "rd"
    intro x dx nx ndx ne
    have S25 := Same.trans S3 (Same.trans S4 S5)
    have ht0 := S5 _ _ (S4 _ _ ht0)
    have ht1 := S5 _ _ ht1
    have nps : nmP ps = nmL 8 := pvp_nm ep
    have lps : ps.length = 8 := by rw [← List.length_map (f := fun x : Addr × Pol => x.2.z)]; show (nmP ps).length = 8; rw [nps]; rfl
    refine sys_goR (ps := ps) (rr := [t1]) (rs := [⟨"a", t0, [], []⟩]) nx ndx (.inl (S25 _ _ h2)) (pa.ext S25) (by omega) (by rw [nps]; exact nm_nd) (.inl hl1) (.one ⟨.tup ht1, SqT.of ht1⟩) (fun y hy => by rw [List.mem_singleton.mp hy]; exact rw_nil ⟨.tup ht0, SqT.of ht0⟩ (by decide +kernel)) (by show 1 ≤ 1; decide) (by show 1 ≤ 6; decide) (by show ([("a" : Str)]).Nodup; decide +kernel) (by rw [out_at, ep]; exact out8) (fun H6 S6 sy => ?_)
    have S26 := Same.trans S25 S6
    have hDn := S26 _ _ hDn
    have hD := S26 _ _ hD
    have a1 := a1.ext S26
    have a2 := a2.ext S26
    have tabs := tabs.ext S26
    walk_at "rd"
    obtain ⟨dx1, dp1, db1, ds1, h0, _⟩ := id sy.at_
    refine ⟨x, dx1, _, rfl, h0, rfl, ?_⟩
    walk_at "rd"
    refine ⟨x, ps, _, rfl, sy, fun r H7 S7 r0 hr => ?_⟩
    have hr : H7 r = some (.lst ((nmL 8).map V.str)) := by
      rw [← nps]; exact hr
    have hDn := S7 _ _ hDn
    have hD := S7 _ _ hD
    have a1 := a1.ext S7
    have a2 := a2.ext S7
    have tabs := tabs.ext S7
    walk_at "rd"
    refine ne_same (lay_strs hr nm_ok).1 (lay_strs hDn nm_ok).1 (lay_strs (K := K) hr nm_ok).2 (by decide) ?_
    walk_at "rd"
    have e07 : Xn H H7 := LamX.ExtN.of (Same.trans S1 (Same.trans S2 (Same.trans S26 S7)))
    clear S1 S2 S3 S4 S5 S25 S26 S6 S7 ht0 ht1 hl1 h2 pa sy h0 hr
    refine ⟨tabs, fun H8 q8 tb8 => ?_⟩
    have hDn8 := q8 _ _ hDn (by intro _ z; cases z)
    refine told_pol (n := .non) (fun E Q' er => ?_) (fun H9 l9 l0 S9 hl9 => ?_)
    · walk_at "rd"
      refine g_lc (g_ilist ?_)
      walk_at "rd"
      refine lst_go ?hl fun lq G1 _ T1 hlq => ?_
      case hl => exact Nat.le_of_ble_eq_true rfl
      refine ⟨Dn, lq, _, _, rfl, rfl, T1 _ _ hDn8, hlq, sz_le (by show 9 ≤ 1000; decide), fun ln hln => ?_⟩
      have T2 := same_new (o := .lst ((nmL 8).map V.str ++ [V.str "q"])) hln
      have h2 : upd G1 ln (.lst ((nmL 8).map V.str ++ [V.str "q"])) ln = some (.lst (nmQ.map V.str)) := by rw [upd_same, List.map_append]; rfl
      generalize upd G1 ln (.lst ((nmL 8).map V.str ++ [V.str "q"])) = G2 at T2 h2 ⊢
      refine ⟨ln, rfl, ⟨_, SqL.of h2⟩, fun Dp Dp0 => ?_⟩
      have nok : ∀ z ∈ nmQ, isNm z = true := by decide +kernel
      refine lc_list (K := K) (a := ln) (xs := nmQ.map V.str) (fun i H' => PvP K C nmQ G2 Dp i H') (pvp_new Dp0) (fun i H' _ ⟨_, _, _, _, e⟩ => SqL.of (e _ _ h2)) ?_ ?_
      · rintro i v G3 hv ⟨ps, h3, pa, ep, T3⟩
        rw [List.getElem?_map] at hv
        obtain ⟨z, hz, rfl⟩ := Option.map_eq_some_iff.mp hv
        have hi := (List.getElem?_eq_some_iff.mp hz).1
        have hl := pvp_len ep
        walk_at "rd"
        refine ⟨rfl, ?_⟩
        walk_at "rd"
        intro y dy ny ndy ney
        refine pol_new (q := plain z 1) rfl ny ndy (ok_plain (nok z (List.mem_of_getElem? hz)) (by decide) (by decide)) (tgo _) (.inl ⟨rfl, fun _ => rfl⟩) fun G4 T4 py => ?_
        exact ⟨_, T4 _ _ h3, small1000 (by rw [List.length_map]; simp at hl; omega), pvp_step Dp0 (T4 _ _ h3) (Same.trans T3 T4) (pa.ext T4) py (nok z (List.mem_of_getElem? hz)) ep hz⟩
      rintro G3 ⟨ps, h3, pa, ep, T3⟩
      walk_at "rd"
      intro x dx nx ndx ne
      have hl := pvp_len ep
      refine any_pol nx ndx (.inl ⟨rfl, .inr ⟨Dp, _, rfl, .inl h3, ?_⟩⟩) (er.ext (Same.trans T1 (Same.trans T2 T3)))
      rw [List.length_map, hl]
      show 8 < min 9 9
      decide
    walk_at "rd"
    refine lst_go ?hl fun d10 H10 _ S10 hd10 => ?_
    case hl => exact Nat.le_of_ble_eq_true rfl
    refine ne_two (S10 _ _ hl9) hd10 (.str _) .non (Lay.str (by decide +kernel) (by decide +kernel) : Lay _ 0) .none (by decide) ?_
    have S810 := Same.trans S9 S10
    have e10 := (e07.trans q8).trans (LamX.ExtN.of S810)
    have tb10 := tb8.ext S810
    have hD10 := S810 _ _ (q8 _ _ hD (by intro _ z; cases z))
    have a10 := (a1.kp (Kp.extN q8)).ext S810
    have b10 := (a2.kp (Kp.extN q8)).ext S810
    clear hDn hDn8 hD a1 a2 tabs e07 q8 tb8 S9 S10 S810 hl9 hd10 nps lps ep nx ndx ne
    walk_at "rd"
    -- values that are no policies
    refine g_for (g_ilist ?_)
    walk_at "rd"
    refine fun ed hed => ?_
    have S11 : Same H10 (upd H10 ed (.dK [])) := same_new hed
    have h11d : upd H10 ed (.dK []) ed = some (.dK []) := upd_same
    generalize upd H10 ed (.dK []) = H11 at S11 h11d ⊢
    walk_at "rd"
    refine g_lc (g_irng ?_)
    walk_at "rd"
    refine ⟨8, rfl, by decide, by decide, fun Dp Dp0 => ?_⟩
    refine lc_range (lo := 0) (n := (8 : Int).toNat) (fun i H' => PvP K C (nmL 8) H11 Dp i H') (pvp_new Dp0) ?_ ?_
    · rintro i H12 hi ⟨ps, h2, pa, ep, S2⟩
      have hi : i < 8 := hi
      have hl := pvp_len ep
      walk_at "rd"
      refine ⟨rfl, ?_⟩
      walk_at "rd"
      refine ⟨_, _, rfl, rfl, ok_p i hi, ?_⟩
      walk_at "rd"
      intro y dy ny ndy ney
      refine pol_new (q := plain (nmz i) 1) rfl ny ndy (ok_plain (nm_p i hi) (by decide) (by decide)) (tgo _) (.inl ⟨rfl, fun _ => rfl⟩) fun H3 S3 py => ?_
      exact ⟨_, S3 _ _ h2, small1000 (by rw [List.length_map]; simp at hl; omega), pvp_step Dp0 (S3 _ _ h2) (Same.trans S2 S3) (pa.ext S3) py (nm_p i hi) ep (nmL_at hi)⟩
    rintro H12 ⟨ps, h12, pa, ep, S12⟩
    have lps : ps.length = 8 := by
      have := pvp_len ep
      rw [this]; rfl
    have S1012 := Same.trans S11 S12
    walk_at "rd"
    refine ⟨Dp, D, _, _, rfl, rfl, h12, S1012 _ _ hD10, sz_le (by rw [List.length_map]; show ps.length + 2 ≤ 1000; omega), fun l5 l50 => ?_⟩
    have S13 := same_new (o := .lst (rfP ps ++ [.ref p1, .ref p2])) l50
    have h13 : upd H12 l5 (.lst (rfP ps ++ [.ref p1, .ref p2])) l5 = some (.lst (rfP ps ++ [.ref p1, .ref p2])) := upd_same
    generalize upd H12 l5 (.lst (rfP ps ++ [.ref p1, .ref p2])) = H13 at S13 h13 ⊢
    walk_at "rd"
    refine lst_go ?hl fun m1 H14 m10 S14 hm1 => ?_
    case hl => exact Nat.le_of_ble_eq_true rfl
    have S1014 := Same.trans S1012 (Same.trans S13 S14)
    have h5 := S14 _ _ h13
    have hd5 := S14 _ _ (S13 _ _ (S12 _ _ h11d))
    have vb : ∀ v ∈ ([.non, .int 5, .str "pq", .ref ed, .ref l5] : List V), BadPols K C H14 v .non := fun v hv => by
      simp only [List.mem_cons, List.not_mem_nil, or_false] at hv
      rcases hv with rfl | rfl | rfl | rfl | rfl
      · exact .inl ⟨rfl, .inl ⟨_, .non, by decide, by decide⟩⟩
      · exact .inl ⟨rfl, .inl ⟨_, .int _, by decide, by decide⟩⟩
      · exact .inl ⟨rfl, .inl ⟨_, .str _, by decide, by decide⟩⟩
      · exact .inl ⟨rfl, .inl ⟨_, .dK hd5, by decide, by decide⟩⟩
      · exact .inl ⟨rfl, .inr ⟨_, _, rfl, .inl h5, by rw [List.length_append, List.length_map]; show 8 < ps.length + 2; omega⟩⟩
    have e14 := e10.trans (LamX.ExtN.of S1014)
    have tb14 := tb10.ext S1014
    have hD14 := S1014 _ _ hD10
    have a14 := a10.ext S1014
    have b14 := b10.ext S1014
    clear S11 S12 S13 S14 S1012 S1014 h5 hd5 h13 h12 h11d e10 tb10 hD10 a10 b10 pa ep lps
    refine ⟨m1, rfl, ⟨_, SqL.of hm1⟩, ?_⟩
    refine for_list (K := K) (a := m1) (xs := [.non, .int 5, .str "pq", .ref ed, .ref l5]) (fun i σ H' => ∃ o2 o4 o5 : Option V, σ = [some (.ref D), some (.ref Dn), o2, some (.ref x), o4, o5] ∧ Xn H14 H' ∧ LamX.Tabs Ts H') ⟨_, _, _, rfl, LamX.ExtN.refl _, tb14⟩ (fun i σ H' _ ⟨_, _, _, _, e, _⟩ => SqL.of (e _ _ hm1 (by intro _ z; cases z))) ?_ ?_
    · rintro i v σ H15 hv ⟨o2, o4, o5, rfl, e15, tb15⟩
      have bv := vb v (List.mem_of_getElem? hv)
      walk_at "rd"
      refine ⟨tb15, fun H16 q16 tb16 => ?_⟩
      have e16 := e15.trans q16
      refine told_pol (n := .non) (fun E Q' er => ?_) (fun H17 l17 l0 S17 hl17 => ?_)
      · walk_at "rd"
        intro x dx nx ndx ne
        exact any_pol nx ndx (bv.extN e16) er
      walk_at "rd"
      refine lst_go ?hl fun due H18 _ S18 hdue => ?_
      case hl => exact Nat.le_of_ble_eq_true rfl
      refine ne_two (S18 _ _ hl17) hdue (.str _) .non (Lay.str (by decide +kernel) (by decide +kernel) : Lay _ 0) .none (by decide) ?_
      walk_at "rd"
      exact ⟨_, _, _, rfl, e16.trans (LamX.ExtN.of (Same.trans S17 S18)), tb16.ext (Same.trans S17 S18)⟩
    rintro σ H20 ⟨o2, o4, o5, rfl, e20, tb20⟩
    have hD20 := e20 _ _ hD14 (by intro _ z; cases z)
    have a20 := a14.kp (Kp.extN e20)
    have b20 := b14.kp (Kp.extN e20)
    have e20 := e14.trans e20
    clear vb e14 tb14 hD14 a14 b14
    walk_at "rd"
    -- values that are no services
    refine g_for (g_ilist ?_)
    walk_at "rd"
    refine fun ed hed => ?_
    have S21 : Same H20 (upd H20 ed (.dK [])) := same_new hed
    have h21d : upd H20 ed (.dK []) ed = some (.dK []) := upd_same
    generalize upd H20 ed (.dK []) = H21 at S21 h21d ⊢
    walk_at "rd"
    refine lst_go ?hl fun el H22 _ S22 hel => ?_
    case hl => exact Nat.zero_le _
    walk_at "rd"
    refine tup_go ?hl fun et H23 _ S23 het => ?_
    case hl => exact Nat.zero_le _
    walk_at "rd"
    refine g_lc (g_irng ?_)
    walk_at "rd"
    refine ⟨7, rfl, by decide, by decide, fun Ds Ds0 => ?_⟩
    refine lc_range (lo := 0) (n := (7 : Int).toNat) (fun i H' => Same H23 H' ∧ ∃ rr : List V, rr.length = i ∧ H' Ds = some (.lst rr)) ⟨same_new Ds0, [], rfl, upd_same⟩ ?_ ?_
    · rintro i H24 hi ⟨S24, rr, hl, h24⟩
      have hi : i < 7 := hi
      walk_at "rd"
      refine ⟨rfl, ?_⟩
      walk_at "rd"
      refine ⟨_, _, rfl, rfl, ok_y i (by omega), ?_⟩
      refine ⟨_, _, rfl, rfl, len_y i (by omega), ?_⟩
      walk_at "rd"
      refine tup_go ?hl fun t1 G1 t10 T1 ht1 => ?_
      case hl => exact Nat.zero_le _
      walk_at "rd"
      refine tup_go ?hl fun t2 G2 t20 T2 ht2 => ?_
      case hl => exact Nat.le_of_ble_eq_true rfl
      exact ⟨_, T2 _ _ (T1 _ _ h24), small1000 (by omega), same_upd Ds0 (Same.trans S24 (Same.trans T1 T2)), rr ++ [.ref t2], by rw [List.length_append, hl]; rfl, upd_same⟩
    rintro H24 ⟨S24, rr, hrl, h24⟩
    have hrl : rr.length = 7 := hrl
    walk_at "rd"
    refine lst_go ?hl fun m2 H25 m20 S25 hm2 => ?_
    case hl => exact Nat.le_of_ble_eq_true rfl
    have T1 := Same.trans S24 S25
    have T2 := Same.trans S23 T1
    have T3 := Same.trans S22 T2
    have T4 := Same.trans S21 T3
    have vb : ∀ v ∈ ([.non, .int 5, .str "ab", .ref ed, .ref el, .ref et, .ref Ds] : List V), BadServs K H25 v .non := fun v hv => by
      simp only [List.mem_cons, List.not_mem_nil, or_false] at hv
      rcases hv with rfl | rfl | rfl | rfl | rfl | rfl | rfl
      · exact .inl ⟨rfl, .inl ⟨_, .non, by decide, by decide⟩⟩
      · exact .inl ⟨rfl, .inl ⟨_, .int _, by decide, by decide⟩⟩
      · exact .inl ⟨rfl, .inl ⟨_, .str _, by decide, by decide⟩⟩
      · exact .inl ⟨rfl, .inl ⟨_, .dK (T3 _ _ h21d), by decide, by decide⟩⟩
      · exact .inl ⟨rfl, .inr ⟨_, _, rfl, .inl (T2 _ _ hel), .inl rfl⟩⟩
      · exact .inl ⟨rfl, .inr ⟨_, _, rfl, .inr ⟨.tup (T1 _ _ het), SqT.of (T1 _ _ het)⟩, .inl rfl⟩⟩
      · exact .inl ⟨rfl, .inr ⟨_, _, rfl, .inl (S25 _ _ h24), .inr (by omega)⟩⟩
    have e25 := e20.trans (LamX.ExtN.of T4)
    have tb25 := tb20.ext T4
    have hD25 := T4 _ _ hD20
    have a25 := a20.ext T4
    have b25 := b20.ext T4
    clear T1 T2 T3 T4 S21 S22 S23 S24 S25 h21d hel het h24 e20 tb20 hD20 a20 b20
    refine ⟨m2, rfl, ⟨_, SqL.of hm2⟩, ?_⟩
    refine for_list (K := K) (a := m2) (xs := [.non, .int 5, .str "ab", .ref ed, .ref el, .ref et, .ref Ds]) (fun i σ H' => ∃ o2 o4 o5 : Option V, σ = [some (.ref D), some (.ref Dn), o2, some (.ref x), o4, o5] ∧ Xn H25 H' ∧ LamX.Tabs Ts H') ⟨_, _, _, rfl, LamX.ExtN.refl _, tb25⟩ (fun i σ H' _ ⟨_, _, _, _, e, _⟩ => SqL.of (e _ _ hm2 (by intro _ z; cases z))) ?_ ?_
    · rintro i v σ H15 hv ⟨o2, o4, o5, rfl, e15, tb15⟩
      have bv := vb v (List.mem_of_getElem? hv)
      walk_at "rd"
      refine ⟨tb15, fun H16 q16 tb16 => ?_⟩
      have e16 := e15.trans q16
      have hD16 := e16 _ _ hD25 (by intro _ z; cases z)
      have a16 := a25.kp (Kp.extN e16)
      have b16 := b25.kp (Kp.extN e16)
      refine told_srv (n := .non) (fun E Q' er => ?_) (fun H17 l17 l0 S17 hl17 => ?_)
      · walk_at "rd"
        intro x dx nx ndx ne
        refine any_srv (ps := [(p1, qP), (p2, qQ)]) nx ndx (.inl hD16) (fun y hy => ?_) (by show 2 ≤ 8; decide) (by show ([("p" : Str), "q"]).Nodup; decide +kernel) (bv.extN e16) er
        rcases List.mem_cons.mp hy with rfl | hy
        · exact ⟨a16, ok_qP⟩
        · rw [List.mem_singleton.mp hy]; exact ⟨b16, ok_qQ⟩
      walk_at "rd"
      refine lst_go ?hl fun due H18 _ S18 hdue => ?_
      case hl => exact Nat.le_of_ble_eq_true rfl
      refine ne_two (S18 _ _ hl17) hdue (.str _) .non (Lay.str (by decide +kernel) (by decide +kernel) : Lay _ 0) .none (by decide) ?_
      walk_at "rd"
      exact ⟨_, _, _, rfl, e16.trans (LamX.ExtN.of (Same.trans S17 S18)), tb16.ext (Same.trans S17 S18)⟩
    rintro σ H30 ⟨o2, o4, o5, rfl, e30, tb30⟩
    walk_at "rd"
    exact k _ (e25.trans e30) tb30
end
end K2

namespace K2
open PySem PySem.Spec PyProof.Rows L2 Mc Mx
section
variable {P : Program} {w : World} {K : PySem.W.Frag} {mg : Str → Option Value} {base : Heap} {C CS CPo CSv CI CU CT : Addr}
local macro_rules | `(tactic| walk_at "rd1") => `(tactic| first
  | with_reducible refine g_seq ?_
  | with_reducible refine g_asg ?_
  | with_reducible refine g_name ?_
  | with_reducible refine g_c ?_
  | with_reducible refine g_op ?_
  | with_reducible refine g_ifS ?_
  | with_reducible refine g_if ?_
  | with_reducible refine g_test ?_
  | with_reducible refine g_B ?_
  | with_reducible refine g_bl ?_
  | with_reducible refine g_blV ?_
  | with_reducible refine g_not ?_
  | with_reducible refine g_and ?_
  | with_reducible refine g_or ?_
  | with_reducible refine g_notV ?_
  | with_reducible refine g_andV ?_
  | with_reducible refine g_orV ?_
  | with_reducible refine g_ret ?_
  | with_reducible refine g_drop ?_
  | with_reducible refine g_next ?_
  | with_reducible refine g_retN ?_
  | with_reducible refine g_call ?_
  | with_reducible refine g_cb ?_
  | with_reducible refine g_cons ?_
  | with_reducible refine g_nil ?_
  | with_reducible refine g_tup ?_
  | with_reducible refine g_lst ?_
  | with_reducible refine g_prop ?_
  | with_reducible refine g_fld ?_
  | with_reducible refine g_meth ?_
  | with_reducible refine g_chain ?_
  | with_reducible refine g_yes ?_
  | with_reducible refine g_make ?_
  | with_reducible refine g_makeK ?_
  | with_reducible refine g_gsub ?_
  | with_reducible refine g_sfld ?_
  | with_reducible refine g_un ?_
  | with_reducible refine g_bm ?_
  | with_reducible refine g_iteT ?_
  | with_reducible refine g_iteF ?_
  | with_reducible refine g_I0 ?_
  | with_reducible refine g_add ?_
  | with_reducible refine g_sub ?_
  | ((with_reducible refine' g_var ?hv ?_); (case hv => rfl))
  | ((with_reducible refine g_eq ?hv ?_); (case hv => rfl))
  | ((with_reducible refine g_ne ?hv ?_); (case hv => rfl)))
local macro_rules | `(tactic| walk_at "rd") => `(tactic| repeat (walk_at "rd1"))

local macro_rules | `(tactic| walk_at "ty") => `(tactic| first | exact .non | exact .bl _ | exact .int _ | exact .str _ | exact .lst (by assumption) | exact .tup (by assumption) | exact .dK (by assumption) | exact .kTup (by assumption) (by assumption))
local macro_rules | `(tactic| walk_at "isiF") => `(tactic| refine g_isi (by walk_at "ty") (b := false) (by decide +kernel) ?_)
local macro_rules | `(tactic| walk_at "isiT") => `(tactic| refine g_isi (by walk_at "ty") (b := true) (by decide +kernel) ?_)

def spFB (K : PySem.W.Frag) (C : Addr) : Sp := fun vs H Q _ => ∃ (i : Int) (v : V), vs = [.int i, v] ∧ (((∃ m, Mc.TyB K H v m) ∧ Q (.int i) H) ∨ ∃ (a : Addr) (q : Pol), v = .ref a ∧ PolAt K C H a q ∧ Q (.int (if q.z = "p" then (if 1 > i then 1 else i) else 2)) H)
theorem ok_first_bad (T : Txt K mg) (D : Def K mg "_law_first_bad" s_law_first_bad ["_law_at", "_law_bad"]) (pr_name : Prp P w K mg base 1 C "name" (getSp C "_name")) (TC : CTxt K C) (IC : ICls K C) (gP : mg "Policy" = some (.ref C)) (OF : Off K C) : Cal P w K mg base 3 "_law_first_bad" (spFB K C) := by
  refine cal_of D sc_law_first_bad (fun vs H Q E h => ?_) (fun f cdv A outer s H vs Q E hr h => ?_)
  · obtain ⟨i, v, rfl, _⟩ := h
    rfl
  · obtain ⟨i, v, rfl, h⟩ := h
    refine ⟨_, (pss_cons (ps_if (pt_not (pt_val (pe_callB call_isi (by rfl) T.n_isinstance (by decide +kernel) (pa_cons (pv 1) (pa_cons (pe_gx (v := .ref C) rfl ⟨_, gP, rfl⟩) pa_nil))))) (pss_one (ps_ret (pv 0))) pss_nil)
      (pss_one (ps_ret (pe_ifExp (pt_cmpR op_eq (pe_pr pr_name hr (by decide) (pv 1)) pe_str (nomark _)) (pe_callB (call_max2 rfl) (by rfl) T.n_max (by decide +kernel) (pa_cons (pv 0) (pa_cons pe_int pa_nil))) pe_int)))), ?_⟩
    rcases h with ⟨⟨m, ty⟩, q⟩ | ⟨a, q, rfl, ⟨dx, pp, ga, hpp, _⟩, k⟩
    · walk_at "rd"
      refine ⟨v, _, _, _, false, rfl, .own _, ty.x, OF m (Mc.TyB.mem ty), ?_⟩
      walk_at "rd"
      show (if true = true then _ else _)
      walk_at "rd"
      exact q
    · walk_at "rd"
      refine ⟨_, _, _, _, true, rfl, .own _, TyX.base (.ins hpp TC.cl IC.ha IC.hn IC.tk IC.hm), kit_same, ?_⟩
      walk_at "rd"
      show (if false = true then _ else _)
      walk_at "rd"
      refine ⟨a, dx, _, rfl, hpp, a, dx, _, _, rfl, hpp, lk1, ?_⟩
      walk_at "rd"
      refine g_ite (fun e => ?_) (fun e => ?_)
      · rw [if_pos (str_eq e)] at k
        walk_at "rd"
        refine ⟨_, _, rfl, ?_⟩
        exact k
      · rw [if_neg (str_ne e)] at k
        walk_at "rd"
        exact k
/-- the two lists that the law writes -/
structure LF (K : PySem.W.Frag) (C : Addr) (H : Hp) (D L p1 p2 r1 r2 : Addr) (rA rB : Rw) : Prop where
  d : H D = some (.lst [.ref p1, .ref p2])
  l : H L = some (.lst [.ref r1, .ref r2])
  a : PolAt K C H p1 qP
  b : PolAt K C H p2 qQ
  sv : SrvAt K H [r1, r2] [rA, rB]
  rw : RwsAt K H [rA, rB]
theorem LF.xn {H H' : Hp} {D L p1 p2 r1 r2 : Addr} {rA rB : Rw} (e : Xn H H') (h : LF K C H D L p1 p2 r1 r2 rA rB) : LF K C H' D L p1 p2 r1 r2 rA rB :=
  ⟨e _ _ h.d (by intro _ z; cases z), e _ _ h.l (by intro _ z; cases z), h.a.kp (Kp.extN e), h.b.kp (Kp.extN e), h.sv.kp (Kp.extN e), h.rw.kp (Kp.extN e)⟩
theorem LF.pols {H : Hp} {D L p1 p2 r1 r2 : Addr} {rA rB : Rw} (h : LF K C H D L p1 p2 r1 r2 rA rB) : PolsAt K C H [(p1, qP), (p2, qQ)] := fun y hy => by
  rcases List.mem_cons.mp hy with rfl | hy
  · exact ⟨h.a, ok_qP⟩
  · rw [List.mem_singleton.mp hy]; exact ⟨h.b, ok_qQ⟩
theorem xn_sx {p : Addr} {H0 H H' : Hp} (p0 : H0 p = none) (e : Xn H0 H) (s : Sx p H H') : Xn H0 H' := fun b o h n => s b o (ne_of_none h p0) (e b o h n)
theorem tabs_sx {Ts : List (Addr × Str)} {p : Addr} {H H' : Hp} (pl : PoolAt H p) (s : Sx p H H') (t : LamX.Tabs Ts H) : LamX.Tabs Ts H' := fun q hq => by
  obtain ⟨ps, h, r1, r2⟩ := t q hq
  obtain ⟨c, u, h1, _⟩ := pl
  refine ⟨ps, s _ _ (fun z => ?_) h, r1, fun pos cv hc => ?_⟩
  · rw [z, h1] at h
    cases h
  · obtain ⟨c', e, h'⟩ := r2 pos cv hc
    refine ⟨c', e, s _ _ (fun z => ?_) h'⟩
    rw [z, h1] at h'
    unfold LamX.CodeO at h'
    cases h'
theorem PoolAt.ne_new {p a : Addr} {H : Hp} (pl : PoolAt H p) (h : H a = none) : a ≠ p := fun e => by
  obtain ⟨c, z, h1, _⟩ := pl
  rw [e, h1] at h
  cases h
theorem Kp.sx {p : Addr} {H H' : Hp} (pl : PoolAt H p) (pl' : PoolAt H' p) (e : Sx p H H') : Kp H H' := fun b o h => by
  by_cases hb : b = p
  · subst hb
    obtain ⟨c, z, h1, _⟩ := pl
    obtain ⟨c', z', h2, _⟩ := pl'
    rw [h1] at h
    exact .inr (.inl ⟨_, _, (Option.some.inj h).symm, h2⟩)
  · exact .inl (e b o hb h)
theorem BadRow.kp {H H' : Hp} {v : V} (e : Kp H H') (h : BadRow K H v) : BadRow K H' v := by
  rcases h with ⟨m, ty, z⟩ | ⟨a, xs, ea, t, h⟩
  · exact .inl ⟨m, K2.TyB.kp e ty, z⟩
  · refine .inr ⟨a, xs, ea, t.kp e, h.imp id ?_⟩
    rintro ⟨x, y, n, m, h1, h2, h3, h4⟩
    exact ⟨x, y, n, m, h1, K2.TyB.kp e h2, K2.TyB.kp e h3, h4⟩
theorem cat_go {H : Hp} {a b : Addr} {xs ys : List V} {Q : VK} (ha : H a = some (.lst xs)) (hb : H b = some (.lst ys)) (hl : xs.length + ys.length ≤ 1000) (k : ∀ p H', H p = none → Same H H' → H' p = some (.lst (xs ++ ys)) → Q (.ref p) H') : rCat (.ref a) (.ref b) H Q :=
  ⟨a, b, _, _, rfl, rfl, ha, hb, sz_le hl, fun p hp => k p _ hp (same_new hp) upd_same⟩
theorem sl_go {H : Hp} {a : Addr} {xs : List V} {lo hi : Option Int} {Q : VK} (ha : H a = some (.lst xs)) (k : ∀ p H', H p = none → Same H H' → H' p = some (.lst (cutV xs lo hi)) → Q (.ref p) H') : rSlL K (.ref a) lo hi H Q :=
  ⟨a, xs, rfl, SqL.of ha, fun p hp => k p _ hp (same_new hp) upd_same⟩
theorem g_slTo {r : V → Option Int → Option Int → Hp → VK → Prop} {te : TE} {n : Nat} {i : Int} {σ : L2.St} {H : Hp} {Q : VK} (hi : σ[n]? = some (some (.int i))) (q : te σ H fun x H1 => r x none (some i) H1 Q) : tSl r te tNoPart (tPart (tVar n)) σ H Q :=
  (show te σ H (fun x H1 => ∃ v, σ[n]? = some (some v) ∧ ∃ i', v = .int i' ∧ r x none (some i') H1 Q) from (by
    have e : (fun x H1 => ∃ v, σ[n]? = some (some v) ∧ ∃ i', v = V.int i' ∧ r x none (some i') H1 Q) = fun x H1 => r x none (some i) H1 Q := by
      funext x H1
      refine propext ⟨fun ⟨v, ev, i', ei, h⟩ => ?_, fun h => ⟨_, hi, _, rfl, h⟩⟩
      rw [hi] at ev
      cases ev
      cases ei
      exact h
    rw [e]
    exact q))
theorem g_slFrom {r : V → Option Int → Option Int → Hp → VK → Prop} {te : TE} {n : Nat} {i : Int} {σ : L2.St} {H : Hp} {Q : VK} (hi : σ[n]? = some (some (.int i))) (q : te σ H fun x H1 => r x (some i) none H1 Q) : tSl r te (tPart (tVar n)) tNoPart σ H Q :=
  (show te σ H (fun x H1 => ∃ v, σ[n]? = some (some v) ∧ ∃ i', v = .int i' ∧ r x (some i') none H1 Q) from (by
    have e : (fun x H1 => ∃ v, σ[n]? = some (some v) ∧ ∃ i', v = V.int i' ∧ r x (some i') none H1 Q) = fun x H1 => r x (some i) none H1 Q := by
      funext x H1
      refine propext ⟨fun ⟨v, ev, i', ei, h⟩ => ?_, fun h => ⟨_, hi, _, rfl, h⟩⟩
      rw [hi] at ev
      cases ev
      cases ei
      exact h
    rw [e]
    exact q))
theorem cut_len {r : Int} {x y : V} (h0 : 0 ≤ r) (h3 : r < 3) : (cutV [x, y] none (some r)).length ≤ 2 ∧ (cutV [x, y] (some r) none).length ≤ 2 := by
  have : r = 0 ∨ r = 1 ∨ r = 2 := by omega
  rcases this with rfl | rfl | rfl <;> exact ⟨Nat.le_of_ble_eq_true rfl, Nat.le_of_ble_eq_true rfl⟩
theorem pool_xn {p : Addr} {H H' : Hp} (e : Xn H H') (pl : PoolAt H p) : PoolAt H' p := by
  obtain ⟨c, u, h1, h2⟩ := pl
  exact ⟨c, u, e _ _ h1 (by intro _ z; cases z), h2⟩
/-- a value put into a list of two -/
def insAt (r : Int) (x y b : V) : List V := if r = 0 then [b, x, y] else if r = 1 then [x, b, y] else [x, y, b]
theorem cut_ins {r : Int} {x y b : V} (h0 : 0 ≤ r) (h3 : r < 3) : cutV [x, y] none (some r) ++ [b] ++ cutV [x, y] (some r) none = insAt r x y b := by
  have : r = 0 ∨ r = 1 ∨ r = 2 := by omega
  rcases this with rfl | rfl | rfl <;> rfl
theorem ins_len {r : Int} {x y b : V} : (insAt r x y b).length = 3 := by
  unfold insAt
  split
  · rfl
  · split <;> rfl
/-- the bad policy put into the two, and what is told of it -/
def BadP (K : PySem.W.Frag) (C : Addr) (H : Hp) (v : V) : Prop := (∃ m, Mc.TyB K H v m) ∨ ∃ (x : Addr) (q : Pol), v = .ref x ∧ PolAt K C H x q ∧ q.ok ∧ (q.z = "p" ∨ q.z = "q")
def badN (v : Bool) (z : Str) (r : Int) : Int := if v = true then r else if z = "p" then (if 1 > r then 1 else r) else 2
theorem bad_ins {H : Hp} {D L p1 p2 r1 r2 l : Addr} {rA rB : Rw} {r : Int} {v : V} (lf : LF K C H D L p1 p2 r1 r2 rA rB) (h0 : 0 ≤ r) (h3 : r < 3) (hl : H l = some (.lst (insAt r (.ref p1) (.ref p2) v))) (hb : (∃ m, Mc.TyB K H v m)) : BadPols K C H (.ref l) (.int r) := by
  have ia := lf.a
  have : r = 0 ∨ r = 1 ∨ r = 2 := by omega
  rcases this with rfl | rfl | rfl
  · exact .inr ⟨l, _, [], v, rfl, .inl hl, by show 3 ≤ 8; decide, rfl, rfl, (fun x hx => by cases hx), List.nodup_nil, .inl hb, rfl⟩
  · exact .inr ⟨l, _, [(p1, qP)], v, rfl, .inl hl, by show 3 ≤ 8; decide, rfl, rfl, (fun x hx => lf.pols x (by rw [List.mem_singleton.mp hx]; exact List.mem_cons_self ..)), (by show ([("p" : Str)]).Nodup; decide +kernel), .inl hb, rfl⟩
  · exact .inr ⟨l, _, [(p1, qP), (p2, qQ)], v, rfl, .inl hl, by show 3 ≤ 8; decide, rfl, rfl, lf.pols, (by show ([("p" : Str), "q"]).Nodup; decide +kernel), .inl hb, rfl⟩
theorem bad_insP {H : Hp} {D L p1 p2 r1 r2 l x : Addr} {rA rB : Rw} {r : Int} {q : Pol} (lf : LF K C H D L p1 p2 r1 r2 rA rB) (h0 : 0 ≤ r) (h3 : r < 3) (hl : H l = some (.lst (insAt r (.ref p1) (.ref p2) (.ref x)))) (px : PolAt K C H x q) (ok : q.ok) (hz : q.z = "p" ∨ q.z = "q") :
    BadPols K C H (.ref l) (.int (if q.z = "p" then (if 1 > r then 1 else r) else 2)) := by
  have P1 := lf.pols (p1, qP) (List.mem_cons_self ..)
  have P2 := lf.pols (p2, qQ) (List.mem_cons_of_mem _ (List.mem_cons_self ..))
  have PX : PolAt K C H (x, q).1 (x, q).2 ∧ (x, q).2.ok := ⟨px, ok⟩
  have one : ∀ {u : Addr × Pol}, (PolAt K C H u.1 u.2 ∧ u.2.ok) → PolsAt K C H [u] := fun h y hy => by rw [List.mem_singleton.mp hy]; exact h
  have two : ∀ {u w : Addr × Pol}, (PolAt K C H u.1 u.2 ∧ u.2.ok) → (PolAt K C H w.1 w.2 ∧ w.2.ok) → PolsAt K C H [u, w] := fun h h' y hy => by
    rcases List.mem_cons.mp hy with rfl | hy
    · exact h
    · rw [List.mem_singleton.mp hy]; exact h'
  have : r = 0 ∨ r = 1 ∨ r = 2 := by omega
  rcases hz with hz | hz
  · rw [if_pos hz]
    rcases this with rfl | rfl | rfl
    · refine .inr ⟨l, _, [(x, q)], .ref p1, rfl, .inl hl, by show 3 ≤ 8; decide, rfl, rfl, one PX, (by show ([q.z]).Nodup; rw [hz]; decide +kernel), .inr ⟨(p1, qP), rfl, P1.1, ?_⟩, rfl⟩
      show ("p" : Str) ∈ [q.z]
      rw [hz]; exact List.mem_cons_self ..
    · refine .inr ⟨l, _, [(p1, qP)], .ref x, rfl, .inl hl, by show 3 ≤ 8; decide, rfl, rfl, one P1, (by show ([("p" : Str)]).Nodup; decide +kernel), .inr ⟨(x, q), rfl, px, ?_⟩, rfl⟩
      show q.z ∈ [("p" : Str)]
      rw [hz]; exact List.mem_cons_self ..
    · refine .inr ⟨l, _, [(p1, qP), (p2, qQ)], .ref x, rfl, .inl hl, by show 3 ≤ 8; decide, rfl, rfl, lf.pols, (by show ([("p" : Str), "q"]).Nodup; decide +kernel), .inr ⟨(x, q), rfl, px, ?_⟩, rfl⟩
      show q.z ∈ [("p" : Str), "q"]
      rw [hz]; exact List.mem_cons_self ..
  · rw [if_neg (by rw [hz]; decide +kernel)]
    rcases this with rfl | rfl | rfl
    · refine .inr ⟨l, _, [(x, q), (p1, qP)], .ref p2, rfl, .inl hl, by show 3 ≤ 8; decide, rfl, rfl, two PX P1, (by show ([q.z, "p"]).Nodup; rw [hz]; decide +kernel), .inr ⟨(p2, qQ), rfl, P2.1, ?_⟩, rfl⟩
      show ("q" : Str) ∈ [q.z, "p"]
      rw [hz]; exact List.mem_cons_self ..
    · refine .inr ⟨l, _, [(p1, qP), (x, q)], .ref p2, rfl, .inl hl, by show 3 ≤ 8; decide, rfl, rfl, two P1 PX, (by show ([("p" : Str), q.z]).Nodup; rw [hz]; decide +kernel), .inr ⟨(p2, qQ), rfl, P2.1, ?_⟩, rfl⟩
      show ("q" : Str) ∈ [("p" : Str), q.z]
      rw [hz]; exact List.mem_cons_of_mem _ (List.mem_cons_self ..)
    · refine .inr ⟨l, _, [(p1, qP), (p2, qQ)], .ref x, rfl, .inl hl, by show 3 ≤ 8; decide, rfl, rfl, lf.pols, (by show ([("p" : Str), "q"]).Nodup; decide +kernel), .inr ⟨(x, q), rfl, px, ?_⟩, rfl⟩
      show q.z ∈ [("p" : Str), "q"]
      rw [hz]; exact List.mem_cons_of_mem _ (List.mem_cons_self ..)
theorem bad_insS {H : Hp} {D L p1 p2 r1 r2 l : Addr} {rA rB : Rw} {r : Int} {v : V} (lf : LF K C H D L p1 p2 r1 r2 rA rB) (za : rA.z = "a") (zb : rB.z = "b") (h0 : 0 ≤ r) (h3 : r < 3) (hl : H l = some (.lst (insAt r (.ref r1) (.ref r2) v ++ [v]))) (hb : BadRow K H v) : BadServs K H (.ref l) (.int r) := by
  obtain ⟨x, ys, ex, tx, y, zs, ey, ty, ez⟩ := id lf.sv
  cases ex
  cases ey
  have : r = 0 ∨ r = 1 ∨ r = 2 := by omega
  rcases this with rfl | rfl | rfl
  · exact .inr ⟨l, _, [], [], v, rfl, .inl hl, by show 4 ≤ 6; decide, rfl, rfl, rfl, (fun x hx => by cases hx), List.nodup_nil, .inl hb, rfl⟩
  · exact .inr ⟨l, _, [r1], [rA], v, rfl, .inl hl, by show 4 ≤ 6; decide, rfl, rfl, .one tx, (fun x hx => lf.rw x (by rw [List.mem_singleton.mp hx]; exact List.mem_cons_self ..)), (by show ([rA.z]).Nodup; rw [za]; decide +kernel), .inl hb, rfl⟩
  · exact .inr ⟨l, _, [r1, r2], [rA, rB], v, rfl, .inl hl, by show 4 ≤ 6; decide, rfl, rfl, lf.sv, lf.rw, (by show ([rA.z, rB.z]).Nodup; rw [za, zb]; decide +kernel), .inl hb, rfl⟩
def spLaw (Ts : List (Addr × Str)) (K : PySem.W.Frag) : Sp := fun vs H Q _ => ∃ (a : Addr) (ns : List Int), vs = [.ref a] ∧ SqL K H a (ns.map V.int) ∧ ns.length ≤ 63 ∧ LamX.Tabs Ts H ∧ ∀ H', Q (.bl true) H'
theorem ok_law {Ts : List (Addr × Str)} {f g c Pt ago fI fS : Addr} {fd fdL fdI fdS : FuncData} (F : FunC K "law" "law" s_law f fd (.ref c)) (TX : Txt K mg) (Z : Xs K mg CPo CSv CI CU) (DL : MkL P w K mg base Ts g fdL c Pt "law.<locals>.<lambda>")
    (TS : STx K CS) (M : Mk K C fI) (GI : FnOk P w K mg base CX0 6 fI fdI psP (spInit K C)) (gP : mg "Policy" = some (.ref C)) (ds0 : List Value) (v0 : Vals [.int 1, .non, .non, .bl false, .ref ago] ds0) (b0 : Binds K fdI psP ds0) (tgo : ∀ H, TupV K H ago En.go.vs)
    (MS : Mk K CS fS) (GX : FnOk P w K mg base (CX P w) 10 fS fdS psS (spSys K C CS CI CU CT)) (GA : FnOk P w K mg base (CX P w) 10 fS fdS psS (spAny K C CS CPo CSv CI CU CT)) (gS : mg "System" = some (.ref CS)) (bS : Binds K fdS psS [])
    (c_law_pool : Cal P w K mg base 1 "_law_pool" (spPool K)) (c_law_draw : Cal P w K mg base 1 "_law_draw" spDraw) (c_law_choose : Cal P w K mg base 2 "_law_choose" spChoose) (c_law_first_bad : Cal P w K mg base 3 "_law_first_bad" (spFB K C))
    (c_law_lists_right : Mx.CalG P w K mg base 17 "_law_lists_right" (spLists Ts K C)) (c_law_doors_right : Mx.CalG P w K mg base 17 "_law_doors_right" (spDoors Ts K C CS)) : FnG P w K mg base CX0 19 f fd ["_law_script"] (spLaw Ts K) := by
  have T := TX
  have GS := fn_calm GX
  refine fnG_ofC F sc_law (fun vs H Q E h => ?_) (fun A outer st H vs Q E hgA hr h => ?_)
  · obtain ⟨a, ns, rfl, _⟩ := h
    rfl
  · obtain ⟨a, ns, rfl, hS, hlen, tabs, k⟩ := h
    have hrT : Room 15 (A.deeper (envOfC "law" (defScope s_law) st.heap.objs.size f (.ref c))) := hr.mono (by decide)
    have hrS : Room 11 (A.deeper (envOfC "law" (defScope s_law) st.heap.objs.size f (.ref c))) := hr.mono (by decide)
    have hrI : Room 7 (A.deeper (envOfC "law" (defScope s_law) st.heap.objs.size f (.ref c))) := hr.mono (by decide)
    have hu : (A.deeper (envOfC "law" (defScope s_law) st.heap.objs.size f (.ref c))).units + 64 < cLine := hr.units
    have hg : (A.deeper (envOfC "law" (defScope s_law) st.heap.objs.size f (.ref c))).guards = some [] := hgA
    refine ⟨_, (pss_cons (ps_set (i := 1) sc_law.nd rfl (Or.inr rfl) (pe_lst (pa_cons (pe_make M GI hrI (by rfl) gP b0 v0 pass0 (pa_cons pe_str (pa_cons pe_int pa_nil))) (pa_cons (pe_make M GI hrI (by rfl) gP b0 v0 pass0 (pa_cons pe_str (pa_cons pe_int pa_nil))) pa_nil))))
      (pss_cons (ps_set (i := 2) sc_law.nd rfl (Or.inr rfl) (pe_lst (pa_cons (pe_tup (pa_cons pe_str (pa_cons (pe_tup (pa_cons (pe_tup (pa_cons pe_str (pa_cons pe_int (pa_cons pe_int pa_nil)))) pa_nil)) pa_nil))) (pa_cons (pe_tup (pa_cons pe_str (pa_cons (pe_tup (pa_cons (pe_tup (pa_cons pe_str (pa_cons pe_str (pa_cons pe_str pa_nil)))) (pa_cons (pe_tup (pa_cons pe_str (pa_cons pe_str (pa_cons pe_str pa_nil)))) pa_nil))) pa_nil))) pa_nil))))
      (pss_cons (ps_if (PW.pt (pw_or (pt_not (pt_val (pe_fG c_law_lists_right hg hr (by decide) (by rfl) (pa_cons (pv 1) pa_nil)))) (pw_or1 (pt_not (pt_val (pe_fG c_law_doors_right hg hr (by decide) (by rfl) (pa_cons (pe_make MS GS hrS (by rfl) gS bS .nil pass0 (pa_cons (pv 1) (pa_cons (pv 2) pa_nil))) pa_nil))))))) (pss_one (ps_ret pe_bl)) pss_nil)
      (pss_cons (ps_for PassesOwn.never rfl (pi_range1 (by rfl) T.n_range (pa_cons (pe_callB (call_max2 rfl) (by rfl) T.n_max (by decide +kernel) (pa_cons pe_int (pa_cons (pe_callB (call_min2 rfl) (by rfl) T.n_min (by decide +kernel) (pa_cons (pe_callB call_len_seq (by rfl) T.n_len (by decide +kernel) (pa_cons (pv 0) pa_nil)) (pa_cons pe_int pa_nil))) pa_nil))) pa_nil)) (pg_name (i := 3) sc_law.nd rfl (Or.inl rfl)) (pss_cons (ps_set (i := 4) sc_law.nd rfl (Or.inl rfl) (pe_f c_law_pool hr (by decide) (by rfl) (pa_cons (pv 0) (pa_cons (pv 3) pa_nil))))
      (pss_cons (ps_set (i := 5) sc_law.nd rfl (Or.inr rfl) (pe_f c_law_draw hr (by decide) (by rfl) (pa_cons (pv 4) (pa_cons pe_int pa_nil))))
      (pss_cons (ps_set (i := 6) sc_law.nd rfl (Or.inr rfl) (pe_f c_law_choose hr (by decide) (by rfl) (pa_cons (pv 4) (pa_cons (pe_lst (pa_cons pe_non (pa_cons pe_int (pa_cons pe_str (pa_cons (pe_tup (pa_cons pe_str (pa_cons pe_int pa_nil))) (pa_cons (pe_make M GI hrI (by rfl) gP b0 v0 pass0 (pa_cons pe_str (pa_cons pe_int pa_nil))) (pa_cons (pe_make M GI hrI (by rfl) gP b0 v0 pass0 (pa_cons pe_str (pa_cons pe_int pa_nil))) pa_nil))))))) pa_nil))))
      (pss_cons (ps_if (pt_cmpR (op_neD hu) (pe_told DL.dl DL.hm DL.bl Z TX hg DL.tb rfl DL.mt DL.ut hrT (by rfl) (LamX.lamS_by (by rfl)) rfl (fun _ _ _ _ _ => rfl) (fun A outer s H E f c' hrl => (pe_make MS GA (hrl.mono (by decide)) (by rfl) gS bS .nil pass_lam (pa_cons (pe_op op_cat (pe_op op_cat (pe_slice (sl_listK (K := K) rfl) (pv 1) po_none (po_some (pv 5))) (pe_lst (pa_cons (pv 6) pa_nil))) (pe_slice (sl_listK (K := K) rfl) (pv 1) (po_some (pv 5)) po_none)) (pa_cons pe_non pa_nil))))) (pe_lst (pa_cons pe_str (pa_cons (pe_f c_law_first_bad hr (by decide) (by rfl) (pa_cons (pv 5) (pa_cons (pv 6) pa_nil))) pa_nil))) (nomark _)) (pss_one (ps_ret pe_bl)) pss_nil)
      (pss_cons (ps_set (i := 6) sc_law.nd rfl (Or.inr rfl) (pe_f c_law_choose hr (by decide) (by rfl) (pa_cons (pv 4) (pa_cons (pe_lst (pa_cons pe_non (pa_cons pe_str (pa_cons (pe_tup (pa_cons pe_str pa_nil)) (pa_cons (pe_tup (pa_cons pe_str (pa_cons (pe_tup pa_nil) pa_nil))) (pa_cons (pe_lst (pa_cons pe_str (pa_cons (pe_tup pa_nil) pa_nil))) (pa_cons (pe_tup (pa_cons pe_str (pa_cons (pe_lst pa_nil) pa_nil))) (pa_cons (pe_tup (pa_cons pe_str (pa_cons (pe_tup pa_nil) (pa_cons (pe_tup pa_nil) pa_nil)))) (pa_cons (pe_tup (pa_cons pe_str (pa_cons (pe_tup pa_nil) pa_nil))) (pa_cons (pe_tup (pa_cons pe_int (pa_cons (pe_tup pa_nil) pa_nil))) pa_nil)))))))))) pa_nil))))
      (pss_cons (ps_if (pt_cmpR (op_neD hu) (pe_told DL.dl DL.hm DL.bl Z TX hg DL.tb rfl DL.mt DL.ut hrT (by rfl) (LamX.lamS_by (by rfl)) rfl (fun _ _ _ _ _ => rfl) (fun A outer s H E f c' hrl => (pe_make MS GA (hrl.mono (by decide)) (by rfl) gS bS .nil pass_lam (pa_cons (pv 1) (pa_cons (pe_op op_cat (pe_op op_cat (pe_op op_cat (pe_slice (sl_listK (K := K) rfl) (pv 2) po_none (po_some (pv 5))) (pe_lst (pa_cons (pv 6) pa_nil))) (pe_slice (sl_listK (K := K) rfl) (pv 2) (po_some (pv 5)) po_none)) (pe_lst (pa_cons (pv 6) pa_nil))) pa_nil))))) (pe_lst (pa_cons pe_str (pa_cons (pv 5) pa_nil))) (nomark _)) (pss_one (ps_ret pe_bl)) pss_nil)
      (pss_cons (ps_if (pt_cmpR (op_neD hu) (pe_told DL.dl DL.hm DL.bl Z TX hg DL.tb rfl DL.mt DL.ut hrT (by rfl) (LamX.lamS_by (by rfl)) rfl (fun _ _ _ _ _ => rfl) (fun A outer s H E f c' hrl => (pe_make MS GA (hrl.mono (by decide)) (by rfl) gS bS .nil pass_lam (pa_cons (pv 1) (pa_cons (pe_op op_cat (pv 2) (pe_lst (pa_cons (pe_tup (pa_cons pe_str (pa_cons pe_non pa_nil))) (pa_cons (pe_tup (pa_cons pe_str (pa_cons (pe_tup pa_nil) pa_nil))) pa_nil)))) pa_nil))))) (pe_lst (pa_cons pe_str (pa_cons pe_int pa_nil))) (nomark _)) (pss_one (ps_ret pe_bl)) pss_nil)
      (pss_cons (ps_set (i := 7) sc_law.nd rfl (Or.inl rfl) (pe_f c_law_choose hr (by decide) (by rfl) (pa_cons (pv 4) (pa_cons (pe_lst (pa_cons pe_str (pa_cons pe_str (pa_cons pe_str pa_nil)))) pa_nil))))
      (pss_cons (ps_set (i := 8) sc_law.nd rfl (Or.inr rfl) (pe_tup (pa_cons (pe_tup (pa_cons pe_str (pa_cons pe_int (pa_cons pe_int pa_nil)))) (pa_cons (pe_tup (pa_cons pe_str (pa_cons (pv 7) (pa_cons pe_str pa_nil)))) (pa_cons (pe_tup (pa_cons pe_str (pa_cons pe_str (pa_cons pe_str pa_nil)))) pa_nil)))))
      (pss_cons (ps_if (pt_cmpR (op_neD hu) (pe_told DL.dl DL.hm DL.bl Z TX hg DL.tb rfl DL.mt DL.ut hrT (by rfl) (LamX.lamS_by (by rfl)) rfl (fun _ _ _ _ _ => rfl) (fun A outer s H E f c' hrl => (pe_make MS GA (hrl.mono (by decide)) (by rfl) gS bS .nil pass_lam (pa_cons (pv 1) (pa_cons (pe_lst (pa_cons (pe_ix (ix_listK (K := K) rfl) (pv 2) pe_int (fun _ _ => rfl)) (pa_cons (pe_tup (pa_cons pe_str (pa_cons (pv 8) pa_nil))) (pa_cons (pe_tup (pa_cons pe_str (pa_cons (pe_tup pa_nil) pa_nil))) pa_nil)))) pa_nil))))) (pe_lst (pa_cons pe_str (pa_cons (pe_callB (call_reprA (K := K) hg hu rfl) (by rfl) T.n_repr (by decide +kernel) (pa_cons (pv 7) pa_nil)) pa_nil))) (nomark _)) (pss_one (ps_ret pe_bl)) pss_nil)
      (pss_cons (ps_set (i := 8) sc_law.nd rfl (Or.inr rfl) (pe_tup (pa_cons (pe_tup (pa_cons pe_str (pa_cons pe_str (pa_cons pe_str pa_nil)))) (pa_cons (pe_tup (pa_cons pe_str (pa_cons pe_str (pa_cons pe_str pa_nil)))) pa_nil))))
      (pss_one (ps_if (pt_cmpR (op_neD hu) (pe_told DL.dl DL.hm DL.bl Z TX hg DL.tb rfl DL.mt DL.ut hrT (by rfl) (LamX.lamS_by (by rfl)) rfl (fun _ _ _ _ _ => rfl) (fun A outer s H E f c' hrl => (pe_make MS GA (hrl.mono (by decide)) (by rfl) gS bS .nil pass_lam (pa_cons (pv 1) (pa_cons (pe_lst (pa_cons (pe_ix (ix_listK (K := K) rfl) (pv 2) pe_int (fun _ _ => rfl)) (pa_cons (pe_tup (pa_cons pe_str (pa_cons (pv 8) pa_nil))) pa_nil))) pa_nil))))) (pe_lst (pa_cons pe_str (pa_cons pe_str pa_nil))) (nomark _)) (pss_one (ps_ret pe_bl)) pss_nil))))))))))))))
      (pss_one (ps_ret pe_bl)))))), ?_⟩
    walk_at "rd"
    intro p1 d1 n1 nd1 ne1
    refine pol_new (q := qP) rfl n1 nd1 ok_qP (tgo _) (.inl ⟨rfl, fun _ => rfl⟩) fun H1 S1 P1 => ?_
    walk_at "rd"
    intro p2 d2 n2 nd2 ne2
    refine pol_new (q := qQ) rfl n2 nd2 ok_qQ (tgo _) (.inl ⟨rfl, fun _ => rfl⟩) fun H2 S2 P2 => ?_
    walk_at "rd"
    refine lst_go ?hl fun D H3 D0 S3 hD => ?_
    case hl => exact Nat.le_of_ble_eq_true rfl
    walk_at "rd"
    refine tup_go ?hl fun t1 H4 _ S4 ht1 => ?_
    case hl => exact Nat.le_of_ble_eq_true rfl
    walk_at "rd"
    refine tup_go ?hl fun c1 H5 _ S5 hc1 => ?_
    case hl => exact Nat.le_of_ble_eq_true rfl
    walk_at "rd"
    refine tup_go ?hl fun r1 H6 _ S6 hr1 => ?_
    case hl => exact Nat.le_of_ble_eq_true rfl
    walk_at "rd"
    refine tup_go ?hl fun t2 H7 _ S7 ht2 => ?_
    case hl => exact Nat.le_of_ble_eq_true rfl
    walk_at "rd"
    refine tup_go ?hl fun t3 H8 _ S8 ht3 => ?_
    case hl => exact Nat.le_of_ble_eq_true rfl
    walk_at "rd"
    refine tup_go ?hl fun c2 H9 _ S9 hc2 => ?_
    case hl => exact Nat.le_of_ble_eq_true rfl
    walk_at "rd"
    refine tup_go ?hl fun r2 H10 _ S10 hr2 => ?_
    case hl => exact Nat.le_of_ble_eq_true rfl
    walk_at "rd"
    refine lst_go ?hl fun L H11 L0 S11 hL => ?_
    case hl => exact Nat.le_of_ble_eq_true rfl
    walk_at "rd"
    have T10 := S11
    have T9 := Same.trans S10 T10
    have T8 := Same.trans S9 T9
    have T7 := Same.trans S8 T8
    have T6 := Same.trans S7 T7
    have T5 := Same.trans S6 T6
    have T4 := Same.trans S5 T5
    have T3 := Same.trans S4 T4
    have T2 := Same.trans S3 T3
    obtain ⟨rA, eA⟩ : ∃ rA : Rw, rA = ⟨"a", c1, bA, [.ref t1]⟩ := ⟨_, rfl⟩
    obtain ⟨rB, eB⟩ : ∃ rB : Rw, rB = ⟨"b", c2, bB, [.ref t2, .ref t3]⟩ := ⟨_, rfl⟩
    have u1 : TupV K H11 t1 _ := ⟨.tup (T4 _ _ ht1), SqT.of (T4 _ _ ht1)⟩
    have u2 : TupV K H11 c1 _ := ⟨.tup (T5 _ _ hc1), SqT.of (T5 _ _ hc1)⟩
    have u3 : TupV K H11 r1 _ := ⟨.tup (T6 _ _ hr1), SqT.of (T6 _ _ hr1)⟩
    have u4 : TupV K H11 t2 _ := ⟨.tup (T7 _ _ ht2), SqT.of (T7 _ _ ht2)⟩
    have u5 : TupV K H11 t3 _ := ⟨.tup (T8 _ _ ht3), SqT.of (T8 _ _ ht3)⟩
    have u6 : TupV K H11 c2 _ := ⟨.tup (T9 _ _ hc2), SqT.of (T9 _ _ hc2)⟩
    have u7 : TupV K H11 r2 _ := ⟨.tup (T10 _ _ hr2), SqT.of (T10 _ _ hr2)⟩
    have wA : RwAt K H11 rA := by
      rw [eA]
      exact ⟨u2, RepB.one (rt_run u1 (by decide)), (by show isNm "a" = true; decide +kernel), by show (pio bA 0).length ≤ 1000; decide +kernel⟩
    have wB : RwAt K H11 rB := by
      rw [eB]
      exact ⟨u6, RepB.app (RepB.one (rt_call u4 (by decide +kernel) (by decide +kernel))) (RepB.one (rt_want u5 (by decide +kernel) (by decide +kernel))), (by show isNm "b" = true; decide +kernel), by show (pio bB 0).length ≤ 1000; decide +kernel⟩
    have lf : LF K C H11 D L p1 p2 r1 r2 rA rB := ⟨T3 _ _ hD, hL, (P1.ext S2).ext T2, P2.ext T2, ⟨rA, [rB], rfl, (by rw [eA]; exact u3), rB, [], rfl, (by rw [eB]; exact u7), rfl⟩, fun y hy => by
      rcases List.mem_cons.mp hy with rfl | hy
      · exact wA
      · rw [List.mem_singleton.mp hy]; exact wB⟩
    have za : rA.z = "a" := by rw [eA]
    have zb : rB.z = "b" := by rw [eB]
    have bA' : rA.b = bA := by rw [eA]
    have bB' : rB.b = bB := by rw [eB]
    have nrs : (([rA, rB] : List Rw).map fun x => (x.z, x.b)) = ([("a", bA), ("b", bB)] : List (Str × List Tr)) := by rw [eA, eB]; rfl
    have e11 : Xn H H11 := LamX.ExtN.of (Same.trans S1 (Same.trans S2 T2))
    have tb11 := tabs.ext (Same.trans S1 (Same.trans S2 T2))
    clear T2 T3 T4 T5 T6 T7 T8 T9 T10 S1 S2 S3 S4 S5 S6 S7 S8 S9 S10 S11 u1 u2 u3 u4 u5 u6 u7 wA wB hD hL ht1 hc1 hr1 ht2 ht3 hc2 hr2 P1 P2 n1 nd1 ne1 n2 nd2 ne2 D0 L0 eA eB tabs
    refine ⟨D, p1, p2, rfl, lf.d, lf.a, lf.b, tb11, fun H12 q12 tb12 => ?_⟩
    have lf := lf.xn q12
    have e12 := e11.trans q12
    walk_at "rd"
    show (if false = true then _ else _)
    walk_at "rd"
    intro x dx nx ndx ne
    refine sys_goR (ps := [(p1, qP), (p2, qQ)]) (rr := [r1, r2]) (rs := [rA, rB]) nx ndx (.inl lf.d) lf.pols (by show 2 ≤ 8; decide) (by show ([("p" : Str), "q"]).Nodup; decide +kernel) (.inl lf.l) lf.sv lf.rw (by show 1 ≤ 2; decide) (by show 2 ≤ 6; decide) (by show ([rA.z, rB.z]).Nodup; rw [za, zb]; decide +kernel) (by rw [out_at, nrs]; exact out0) (fun H13 S13 sy => ?_)
    walk_at "rd"
    refine ⟨x, _, _, rfl, sy, rfl, nrs, tb12.ext S13, fun H14 q14 tb14 => ?_⟩
    have lf := lf.xn ((LamX.ExtN.of S13).trans q14)
    have e14 := (e12.trans (LamX.ExtN.of S13)).trans q14
    walk_at "rd"
    show (if false = true then _ else _)
    walk_at "rd"
    have hS14 := sqL_extN e14 hS
    clear e11 e12 e14 q12 q14 tb11 tb12 S13 sy nx ndx ne
    refine g_for (g_irng ?_)
    walk_at "rd"
    refine ⟨a, _, rfl, .inl hS14, ?_⟩
    walk_at "rd"
    refine ⟨_, _, rfl, ?_⟩
    walk_at "rd"
    refine ⟨_, _, rfl, ?_⟩
    walk_at "rd"
    obtain ⟨j, ej, j0, j8⟩ : ∃ j : Int, (if (if (6 : Int) < ((ns.map V.int).length : Int) then 6 else ((ns.map V.int).length : Int)) > 1 then (if (6 : Int) < ((ns.map V.int).length : Int) then 6 else ((ns.map V.int).length : Int)) else 1) = j ∧ 0 ≤ j ∧ j ≤ 6 := by
      refine ⟨_, rfl, ?_, ?_⟩ <;> (split <;> split <;> omega)
    rw [ej]
    refine ⟨j, rfl, by omega, by omega, ?_⟩
    refine for_range (lo := 0) (n := j.toNat) (fun i σ H' => ∃ o3 o4 o5 o6 o7 o8 : Option V, σ = [some (.ref a), some (.ref D), some (.ref L), o3, o4, o5, o6, o7, o8] ∧ Xn H14 H' ∧ LamX.Tabs Ts H') ⟨_, _, _, _, _, _, rfl, LamX.ExtN.refl _, tb14⟩ ?_ ?_
    · rintro kk σ H20 hi ⟨o3, o4, o5, o6, o7, o8, rfl, e20, tb20⟩
      have lf := lf.xn e20
      have hS20 := sqL_extN e20 hS14
      walk_at "rd"
      refine ⟨a, 0 + (kk : Int), ns, rfl, hS20, by omega, by omega, fun p H21 p0 S21 pl21 => ?_⟩
      walk_at "rd"
      refine ⟨p, 3, rfl, pl21, by decide, by decide, fun r H22 r0 r3 pl22 sx22 => ?_⟩
      walk_at "rd"
      have e22 : Xn H20 H22 := xn_sx p0 (LamX.ExtN.of S21) sx22
      have tb22 := tabs_sx pl21 sx22 (tb20.ext S21)
      -- the values that are no policies
      refine tup_go ?hl fun b1 H23 _ S23 hb1 => ?_
      case hl => exact Nat.le_of_ble_eq_true rfl
      walk_at "rd"
      intro b2 db2 nb2 ndb2 neb2
      refine pol_new (q := plain "p" 9) rfl nb2 ndb2 (ok_plain (by decide +kernel) (by decide) (by decide)) (tgo _) (.inl ⟨rfl, fun _ => rfl⟩) fun H24 S24 B2 => ?_
      walk_at "rd"
      intro b3 db3 nb3 ndb3 neb3
      refine pol_new (q := plain "q" 9) rfl nb3 ndb3 (ok_plain (by decide +kernel) (by decide) (by decide)) (tgo _) (.inl ⟨rfl, fun _ => rfl⟩) fun H25 S25 B3 => ?_
      walk_at "rd"
      refine lst_go ?hl fun lb H26 lb0 S26 hlb => ?_
      case hl => exact Nat.le_of_ble_eq_true rfl
      have S2226 := Same.trans S23 (Same.trans S24 (Same.trans S25 S26))
      have pl26 := pl22.ext S2226
      have lbp : lb ≠ p := (pl22.ext (Same.trans S23 (Same.trans S24 S25))).ne_new lb0
      refine ⟨p, lb, _, rfl, pl26, lbp, hlb, Nat.le_of_ble_eq_true rfl, Nat.le_of_ble_eq_true rfl, fun v H27 hv pl27 sx27 => ?_⟩
      have kx := Kp.sx pl26 pl27 sx27
      have bv : BadP K C H27 v := by
        simp only [List.mem_cons, List.not_mem_nil, or_false] at hv
        rcases hv with rfl | rfl | rfl | rfl | rfl | rfl
        · exact .inl ⟨_, .non⟩
        · exact .inl ⟨_, .int _⟩
        · exact .inl ⟨_, .str _⟩
        · exact .inl ⟨_, K2.TyB.kp kx (.tup (S26 _ _ (S25 _ _ (S24 _ _ hb1))))⟩
        · exact .inr ⟨_, _, rfl, ((B2.ext S25).ext S26).kp kx, ok_plain (by decide +kernel) (by decide) (by decide), .inl rfl⟩
        · exact .inr ⟨_, _, rfl, (B3.ext S26).kp kx, ok_plain (by decide +kernel) (by decide) (by decide), .inr rfl⟩
      have e27 : Xn H20 H27 := xn_sx p0 (e22.trans (LamX.ExtN.of S2226)) sx27
      have tb27 := tabs_sx pl26 sx27 (tb22.ext S2226)
      clear S21 S23 S24 S25 S26 S2226 pl21 pl22 pl26 sx22 sx27 kx hb1 B2 B3 hlb lb0 lbp hv e22 tb22
      walk_at "rd"
      have fb : ∃ n : Int, (∀ (H : Hp) (l : Addr), Xn H27 H → LF K C H D L p1 p2 r1 r2 rA rB → H l = some (.lst (insAt r (.ref p1) (.ref p2) v)) → BadPols K C H (.ref l) (.int n)) ∧ (∀ (H : Hp) (Q : VK), Xn H27 H → Q (.int n) H → spFB K C [.int r, v] H Q E0) := by
        rcases bv with ⟨m, ty⟩ | ⟨x, q, rfl, px, ok, hz⟩
        · exact ⟨r, fun H l e lf hl => bad_ins lf r0 r3 hl ⟨m, tyN e ty⟩, fun H Q e q => ⟨r, v, rfl, .inl ⟨⟨m, tyN e ty⟩, q⟩⟩⟩
        · exact ⟨_, fun H l e lf hl => bad_insP lf r0 r3 hl (px.kp (Kp.extN e)) ok hz, fun H Q e k => ⟨r, _, rfl, .inr ⟨x, q, rfl, px.kp (Kp.extN e), k⟩⟩⟩
      obtain ⟨n, fb1, fb2⟩ := fb
      have cl := cut_len (x := V.ref p1) (y := V.ref p2) r0 r3
      have clr := cut_len (x := V.ref r1) (y := V.ref r2) r0 r3
      refine ⟨tb27, fun H28 q28 tb28 => ?_⟩
      have e28 := e27.trans q28
      have lf28 := lf.xn e28
      refine told_pol (n := .int n) (fun E Q' er => ?_) (fun H29 l29 l0 S29 hl29 => ?_)
      · walk_at "rd"
        refine g_slTo rfl ?_
        walk_at "rd"
        refine sl_go lf28.d fun u1 G1 _ T1 hu1 => ?_
        walk_at "rd"
        refine lst_go ?hl fun u2 G2 _ T2 hu2 => ?_
        case hl => exact Nat.le_of_ble_eq_true rfl
        refine cat_go (T2 _ _ hu1) hu2 (by show _ + 1 ≤ 1000; omega) fun u3 G3 _ T3 hu3 => ?_
        have T13 := Same.trans T1 (Same.trans T2 T3)
        refine g_slFrom rfl ?_
        walk_at "rd"
        refine sl_go (T13 _ _ lf28.d) fun u4 G4 _ T4 hu4 => ?_
        refine cat_go (T4 _ _ hu3) hu4 (by rw [List.length_append]; show _ + 1 + _ ≤ 1000; omega) fun u5 G5 _ T5 hu5 => ?_
        rw [cut_ins r0 r3] at hu5
        have T15 := Same.trans T13 (Same.trans T4 T5)
        walk_at "rd"
        intro x dx nx ndx ne
        exact any_pol nx ndx (fb1 G5 u5 (q28.trans (LamX.ExtN.of T15)) (lf28.xn (LamX.ExtN.of T15)) hu5) (er.ext T15)
      walk_at "rd"
      refine fb2 H29 _ (q28.trans (LamX.ExtN.of S29)) ?_
      walk_at "rd"
      refine lst_go ?hl fun due H30 _ S30 hdue => ?_
      case hl => exact Nat.le_of_ble_eq_true rfl
      refine ne_two (S30 _ _ hl29) hdue (.str _) (.int _) (Lay.str (by decide +kernel) (by decide +kernel) : Lay _ 0) .int (by decide) ?_
      have S2830 := Same.trans S29 S30
      have e30 := e28.trans (LamX.ExtN.of S2830)
      have tb30 := tb28.ext S2830
      have pl30 := (pool_xn q28 pl27).ext S2830
      clear fb1 fb2 bv e27 tb27 pl27 e28 q28 tb28 lf28 S29 S30 S2830 hl29 hdue n cl
      walk_at "rd"
      -- the values that are no services
      refine tup_go ?hl fun x1 H31 _ S31 hx1 => ?_
      case hl => exact Nat.le_of_ble_eq_true rfl
      walk_at "rd"
      refine tup_go ?hl fun x2 H32 _ S32 hx2 => ?_
      case hl => exact Nat.zero_le _
      walk_at "rd"
      refine tup_go ?hl fun x3 H33 _ S33 hx3 => ?_
      case hl => exact Nat.le_of_ble_eq_true rfl
      walk_at "rd"
      refine tup_go ?hl fun x4 H34 _ S34 hx4 => ?_
      case hl => exact Nat.zero_le _
      walk_at "rd"
      refine lst_go ?hl fun x5 H35 _ S35 hx5 => ?_
      case hl => exact Nat.le_of_ble_eq_true rfl
      walk_at "rd"
      refine lst_go ?hl fun x6 H36 _ S36 hx6 => ?_
      case hl => exact Nat.zero_le _
      walk_at "rd"
      refine tup_go ?hl fun x7 H37 _ S37 hx7 => ?_
      case hl => exact Nat.le_of_ble_eq_true rfl
      walk_at "rd"
      refine tup_go ?hl fun x8 H38 _ S38 hx8 => ?_
      case hl => exact Nat.zero_le _
      walk_at "rd"
      refine tup_go ?hl fun x9 H39 _ S39 hx9 => ?_
      case hl => exact Nat.zero_le _
      walk_at "rd"
      refine tup_go ?hl fun x10 H40 _ S40 hx10 => ?_
      case hl => exact Nat.le_of_ble_eq_true rfl
      walk_at "rd"
      refine tup_go ?hl fun x11 H41 _ S41 hx11 => ?_
      case hl => exact Nat.zero_le _
      walk_at "rd"
      refine tup_go ?hl fun x12 H42 _ S42 hx12 => ?_
      case hl => exact Nat.le_of_ble_eq_true rfl
      walk_at "rd"
      refine tup_go ?hl fun x13 H43 _ S43 hx13 => ?_
      case hl => exact Nat.zero_le _
      walk_at "rd"
      refine tup_go ?hl fun x14 H44 _ S44 hx14 => ?_
      case hl => exact Nat.le_of_ble_eq_true rfl
      walk_at "rd"
      refine lst_go ?hl fun lc H45 lc0 S45 hlc => ?_
      case hl => exact Nat.le_of_ble_eq_true rfl
      have U44 := S45
      have U43 := Same.trans S44 U44
      have U42 := Same.trans S43 U43
      have U41 := Same.trans S42 U42
      have U40 := Same.trans S41 U41
      have U39 := Same.trans S40 U40
      have U38 := Same.trans S39 U39
      have U37 := Same.trans S38 U38
      have U36 := Same.trans S37 U37
      have U35 := Same.trans S36 U36
      have U34 := Same.trans S35 U35
      have U33 := Same.trans S34 U34
      have U32 := Same.trans S33 U33
      have U31 := Same.trans S32 U32
      have U30 := Same.trans S31 U31
      have hx1 := U31 _ _ hx1
      have hx2 := U32 _ _ hx2
      have hx3 := U33 _ _ hx3
      have hx4 := U34 _ _ hx4
      have hx5 := U35 _ _ hx5
      have hx6 := U36 _ _ hx6
      have hx7 := U37 _ _ hx7
      have hx8 := U38 _ _ hx8
      have hx9 := U39 _ _ hx9
      have hx10 := U40 _ _ hx10
      have hx11 := U41 _ _ hx11
      have hx12 := U42 _ _ hx12
      have hx13 := U43 _ _ hx13
      have hx14 := U44 _ _ hx14
      have pl45 := pl30.ext U30
      have lcp : lc ≠ p := (pl30.ext (Same.trans S31 (Same.trans S32 (Same.trans S33 (Same.trans S34 (Same.trans S35 (Same.trans S36 (Same.trans S37 (Same.trans S38 (Same.trans S39 (Same.trans S40 (Same.trans S41 (Same.trans S42 (Same.trans S43 S44)))))))))))))).ne_new lc0
      refine ⟨p, lc, _, rfl, pl45, lcp, hlc, Nat.le_of_ble_eq_true rfl, Nat.le_of_ble_eq_true rfl, fun v2 H46 hv pl46 sx46 => ?_⟩
      have br : BadRow K H46 v2 := by
        refine BadRow.kp (Kp.sx pl45 pl46 sx46) ?_
        have len : ∀ x : V, (∀ z, x = .str z → z.length ≤ 1000) → (∀ z, x = .str z → z.length ≤ 1000) := fun _ h => h
        have tp : ∀ {a : Addr} {xs : List V}, H45 a = some (.tup xs) → TupV K H45 a xs := fun h => ⟨.tup h, SqT.of h⟩
        simp only [List.mem_cons, List.not_mem_nil, or_false] at hv
        rcases hv with rfl | rfl | rfl | rfl | rfl | rfl | rfl | rfl | rfl
        · exact .inl ⟨_, .non, by decide⟩
        · exact .inl ⟨_, .str _, by decide⟩
        · exact .inr ⟨x1, _, rfl, tp hx1, .inl (by show 1 ≠ 2; decide)⟩
        · exact .inr ⟨x3, _, rfl, tp hx3, .inr ⟨_, _, _, _, rfl, .str _, .tup hx2, (fun z e => by cases e; decide +kernel), .inl (by decide +kernel)⟩⟩
        · exact .inl ⟨_, .lst hx5, by decide⟩
        · exact .inr ⟨x7, _, rfl, tp hx7, .inr ⟨_, _, _, _, rfl, .str _, .lst hx6, (fun z e => by cases e; decide +kernel), .inr (by decide)⟩⟩
        · exact .inr ⟨x10, _, rfl, tp hx10, .inl (by show 3 ≠ 2; decide)⟩
        · exact .inr ⟨x12, _, rfl, tp hx12, .inr ⟨_, _, _, _, rfl, .str _, .tup hx11, (fun z e => by cases e; decide +kernel), .inl (by decide +kernel)⟩⟩
        · exact .inr ⟨x14, _, rfl, tp hx14, .inr ⟨_, _, _, _, rfl, .int _, .tup hx13, (fun z e => by cases e), .inl (by decide +kernel)⟩⟩
      have e46 : Xn H20 H46 := xn_sx p0 (e30.trans (LamX.ExtN.of U30)) sx46
      have tb46 := tabs_sx pl45 sx46 (tb30.ext U30)
      clear hv hlc lc0 lcp sx46 pl45 pl30 e30 tb30 S31 S32 S33 S34 S35 S36 S37 S38 S39 S40 S41 S42 S43 S44 S45 U30 U31 U32 U33 U34 U35 U36 U37 U38 U39 U40 U41 U42 U43 U44 hx1 hx2 hx3 hx4 hx5 hx6 hx7 hx8 hx9 hx10 hx11 hx12 hx13 hx14
      walk_at "rd"
      refine ⟨tb46, fun H47 q47 tb47 => ?_⟩
      have e47 := e46.trans q47
      have lf47 := lf.xn e47
      refine told_srv (n := .int r) (fun E Q' er => ?_) (fun H48 l48 l0 S48 hl48 => ?_)
      · walk_at "rd"
        refine g_slTo rfl ?_
        walk_at "rd"
        refine sl_go lf47.l fun u1 G1 _ T1 hu1 => ?_
        walk_at "rd"
        refine lst_go ?hl fun u2 G2 _ T2 hu2 => ?_
        case hl => exact Nat.le_of_ble_eq_true rfl
        refine cat_go (T2 _ _ hu1) hu2 (by show _ + 1 ≤ 1000; omega) fun u3 G3 _ T3 hu3 => ?_
        have T13 := Same.trans T1 (Same.trans T2 T3)
        refine g_slFrom rfl ?_
        walk_at "rd"
        refine sl_go (T13 _ _ lf47.l) fun u4 G4 _ T4 hu4 => ?_
        refine cat_go (T4 _ _ hu3) hu4 (by rw [List.length_append]; show _ + 1 + _ ≤ 1000; omega) fun u5 G5 _ T5 hu5 => ?_
        rw [cut_ins r0 r3] at hu5
        have T15 := Same.trans T13 (Same.trans T4 T5)
        walk_at "rd"
        refine lst_go ?hl fun u6 G6 _ T6 hu6 => ?_
        case hl => exact Nat.le_of_ble_eq_true rfl
        refine cat_go (T6 _ _ hu5) hu6 (by rw [ins_len]; show 3 + 1 ≤ 1000; decide) fun u7 G7 _ T7 hu7 => ?_
        have T17 := Same.trans T15 (Same.trans T6 T7)
        have lfG := lf47.xn (LamX.ExtN.of T17)
        walk_at "rd"
        intro x dx nx ndx ne
        exact any_srv (ps := [(p1, qP), (p2, qQ)]) nx ndx (.inl lfG.d) lfG.pols (by show 2 ≤ 8; decide) (by show ([("p" : Str), "q"]).Nodup; decide +kernel) (bad_insS lfG za zb r0 r3 hu7 (br.extN (q47.trans (LamX.ExtN.of T17)))) (er.ext T17)
      walk_at "rd"
      refine lst_go ?hl fun due H49 _ S49 hdue => ?_
      case hl => exact Nat.le_of_ble_eq_true rfl
      refine ne_two (S49 _ _ hl48) hdue (.str _) (.int _) (Lay.str (by decide +kernel) (by decide +kernel) : Lay _ 0) .int (by decide) ?_
      have S4749 := Same.trans S48 S49
      have e49 := e47.trans (LamX.ExtN.of S4749)
      have tb49 := tb47.ext S4749
      have pl49 := (pool_xn q47 pl46).ext S4749
      clear br e46 tb46 pl46 e47 q47 tb47 lf47 S48 S49 S4749 hl48 hdue clr
      walk_at "rd"
      -- a service twice
      refine ⟨tb49, fun H50 q50 tb50 => ?_⟩
      have e50 := e49.trans q50
      have lf50 := lf.xn e50
      refine told_srv (n := .int 2) (fun E Q' er => ?_) (fun H51 l51 l0 S51 hl51 => ?_)
      · walk_at "rd"
        refine tup_go ?hl fun u1 G1 _ T1 hu1 => ?_
        case hl => exact Nat.le_of_ble_eq_true rfl
        walk_at "rd"
        refine tup_go ?hl fun u2 G2 _ T2 hu2 => ?_
        case hl => exact Nat.zero_le _
        walk_at "rd"
        refine tup_go ?hl fun u3 G3 _ T3 hu3 => ?_
        case hl => exact Nat.le_of_ble_eq_true rfl
        walk_at "rd"
        refine lst_go ?hl fun u4 G4 _ T4 hu4 => ?_
        case hl => exact Nat.le_of_ble_eq_true rfl
        have T14 := Same.trans T1 (Same.trans T2 (Same.trans T3 T4))
        refine cat_go (T14 _ _ lf50.l) hu4 (by show 2 + 2 ≤ 1000; decide) fun u5 G5 _ T5 hu5 => ?_
        have T15 := Same.trans T14 T5
        have lfG := lf50.xn (LamX.ExtN.of T15)
        have hu1 := T5 _ _ (T4 _ _ (T3 _ _ (T2 _ _ hu1)))
        walk_at "rd"
        intro x dx nx ndx ne
        exact any_srv (ps := [(p1, qP), (p2, qQ)]) nx ndx (.inl lfG.d) lfG.pols (by show 2 ≤ 8; decide) (by show ([("p" : Str), "q"]).Nodup; decide +kernel)
          (.inr ⟨u5, _, [r1, r2], [rA, rB], .ref u1, rfl, .inl hu5, by show 4 ≤ 6; decide, rfl, rfl, lfG.sv, lfG.rw, (by show ([rA.z, rB.z]).Nodup; rw [za, zb]; decide +kernel), .inl (.inr ⟨u1, _, rfl, ⟨.tup hu1, SqT.of hu1⟩, .inr ⟨_, _, _, _, rfl, .str _, .non, (fun z e => by cases e; decide +kernel), .inr (by decide)⟩⟩), rfl⟩) (er.ext T15)
      walk_at "rd"
      refine lst_go ?hl fun due H52 _ S52 hdue => ?_
      case hl => exact Nat.le_of_ble_eq_true rfl
      refine ne_two (S52 _ _ hl51) hdue (.str _) (.int _) (Lay.str (by decide +kernel) (by decide +kernel) : Lay _ 0) .int (by decide) ?_
      have S5052 := Same.trans S51 S52
      have e52 := e50.trans (LamX.ExtN.of S5052)
      have tb52 := tb50.ext S5052
      have pl52 := (pool_xn q50 pl49).ext S5052
      clear e49 tb49 pl49 e50 q50 tb50 lf50 S51 S52 S5052 hl51 hdue
      walk_at "rd"
      -- a name that is not there yet
      refine lst_go ?hl fun ll H53 ll0 S53 hll => ?_
      case hl => exact Nat.le_of_ble_eq_true rfl
      have pl53 := pl52.ext S53
      refine ⟨p, ll, _, rfl, pl53, pl52.ne_new ll0, hll, Nat.le_of_ble_eq_true rfl, Nat.le_of_ble_eq_true rfl, fun v3 H54 hv pl54 sx54 => ?_⟩
      obtain ⟨z, rfl, hz⟩ : ∃ z : Str, v3 = .str z ∧ (z = "b" ∨ z = "c" ∨ z = "zz") := by
        simp only [List.mem_cons, List.not_mem_nil, or_false] at hv
        rcases hv with rfl | rfl | rfl
        · exact ⟨_, rfl, .inl rfl⟩
        · exact ⟨_, rfl, .inr (.inl rfl)⟩
        · exact ⟨_, rfl, .inr (.inr rfl)⟩
      have nz : isNm z = true := by rcases hz with rfl | rfl | rfl <;> decide +kernel
      obtain ⟨y, shz, lz⟩ : ∃ y : Str, (∀ H, ShowsV K H (.str z) y) ∧ Lay (.str y) 0 := by
        rcases hz with rfl | rfl | rfl
        · exact ⟨_, fun H => sh_b H, .str (by decide +kernel) (by decide +kernel)⟩
        · exact ⟨_, fun H => sh_c H, .str (by decide +kernel) (by decide +kernel)⟩
        · refine ⟨"'zz'", fun H => ?_, .str (by decide +kernel) (by decide +kernel)⟩
          have := ShowsV.str (K := K) (H := H) (x := "zz") (by decide +kernel)
          rwa [show reprText "zz" = "'zz'" by decide +kernel] at this
      have e54 : Xn H20 H54 := xn_sx p0 (e52.trans (LamX.ExtN.of S53)) sx54
      have tb54 := tabs_sx pl53 sx54 (tb52.ext S53)
      clear hv hll ll0 S53 pl53 sx54 pl52 e52 tb52
      walk_at "rd"
      refine tup_go ?hl fun y1 H55 _ S55 hy1 => ?_
      case hl => exact Nat.le_of_ble_eq_true rfl
      walk_at "rd"
      refine tup_go ?hl fun y2 H56 _ S56 hy2 => ?_
      case hl => exact Nat.le_of_ble_eq_true rfl
      walk_at "rd"
      refine tup_go ?hl fun y3 H57 _ S57 hy3 => ?_
      case hl => exact Nat.le_of_ble_eq_true rfl
      walk_at "rd"
      refine tup_go ?hl fun bk4 H58 _ S58 hbk4 => ?_
      case hl => exact Nat.le_of_ble_eq_true rfl
      walk_at "rd"
      have S5458 := Same.trans S55 (Same.trans S56 (Same.trans S57 S58))
      have hy1 := S58 _ _ (S57 _ _ (S56 _ _ hy1))
      have hy2 := S58 _ _ (S57 _ _ hy2)
      have hy3 := S58 _ _ hy3
      have tp : ∀ {a : Addr} {xs : List V}, H58 a = some (.tup xs) → TupV K H58 a xs := fun h => ⟨.tup h, SqT.of h⟩
      have nn : isNm "none" = true := by decide +kernel
      have pz : (pio [.leaf (.run 1 1), .leaf (.call false z "none"), .leaf (.call false "none" "p")] 0).length ≤ 1000 := by rcases hz with rfl | rfl | rfl <;> decide +kernel
      have wb : RwAt K H58 ⟨"b", bk4, [.leaf (.run 1 1), .leaf (.call false z "none"), .leaf (.call false "none" "p")], [.ref y1] ++ ([.ref y2] ++ [.ref y3])⟩ :=
        ⟨tp hbk4, RepB.app (RepB.one (rt_run (tp hy1) (by decide))) (RepB.app (RepB.one (rt_call (tp hy2) nz nn)) (RepB.one (rt_call (tp hy3) nn (by decide +kernel)))), (by show isNm "b" = true; decide +kernel), pz⟩
      have e58 := e54.trans (LamX.ExtN.of S5458)
      have tb58 := tb54.ext S5458
      have pl58 := pl54.ext S5458
      clear S55 S56 S57 S58 S5458 hy1 hy2 hy3 tp hbk4 e54 tb54 pl54
      refine ⟨tb58, fun H59 q59 tb59 => ?_⟩
      have e59 := e58.trans q59
      have lf59 := lf.xn e59
      have wb : RwAt K H59 _ := ⟨wb.c.kp (Kp.extN q59), RepB.kp (Kp.extN q59) _ _ wb.b, wb.nm, wb.hl⟩
      refine told_name (v := .str z) (z := y) (shz _) (fun E Q' er => ?_) (fun H60 l60 l0 S60 hl60 => ?_)
      · walk_at "rd"
        refine g_ixL (SqL.of lf59.l) (v := .ref r1) (atI_nat (j := 0) rfl) ?_
        walk_at "rd"
        refine tup_go ?hl fun u1 G1 _ T1 hu1 => ?_
        case hl => exact Nat.le_of_ble_eq_true rfl
        walk_at "rd"
        refine tup_go ?hl fun u2 G2 _ T2 hu2 => ?_
        case hl => exact Nat.zero_le _
        walk_at "rd"
        refine tup_go ?hl fun u3 G3 _ T3 hu3 => ?_
        case hl => exact Nat.le_of_ble_eq_true rfl
        walk_at "rd"
        refine lst_go ?hl fun u4 G4 _ T4 hu4 => ?_
        case hl => exact Nat.le_of_ble_eq_true rfl
        have T14 := Same.trans T1 (Same.trans T2 (Same.trans T3 T4))
        have lfG := lf59.xn (LamX.ExtN.of T14)
        have hu1 := T4 _ _ (T3 _ _ (T2 _ _ hu1))
        have hu2 := T4 _ _ (T3 _ _ hu2)
        have hu3 := T4 _ _ hu3
        have wbG := wb.ext T14
        obtain ⟨xa, ys, exa, txa, _⟩ := id lfG.sv
        cases exa
        walk_at "rd"
        intro x dx nx ndx ne
        refine .inl ⟨x, dx, D, u4, [(p1, qP), (p2, qQ)], [r1, u1, u3], [rA, ⟨"b", bk4, [.leaf (.run 1 1), .leaf (.call false z "none"), .leaf (.call false "none" "p")], [.ref y1] ++ ([.ref y2] ++ [.ref y3])⟩, ⟨"c", u2, [], []⟩], G4, rfl, upd_same, nx, same_ins nx ndx, .inl lfG.d, lfG.pols, by show 2 ≤ 8; decide, (by show ([("p" : Str), "q"]).Nodup; decide +kernel), .inl hu4,
          ⟨_, _, rfl, txa, _, _, rfl, ⟨.tup hu1, SqT.of hu1⟩, _, _, rfl, ⟨.tup hu3, SqT.of hu3⟩, rfl⟩, fun y hy => ?_, by show 1 ≤ 3; decide, by show 3 ≤ 6; decide, (by show ([rA.z, "b", "c"]).Nodup; rw [za]; decide +kernel), .inr ⟨.name z, ?_, fun d H' S hd => er d H' (Same.trans T14 S) hd⟩⟩
        · simp only [List.mem_cons, List.not_mem_nil, or_false] at hy
          rcases hy with rfl | rfl | rfl
          · exact lfG.rw _ (List.mem_cons_self ..)
          · exact wbG
          · exact rw_nil ⟨.tup hu2, SqT.of hu2⟩ (by decide +kernel)
        · rw [out_at]
          show outN [qP, qQ] [(rA.z, rA.b), ("b", [.leaf (.run 1 1), .leaf (.call false z "none"), .leaf (.call false "none" "p")]), ("c", [])] [] = _
          rw [za, bA']
          exact out7 z hz
      walk_at "rd"
      refine ⟨.str z, y, rfl, shz _, ?_⟩
      walk_at "rd"
      refine lst_go ?hl fun due H61 _ S61 hdue => ?_
      case hl => exact Nat.le_of_ble_eq_true rfl
      refine ne_two (S61 _ _ hl60) hdue (.str _) (.str _) (Lay.str (by decide +kernel) (by decide +kernel)) lz (by decide) ?_
      have S5961 := Same.trans S60 S61
      have e61 := e59.trans (LamX.ExtN.of S5961)
      have tb61 := tb59.ext S5961
      clear e58 tb58 pl58 e59 q59 tb59 lf59 S60 S61 S5961 hl60 hdue wb
      walk_at "rd"
      -- a policy that is not there
      refine tup_go ?hl fun y1 H62 _ S62 hy1 => ?_
      case hl => exact Nat.le_of_ble_eq_true rfl
      walk_at "rd"
      refine tup_go ?hl fun y2 H63 _ S63 hy2 => ?_
      case hl => exact Nat.le_of_ble_eq_true rfl
      walk_at "rd"
      refine tup_go ?hl fun bk5 H64 _ S64 hbk5 => ?_
      case hl => exact Nat.le_of_ble_eq_true rfl
      walk_at "rd"
      have S6164 := Same.trans S62 (Same.trans S63 S64)
      have hy1 := S64 _ _ (S63 _ _ hy1)
      have hy2 := S64 _ _ hy2
      have tp : ∀ {a : Addr} {xs : List V}, H64 a = some (.tup xs) → TupV K H64 a xs := fun h => ⟨.tup h, SqT.of h⟩
      have wb : RwAt K H64 ⟨"b", bk5, [.leaf (.call true "a" "r"), .leaf (.call false "x" "p")], [.ref y1] ++ [.ref y2]⟩ :=
        ⟨tp hbk5, RepB.app (RepB.one (rt_want (tp hy1) (by decide +kernel) (by decide +kernel))) (RepB.one (rt_call (tp hy2) (by decide +kernel) (by decide +kernel))), (by show isNm "b" = true; decide +kernel), by show (pio [.leaf (.call true "a" "r"), .leaf (.call false "x" "p")] 0).length ≤ 1000; decide +kernel⟩
      have e64 := e61.trans (LamX.ExtN.of S6164)
      have tb64 := tb61.ext S6164
      clear S62 S63 S64 S6164 hy1 hy2 tp hbk5 e61 tb61
      refine ⟨tb64, fun H65 q65 tb65 => ?_⟩
      have e65 := e64.trans q65
      have lf65 := lf.xn e65
      have wb : RwAt K H65 _ := ⟨wb.c.kp (Kp.extN q65), RepB.kp (Kp.extN q65) _ _ wb.b, wb.nm, wb.hl⟩
      refine told_name (v := .str "r") (z := "'r'") (sh_r _) (fun E Q' er => ?_) (fun H66 l66 l0 S66 hl66 => ?_)
      · walk_at "rd"
        refine g_ixL (SqL.of lf65.l) (v := .ref r1) (atI_nat (j := 0) rfl) ?_
        walk_at "rd"
        refine tup_go ?hl fun u1 G1 _ T1 hu1 => ?_
        case hl => exact Nat.le_of_ble_eq_true rfl
        walk_at "rd"
        refine lst_go ?hl fun u4 G4 _ T4 hu4 => ?_
        case hl => exact Nat.le_of_ble_eq_true rfl
        have T14 := Same.trans T1 T4
        have lfG := lf65.xn (LamX.ExtN.of T14)
        have hu1 := T4 _ _ hu1
        have wbG := wb.ext T14
        obtain ⟨xa, ys, exa, txa, _⟩ := id lfG.sv
        cases exa
        walk_at "rd"
        intro x dx nx ndx ne
        refine .inl ⟨x, dx, D, u4, [(p1, qP), (p2, qQ)], [r1, u1], [rA, ⟨"b", bk5, [.leaf (.call true "a" "r"), .leaf (.call false "x" "p")], [.ref y1] ++ [.ref y2]⟩], G4, rfl, upd_same, nx, same_ins nx ndx, .inl lfG.d, lfG.pols, by show 2 ≤ 8; decide, (by show ([("p" : Str), "q"]).Nodup; decide +kernel), .inl hu4,
          ⟨_, _, rfl, txa, _, _, rfl, ⟨.tup hu1, SqT.of hu1⟩, rfl⟩, fun y hy => ?_, by show 1 ≤ 2; decide, by show 2 ≤ 6; decide, (by show ([rA.z, "b"]).Nodup; rw [za]; decide +kernel), .inr ⟨.name "r", ?_, fun d H' S hd => er d H' (Same.trans T14 S) hd⟩⟩
        · simp only [List.mem_cons, List.not_mem_nil, or_false] at hy
          rcases hy with rfl | rfl
          · exact lfG.rw _ (List.mem_cons_self ..)
          · exact wbG
        · rw [out_at]
          show outN [qP, qQ] [(rA.z, rA.b), ("b", [.leaf (.call true "a" "r"), .leaf (.call false "x" "p")])] [] = _
          rw [za, bA']
          exact out6
      walk_at "rd"
      refine lst_go ?hl fun due H67 _ S67 hdue => ?_
      case hl => exact Nat.le_of_ble_eq_true rfl
      refine ne_two (S67 _ _ hl66) hdue (.str _) (.str _) (Lay.str (by decide +kernel) (by decide +kernel) : Lay _ 0) (Lay.str (by decide +kernel) (by decide +kernel)) (by decide) ?_
      walk_at "rd"
      exact ⟨_, _, _, _, _, _, rfl, e20.trans (e65.trans (LamX.ExtN.of (Same.trans S66 S67))), tb65.ext (Same.trans S66 S67)⟩
    · rintro σ H20 ⟨o3, o4, o5, o6, o7, o8, rfl, _⟩
      walk_at "rd"
      exact k H20
end
end K2

namespace K2
open PySem PySem.Spec PyProof.Rows L2 Mc Mx
theorem kit_off {K : PySem.W.Frag} {C : Addr} {n : String} {l : List Value} (hd : PySem.W.hasDictIn K C = true) (ty : PySem.W.typeIn K (.ref C) = some (.type "type")) (e : fastBuiltinMro n = some l) (hl : l.contains (.ref C) = false) : PySem.W.kitOne K (.type n) (.ref C) = some false := by
  obtain ⟨cd, hc, _⟩ := PySem.W.any_some hd
  have q : PySem.W.subIn K (.type n) (.ref C) = some false := by
    show (fastBuiltinMro n).map (·.contains (.ref C)) = some false
    rw [e, Option.map_some, hl]
  have a : (Value.type n == Value.ref C) = false := by simp
  show (if (Value.type n == Value.ref C) = true then some true else (if ((PySem.W.clsIn K C).isSome && PySem.W.typeIn K (.ref C) == some (.type "type")) = true then PySem.W.subIn K (.type n) (.ref C) else none)) = some false
  rw [a, if_neg Bool.false_ne_true, hc, ty, q]
  simp
theorem exm_is {K : PySem.W.Frag} {A B : Addr} {b : Bool} (be : PySem.W.subIn K (.ref B) (.type "BaseException") = some true) (ty : PySem.W.typeIn K (.ref B) = some (.type "type")) (hd : PySem.W.hasDictIn K B = true) (s : PySem.W.subIn K (.ref A) (.ref B) = some b) : PySem.W.exmOne K (.ref A) (.ref B) = some b := by
  obtain ⟨cd, hc, _⟩ := PySem.W.any_some hd
  unfold PySem.W.exmOne
  rw [be]
  show (if ((PySem.W.clsIn K B).isSome && PySem.W.typeIn K (.ref B) == some (.type "type")) = true then PySem.W.subIn K (.ref A) (.ref B) else none) = some b
  rw [hc, ty, s]
  simp
theorem all_mk {l : PySem.W.OpenLaw} {w : World} {K : PySem.W.Frag} {h : Heap} {mg : Str → Option Value} {fa : Addr} {fg0 : Addr} {odg0 ang0 : Option Addr} {slg0 : Array (Option Value)} {ocg0 dcg0 pmg0 cdg0 ctg0 kVg0 : Value} {fg1 : Addr} {odg1 ang1 : Option Addr} {slg1 : Array (Option Value)} {ocg1 dcg1 pmg1 cdg1 ctg1 kVg1 : Value} {fg2 : Addr} {odg2 ang2 : Option Addr} {slg2 : Array (Option Value)} {ocg2 dcg2 pmg2 cdg2 ctg2 kVg2 : Value} {fg3 : Addr} {odg3 ang3 : Option Addr} {slg3 : Array (Option Value)} {ocg3 dcg3 pmg3 cdg3 ctg3 kVg3 : Value} {fg4 : Addr} {odg4 ang4 : Option Addr} {slg4 : Array (Option Value)} {ocg4 dcg4 pmg4 cdg4 ctg4 kVg4 : Value} {fg5 : Addr} {odg5 ang5 : Option Addr} {slg5 : Array (Option Value)} {ocg5 dcg5 pmg5 cdg5 ctg5 kVg5 : Value} {fg6 : Addr} {odg6 ang6 : Option Addr} {slg6 : Array (Option Value)} {ocg6 dcg6 pmg6 cdg6 ctg6 kVg6 : Value} {fg7 : Addr} {odg7 ang7 : Option Addr} {slg7 : Array (Option Value)} {ocg7 dcg7 pmg7 cdg7 ctg7 kVg7 : Value} {fg8 : Addr} {odg8 ang8 : Option Addr} {slg8 : Array (Option Value)} {ocg8 dcg8 pmg8 cdg8 ctg8 kVg8 : Value} {fg9 : Addr} {odg9 ang9 : Option Addr} {slg9 : Array (Option Value)} {ocg9 dcg9 pmg9 cdg9 ctg9 kVg9 : Value} {fg10 : Addr} {odg10 ang10 : Option Addr} {slg10 : Array (Option Value)} {ocg10 dcg10 pmg10 cdg10 ctg10 kVg10 : Value} {fg11 : Addr} {odg11 ang11 : Option Addr} {slg11 : Array (Option Value)} {ocg11 dcg11 pmg11 cdg11 ctg11 kVg11 : Value} {fg12 : Addr} {odg12 ang12 : Option Addr} {slg12 : Array (Option Value)} {ocg12 dcg12 pmg12 cdg12 ctg12 kVg12 : Value} {fg13 : Addr} {odg13 ang13 : Option Addr} {slg13 : Array (Option Value)} {ocg13 dcg13 pmg13 cdg13 ctg13 kVg13 : Value} {fg14 : Addr} {odg14 ang14 : Option Addr} {slg14 : Array (Option Value)} {ocg14 dcg14 pmg14 cdg14 ctg14 kVg14 : Value} {fg15 : Addr} {odg15 ang15 : Option Addr} {slg15 : Array (Option Value)} {ocg15 dcg15 pmg15 cdg15 ctg15 kVg15 : Value} {fg16 : Addr} {odg16 ang16 : Option Addr} {slg16 : Array (Option Value)} {ocg16 dcg16 pmg16 cdg16 ctg16 kVg16 : Value} {fg17 : Addr} {odg17 ang17 : Option Addr} {slg17 : Array (Option Value)} {ocg17 dcg17 pmg17 cdg17 ctg17 kVg17 : Value} {fg18 : Addr} {odg18 ang18 : Option Addr} {slg18 : Array (Option Value)} {ocg18 dcg18 pmg18 cdg18 ctg18 kVg18 : Value} {fg19 : Addr} {odg19 ang19 : Option Addr} {slg19 : Array (Option Value)} {ocg19 dcg19 pmg19 cdg19 ctg19 kVg19 : Value} {fg20 : Addr} {odg20 ang20 : Option Addr} {slg20 : Array (Option Value)} {ocg20 dcg20 pmg20 cdg20 ctg20 kVg20 : Value} {fg21 : Addr} {odg21 ang21 : Option Addr} {slg21 : Array (Option Value)} {ocg21 dcg21 pmg21 cdg21 ctg21 kVg21 : Value} {fg22 : Addr} {odg22 ang22 : Option Addr} {slg22 : Array (Option Value)} {ocg22 dcg22 pmg22 cdg22 ctg22 kVg22 : Value} {fg23 : Addr} {odg23 ang23 : Option Addr} {slg23 : Array (Option Value)} {ocg23 dcg23 pmg23 cdg23 ctg23 kVg23 : Value} {ts : List Addr} {qL PL : Addr} {qvL : Array Value} {qcL : Value} {qdL : Option Addr} {qsL : Array (Option Value)} {fL : Addr} {odL anL : Option Addr} {slL : Array (Option Value)} {ocL dcL pmL ctL kVL : Value} {qR PR : Addr} {qvR : Array Value} {qcR : Value} {qdR : Option Addr} {qsR : Array (Option Value)} {fR : Addr} {odR anR : Option Addr} {slR : Array (Option Value)} {ocR dcR pmR ctR kVR : Value} {qJ PJ : Addr} {qvJ : Array Value} {qcJ : Value} {qdJ : Option Addr} {qsJ : Array (Option Value)} {fJ : Addr} {odJ anJ : Option Addr} {slJ : Array (Option Value)} {ocJ dcJ pmJ ctJ kVJ : Value} {fQ : Addr} {odQ anQ : Option Addr} {slQ : Array (Option Value)} {ocQ dcQ pmQ cdQ ctQ kVQ : Value} {tpio : Addr} {tkpio : Tok} {tpd : Option Addr} {tpn : Nat} {tps : Array (Option Value)} {fO : Addr} {odO anO : Option Addr} {slO : Array (Option Value)} {ocO dcO pmO cdO ctO kVO : Value} {tL : Tok} {tc0 : Tok} {tc1 : Tok} {tc2 : Tok} {tc3 : Tok} {tc4 : Tok} {tc5 : Tok} {tc6 : Tok} {tc7 : Tok} {C : Addr} {Dk : Addr} {fI : Addr} {odI anI : Option Addr} {slI : Array (Option Value)} {ocI dcI pmI cdI ctI : Value} {go : Addr} {tk1 tk2 : Tok} {gd : Option Addr} {gn : Nat} {gs : Array (Option Value)} {p_name : Addr} {r_name : List Value} {fpname : Addr} {odpname anpname : Option Addr} {slpname : Array (Option Value)} {ocpname dcpname pmpname cdpname ctpname kVpname : Value} {p_limit : Addr} {r_limit : List Value} {fplimit : Addr} {odplimit anplimit : Option Addr} {slplimit : Array (Option Value)} {ocplimit dcplimit pmplimit cdplimit ctplimit kVplimit : Value} {p_tries : Addr} {r_tries : List Value} {fptries : Addr} {odptries anptries : Option Addr} {slptries : Array (Option Value)} {ocptries dcptries pmptries cdptries ctptries kVptries : Value} {p_pauses : Addr} {r_pauses : List Value} {fppauses : Addr} {odppauses anppauses : Option Addr} {slppauses : Array (Option Value)} {ocppauses dcppauses pmppauses cdppauses ctppauses kVppauses : Value} {p_early : Addr} {r_early : List Value} {fpearly : Addr} {odpearly anpearly : Option Addr} {slpearly : Array (Option Value)} {ocpearly dcpearly pmpearly cdpearly ctpearly kVpearly : Value} {CS : Addr} {fY : Addr} {odY anY : Option Addr} {slY : Array (Option Value)} {ocY dcY pmY cdY ctY kVY : Value} {fw1 : Addr} {odw1 anw1 : Option Addr} {slw1 : Array (Option Value)} {ocw1 dcw1 pmw1 cdw1 ctw1 kVw1 : Value} {fw3 : Addr} {odw3 anw3 : Option Addr} {slw3 : Array (Option Value)} {ocw3 dcw3 pmw3 cdw3 ctw3 kVw3 : Value} {fw4 : Addr} {odw4 anw4 : Option Addr} {slw4 : Array (Option Value)} {ocw4 dcw4 pmw4 cdw4 ctw4 kVw4 : Value} {fw5 : Addr} {odw5 anw5 : Option Addr} {slw5 : Array (Option Value)} {ocw5 dcw5 pmw5 cdw5 ctw5 kVw5 : Value} {fw6 : Addr} {odw6 anw6 : Option Addr} {slw6 : Array (Option Value)} {ocw6 dcw6 pmw6 cdw6 ctw6 kVw6 : Value} {fw7 : Addr} {odw7 anw7 : Option Addr} {slw7 : Array (Option Value)} {ocw7 dcw7 pmw7 cdw7 ctw7 kVw7 : Value} {fw8 : Addr} {odw8 anw8 : Option Addr} {slw8 : Array (Option Value)} {ocw8 dcw8 pmw8 cdw8 ctw8 kVw8 : Value} {fw9 : Addr} {odw9 anw9 : Option Addr} {slw9 : Array (Option Value)} {ocw9 dcw9 pmw9 cdw9 ctw9 kVw9 : Value} {fw11 : Addr} {odw11 anw11 : Option Addr} {slw11 : Array (Option Value)} {ocw11 dcw11 pmw11 cdw11 ctw11 kVw11 : Value} {fw12 : Addr} {odw12 anw12 : Option Addr} {slw12 : Array (Option Value)} {ocw12 dcw12 pmw12 cdw12 ctw12 kVw12 : Value} {CPo : Addr} {nmPo qnPo : Str} {NPo : Addr} {bsPo bmPo : List Value} {snPo : List Str} {subPo : List Value} {abPo : Bool} {colPo : Option Bool} {ddPo : Option Addr} {k0Po k1Po k2Po k3Po k5Po : Option Value} {fPo cPo ccPo : Addr} {odPo anPo cddPo cldPo : Option Addr} {oslPo ccsPo cslPo : Array (Option Value)} {ocPo kVPo dcPo pmPo ctPo cclPo clPo : Value} {vsPo : Array Value} {flPo : Str} {tfPo : Tok} {CSv : Addr} {nmSv qnSv : Str} {NSv : Addr} {bsSv bmSv : List Value} {snSv : List Str} {subSv : List Value} {abSv : Bool} {colSv : Option Bool} {ddSv : Option Addr} {k0Sv k1Sv k2Sv k3Sv k5Sv : Option Value} {fSv cSv ccSv : Addr} {odSv anSv cddSv cldSv : Option Addr} {oslSv ccsSv cslSv : Array (Option Value)} {ocSv kVSv dcSv pmSv ctSv cclSv clSv : Value} {vsSv : Array Value} {flSv : Str} {tfSv : Tok} {CP : Addr} {nmP qnP : Str} {NP : Addr} {bsP bmP : List Value} {snP : List Str} {subP : List Value} {abP : Bool} {colP : Option Bool} {ddP : Option Addr} {k0P k1P k2P k3P k5P : Option Value} {fP cP ccP : Addr} {odP anP cddP cldP : Option Addr} {oslP ccsP cslP : Array (Option Value)} {ocP kVP dcP pmP ctP cclP clP : Value} {vsP : Array Value} {flP : Str} {tfP : Tok} {CU : Addr} {nmU qnU : Str} {NU : Addr} {bsU : List Value} {snU : List Str} {subU : List Value} {abU : Bool} {colU : Option Bool} {ddU : Option Addr} {k0U k1U k2U k3U k5U : Option Value} {fU cU ccU : Addr} {odU anU cddU cldU : Option Addr} {oslU ccsU cslU : Array (Option Value)} {ocU kVU dcU pmU ctU cclU clU : Value} {vsU : Array Value} {flU : Str} {tfU : Tok} {CT : Addr} {nmT qnT : Str} {NT : Addr} {bsT : List Value} {snT : List Str} {subT : List Value} {abT : Bool} {colT : Option Bool} {ddT : Option Addr} {k0T k1T k2T k3T k5T : Option Value} {fT cT ccT : Addr} {odT anT cddT cldT : Option Addr} {oslT ccsT cslT : Array (Option Value)} {ocT kVT dcT pmT ctT cclT clT : Value} {vsT : Array Value} {flT : Str} {tfT : Tok}
    (X : K.In h) (hT8 : ∀ P ∈ ts, h.get? P = some (PySem.W.tabObj #[])) (G : h.Ns mainGlobals mg) (hfa : mg "law" = some (.ref fa))
    (ag0 : PySem.W.nsIn K mainGlobals "is_integer" = some (some (.ref fg0)))
    (lg0 : K.lookup fg0 = some ⟨ocg0, odg0, .func (PySem.W.fnOf "is_integer" "is_integer" (defArgs s_is_integer) (defBody s_is_integer) (defScope s_is_integer) .none kVg0 dcg0 pmg0 ang0 cdg0 ctg0), slg0⟩)
    (cg0 : PySem.W.codeIn K cdg0 "is_integer" = true)
    (kg0 : PySem.W.keepIn K (.ref fg0) = true)
    (ag1 : PySem.W.nsIn K mainGlobals "is_between" = some (some (.ref fg1)))
    (lg1 : K.lookup fg1 = some ⟨ocg1, odg1, .func (PySem.W.fnOf "is_between" "is_between" (defArgs s_is_between) (defBody s_is_between) (defScope s_is_between) .none kVg1 dcg1 pmg1 ang1 cdg1 ctg1), slg1⟩)
    (cg1 : PySem.W.codeIn K cdg1 "is_between" = true)
    (kg1 : PySem.W.keepIn K (.ref fg1) = true)
    (ag2 : PySem.W.nsIn K mainGlobals "is_name" = some (some (.ref fg2)))
    (lg2 : K.lookup fg2 = some ⟨ocg2, odg2, .func (PySem.W.fnOf "is_name" "is_name" (defArgs s_is_name) (defBody s_is_name) (defScope s_is_name) .none kVg2 dcg2 pmg2 ang2 cdg2 ctg2), slg2⟩)
    (cg2 : PySem.W.codeIn K cdg2 "is_name" = true)
    (kg2 : PySem.W.keepIn K (.ref fg2) = true)
    (ag3 : PySem.W.nsIn K mainGlobals "is_part" = some (some (.ref fg3)))
    (lg3 : K.lookup fg3 = some ⟨ocg3, odg3, .func (PySem.W.fnOf "is_part" "is_part" (defArgs s_is_part) (defBody s_is_part) (defScope s_is_part) .none kVg3 dcg3 pmg3 ang3 cdg3 ctg3), slg3⟩)
    (cg3 : PySem.W.codeIn K cdg3 "is_part" = true)
    (kg3 : PySem.W.keepIn K (.ref fg3) = true)
    (ag4 : PySem.W.nsIn K mainGlobals "is_call" = some (some (.ref fg4)))
    (lg4 : K.lookup fg4 = some ⟨ocg4, odg4, .func (PySem.W.fnOf "is_call" "is_call" (defArgs s_is_call) (defBody s_is_call) (defScope s_is_call) .none kVg4 dcg4 pmg4 ang4 cdg4 ctg4), slg4⟩)
    (cg4 : PySem.W.codeIn K cdg4 "is_call" = true)
    (kg4 : PySem.W.keepIn K (.ref fg4) = true)
    (ag5 : PySem.W.nsIn K mainGlobals "holds_blocks" = some (some (.ref fg5)))
    (lg5 : K.lookup fg5 = some ⟨ocg5, odg5, .func (PySem.W.fnOf "holds_blocks" "holds_blocks" (defArgs s_holds_blocks) (defBody s_holds_blocks) (defScope s_holds_blocks) .none kVg5 dcg5 pmg5 ang5 cdg5 ctg5), slg5⟩)
    (cg5 : PySem.W.codeIn K cdg5 "holds_blocks" = true)
    (kg5 : PySem.W.keepIn K (.ref fg5) = true)
    (ag6 : PySem.W.nsIn K mainGlobals "calls_in_order" = some (some (.ref fg6)))
    (lg6 : K.lookup fg6 = some ⟨ocg6, odg6, .func (PySem.W.fnOf "calls_in_order" "calls_in_order" (defArgs s_calls_in_order) (defBody s_calls_in_order) (defScope s_calls_in_order) .none kVg6 dcg6 pmg6 ang6 cdg6 ctg6), slg6⟩)
    (cg6 : PySem.W.codeIn K cdg6 "calls_in_order" = true)
    (kg6 : PySem.W.keepIn K (.ref fg6) = true)
    (ag7 : PySem.W.nsIn K mainGlobals "block_span" = some (some (.ref fg7)))
    (lg7 : K.lookup fg7 = some ⟨ocg7, odg7, .func (PySem.W.fnOf "block_span" "block_span" (defArgs s_block_span) (defBody s_block_span) (defScope s_block_span) .none kVg7 dcg7 pmg7 ang7 cdg7 ctg7), slg7⟩)
    (cg7 : PySem.W.codeIn K cdg7 "block_span" = true)
    (kg7 : PySem.W.keepIn K (.ref fg7) = true)
    (ag8 : PySem.W.nsIn K mainGlobals "part_span" = some (some (.ref fg8)))
    (lg8 : K.lookup fg8 = some ⟨ocg8, odg8, .func (PySem.W.fnOf "part_span" "part_span" (defArgs s_part_span) (defBody s_part_span) (defScope s_part_span) .none kVg8 dcg8 pmg8 ang8 cdg8 ctg8), slg8⟩)
    (cg8 : PySem.W.codeIn K cdg8 "part_span" = true)
    (kg8 : PySem.W.keepIn K (.ref fg8) = true)
    (ag9 : PySem.W.nsIn K mainGlobals "call_span" = some (some (.ref fg9)))
    (lg9 : K.lookup fg9 = some ⟨ocg9, odg9, .func (PySem.W.fnOf "call_span" "call_span" (defArgs s_call_span) (defBody s_call_span) (defScope s_call_span) .none kVg9 dcg9 pmg9 ang9 cdg9 ctg9), slg9⟩)
    (cg9 : PySem.W.codeIn K cdg9 "call_span" = true)
    (kg9 : PySem.W.keepIn K (.ref fg9) = true)
    (ag10 : PySem.W.nsIn K mainGlobals "accepts" = some (some (.ref fg10)))
    (lg10 : K.lookup fg10 = some ⟨ocg10, odg10, .func (PySem.W.fnOf "accepts" "accepts" (defArgs s_accepts) (defBody s_accepts) (defScope s_accepts) .none kVg10 dcg10 pmg10 ang10 cdg10 ctg10), slg10⟩)
    (cg10 : PySem.W.codeIn K cdg10 "accepts" = true)
    (kg10 : PySem.W.keepIn K (.ref fg10) = true)
    (ag11 : PySem.W.nsIn K mainGlobals "_wrong_field" = some (some (.ref fg11)))
    (lg11 : K.lookup fg11 = some ⟨ocg11, odg11, .func (PySem.W.fnOf "_wrong_field" "_wrong_field" (defArgs s_wrong_field) (defBody s_wrong_field) (defScope s_wrong_field) .none kVg11 dcg11 pmg11 ang11 cdg11 ctg11), slg11⟩)
    (cg11 : PySem.W.codeIn K cdg11 "_wrong_field" = true)
    (kg11 : PySem.W.keepIn K (.ref fg11) = true)
    (ag12 : PySem.W.nsIn K mainGlobals "_are_pauses" = some (some (.ref fg12)))
    (lg12 : K.lookup fg12 = some ⟨ocg12, odg12, .func (PySem.W.fnOf "_are_pauses" "_are_pauses" (defArgs s_are_pauses) (defBody s_are_pauses) (defScope s_are_pauses) .none kVg12 dcg12 pmg12 ang12 cdg12 ctg12), slg12⟩)
    (cg12 : PySem.W.codeIn K cdg12 "_are_pauses" = true)
    (kg12 : PySem.W.keepIn K (.ref fg12) = true)
    (ag13 : PySem.W.nsIn K mainGlobals "_is_ending" = some (some (.ref fg13)))
    (lg13 : K.lookup fg13 = some ⟨ocg13, odg13, .func (PySem.W.fnOf "_is_ending" "_is_ending" (defArgs s_is_ending) (defBody s_is_ending) (defScope s_is_ending) .none kVg13 dcg13 pmg13 ang13 cdg13 ctg13), slg13⟩)
    (cg13 : PySem.W.codeIn K cdg13 "_is_ending" = true)
    (kg13 : PySem.W.keepIn K (.ref fg13) = true)
    (ag14 : PySem.W.nsIn K mainGlobals "_all_pauses" = some (some (.ref fg14)))
    (lg14 : K.lookup fg14 = some ⟨ocg14, odg14, .func (PySem.W.fnOf "_all_pauses" "_all_pauses" (defArgs s_all_pauses) (defBody s_all_pauses) (defScope s_all_pauses) .none kVg14 dcg14 pmg14 ang14 cdg14 ctg14), slg14⟩)
    (cg14 : PySem.W.codeIn K cdg14 "_all_pauses" = true)
    (kg14 : PySem.W.keepIn K (.ref fg14) = true)
    (ag15 : PySem.W.nsIn K mainGlobals "_check_policies" = some (some (.ref fg15)))
    (lg15 : K.lookup fg15 = some ⟨ocg15, odg15, .func (PySem.W.fnOf "_check_policies" "_check_policies" (defArgs s_check_policies) (defBody s_check_policies) (defScope s_check_policies) .none kVg15 dcg15 pmg15 ang15 cdg15 ctg15), slg15⟩)
    (cg15 : PySem.W.codeIn K cdg15 "_check_policies" = true)
    (kg15 : PySem.W.keepIn K (.ref fg15) = true)
    (ag16 : PySem.W.nsIn K mainGlobals "_check_services" = some (some (.ref fg16)))
    (lg16 : K.lookup fg16 = some ⟨ocg16, odg16, .func (PySem.W.fnOf "_check_services" "_check_services" (defArgs s_check_services) (defBody s_check_services) (defScope s_check_services) .none kVg16 dcg16 pmg16 ang16 cdg16 ctg16), slg16⟩)
    (cg16 : PySem.W.codeIn K cdg16 "_check_services" = true)
    (kg16 : PySem.W.keepIn K (.ref fg16) = true)
    (ag17 : PySem.W.nsIn K mainGlobals "_is_service" = some (some (.ref fg17)))
    (lg17 : K.lookup fg17 = some ⟨ocg17, odg17, .func (PySem.W.fnOf "_is_service" "_is_service" (defArgs s_is_service) (defBody s_is_service) (defScope s_is_service) .none kVg17 dcg17 pmg17 ang17 cdg17 ctg17), slg17⟩)
    (cg17 : PySem.W.codeIn K cdg17 "_is_service" = true)
    (kg17 : PySem.W.keepIn K (.ref fg17) = true)
    (ag18 : PySem.W.nsIn K mainGlobals "_check_parts" = some (some (.ref fg18)))
    (lg18 : K.lookup fg18 = some ⟨ocg18, odg18, .func (PySem.W.fnOf "_check_parts" "_check_parts" (defArgs s_check_parts) (defBody s_check_parts) (defScope s_check_parts) .none kVg18 dcg18 pmg18 ang18 cdg18 ctg18), slg18⟩)
    (cg18 : PySem.W.codeIn K cdg18 "_check_parts" = true)
    (kg18 : PySem.W.keepIn K (.ref fg18) = true)
    (ag19 : PySem.W.nsIn K mainGlobals "_check_names" = some (some (.ref fg19)))
    (lg19 : K.lookup fg19 = some ⟨ocg19, odg19, .func (PySem.W.fnOf "_check_names" "_check_names" (defArgs s_check_names) (defBody s_check_names) (defScope s_check_names) .none kVg19 dcg19 pmg19 ang19 cdg19 ctg19), slg19⟩)
    (cg19 : PySem.W.codeIn K cdg19 "_check_names" = true)
    (kg19 : PySem.W.keepIn K (.ref fg19) = true)
    (ag20 : PySem.W.nsIn K mainGlobals "_law_pool" = some (some (.ref fg20)))
    (lg20 : K.lookup fg20 = some ⟨ocg20, odg20, .func (PySem.W.fnOf "_law_pool" "_law_pool" (defArgs s_law_pool) (defBody s_law_pool) (defScope s_law_pool) .none kVg20 dcg20 pmg20 ang20 cdg20 ctg20), slg20⟩)
    (cg20 : PySem.W.codeIn K cdg20 "_law_pool" = true)
    (kg20 : PySem.W.keepIn K (.ref fg20) = true)
    (ag21 : PySem.W.nsIn K mainGlobals "_law_draw" = some (some (.ref fg21)))
    (lg21 : K.lookup fg21 = some ⟨ocg21, odg21, .func (PySem.W.fnOf "_law_draw" "_law_draw" (defArgs s_law_draw) (defBody s_law_draw) (defScope s_law_draw) .none kVg21 dcg21 pmg21 ang21 cdg21 ctg21), slg21⟩)
    (cg21 : PySem.W.codeIn K cdg21 "_law_draw" = true)
    (kg21 : PySem.W.keepIn K (.ref fg21) = true)
    (ag22 : PySem.W.nsIn K mainGlobals "_law_choose" = some (some (.ref fg22)))
    (lg22 : K.lookup fg22 = some ⟨ocg22, odg22, .func (PySem.W.fnOf "_law_choose" "_law_choose" (defArgs s_law_choose) (defBody s_law_choose) (defScope s_law_choose) .none kVg22 dcg22 pmg22 ang22 cdg22 ctg22), slg22⟩)
    (cg22 : PySem.W.codeIn K cdg22 "_law_choose" = true)
    (kg22 : PySem.W.keepIn K (.ref fg22) = true)
    (ag23 : PySem.W.nsIn K mainGlobals "_law_first_bad" = some (some (.ref fg23)))
    (lg23 : K.lookup fg23 = some ⟨ocg23, odg23, .func (PySem.W.fnOf "_law_first_bad" "_law_first_bad" (defArgs s_law_first_bad) (defBody s_law_first_bad) (defScope s_law_first_bad) .none kVg23 dcg23 pmg23 ang23 cdg23 ctg23), slg23⟩)
    (cg23 : PySem.W.codeIn K cdg23 "_law_first_bad" = true)
    (kg23 : PySem.W.keepIn K (.ref fg23) = true)
    (aL : PySem.W.nsIn K mainGlobals "law" = some (some (.ref fL)))
    (lL : K.lookup fL = some ⟨ocL, odL, .func (PySem.W.fnOf "law" "law" (defArgs s_law) (defBody s_law) (defScope s_law) .none kVL dcL pmL anL (.ref qL) ctL), slL⟩)
    (cL : PySem.W.codeIn K (.ref qL) "law" = true)
    (kL : PySem.W.keepIn K (.ref fL) = true)
    (tbL : K.lookup qL = some ⟨qcL, qdL, .fields qvL, qsL⟩)
    (t1L : qvL[11]? = some (.ref PL))
    (chL : PySem.W.codeHdIn K qL PL = true)
    (nlL : K.lookup PL = none)
    (mmL : PL ∈ ts)
    (aR : PySem.W.nsIn K mainGlobals "_law_doors_right" = some (some (.ref fR)))
    (lR : K.lookup fR = some ⟨ocR, odR, .func (PySem.W.fnOf "_law_doors_right" "_law_doors_right" (defArgs s_law_doors_right) (defBody s_law_doors_right) (defScope s_law_doors_right) .none kVR dcR pmR anR (.ref qR) ctR), slR⟩)
    (cR : PySem.W.codeIn K (.ref qR) "_law_doors_right" = true)
    (kR : PySem.W.keepIn K (.ref fR) = true)
    (tbR : K.lookup qR = some ⟨qcR, qdR, .fields qvR, qsR⟩)
    (t1R : qvR[11]? = some (.ref PR))
    (chR : PySem.W.codeHdIn K qR PR = true)
    (nlR : K.lookup PR = none)
    (mmR : PR ∈ ts)
    (aJ : PySem.W.nsIn K mainGlobals "_law_lists_right" = some (some (.ref fJ)))
    (lJ : K.lookup fJ = some ⟨ocJ, odJ, .func (PySem.W.fnOf "_law_lists_right" "_law_lists_right" (defArgs s_law_lists_right) (defBody s_law_lists_right) (defScope s_law_lists_right) .none kVJ dcJ pmJ anJ (.ref qJ) ctJ), slJ⟩)
    (cJ : PySem.W.codeIn K (.ref qJ) "_law_lists_right" = true)
    (kJ : PySem.W.keepIn K (.ref fJ) = true)
    (tbJ : K.lookup qJ = some ⟨qcJ, qdJ, .fields qvJ, qsJ⟩)
    (t1J : qvJ[11]? = some (.ref PJ))
    (chJ : PySem.W.codeHdIn K qJ PJ = true)
    (nlJ : K.lookup PJ = none)
    (mmJ : PJ ∈ ts)
    (nLR : (PL == PR) = false)
    (nLJ : (PL == PJ) = false)
    (nRJ : (PR == PJ) = false)
    (aQ : PySem.W.nsIn K mainGlobals "_law_told" = some (some (.ref fQ)))
    (lQ : K.lookup fQ = some ⟨ocQ, odQ, .func (PySem.W.fnOf "_law_told" "_law_told" (defArgs s_law_told) (defBody s_law_told) (defScope s_law_told) .none kVQ dcQ pmQ anQ cdQ ctQ), slQ⟩)
    (cQ : PySem.W.codeIn K cdQ "_law_told" = true)
    (kQ : PySem.W.keepIn K (.ref fQ) = true)
    (aO : PySem.W.nsIn K mainGlobals "parts_in_order" = some (some (.ref fO)))
    (lO : K.lookup fO = some ⟨ocO, odO, .func (PySem.W.fnOf "parts_in_order" "parts_in_order" (defArgs s_parts_in_order) (defBody s_parts_in_order) (defScope s_parts_in_order) (.ref tpio) kVO dcO pmO anO cdO ctO), slO⟩)
    (cO : PySem.W.codeIn K cdO "parts_in_order" = true)
    (kO : PySem.W.keepIn K (.ref fO) = true)
    (dpio : K.lookup tpio = some ⟨.type "tuple", tpd, .seq #[.int 0 tkpio] tpn, tps⟩)
    (z_isinstance : PySem.W.nsIn K mainGlobals "isinstance" = some none)
    (z_int : PySem.W.nsIn K mainGlobals "int" = some none)
    (z_bool : PySem.W.nsIn K mainGlobals "bool" = some none)
    (z_str : PySem.W.nsIn K mainGlobals "str" = some none)
    (z_tuple : PySem.W.nsIn K mainGlobals "tuple" = some none)
    (z_len : PySem.W.nsIn K mainGlobals "len" = some none)
    (z_all : PySem.W.nsIn K mainGlobals "all" = some none)
    (z_range : PySem.W.nsIn K mainGlobals "range" = some none)
    (z_repr : PySem.W.nsIn K mainGlobals "repr" = some none)
    (z_max : PySem.W.nsIn K mainGlobals "max" = some none)
    (z_min : PySem.W.nsIn K mainGlobals "min" = some none)
    (z_list : PySem.W.nsIn K mainGlobals "list" = some none)
    (z_enumerate : PySem.W.nsIn K mainGlobals "enumerate" = some none)
    (z_sum : PySem.W.nsIn K mainGlobals "sum" = some none)
    (z_sorted : PySem.W.nsIn K mainGlobals "sorted" = some none)
    (z_super : PySem.W.nsIn K mainGlobals "super" = some none)
    (gLET : PySem.W.nsIn K mainGlobals "LETTERS" = some (some (.str letters tL)))
    (gc0 : PySem.W.nsIn K mainGlobals "MOST_LIMIT" = some (some (.int 20 tc0)))
    (gc1 : PySem.W.nsIn K mainGlobals "MOST_TRIES" = some (some (.int 3 tc1)))
    (gc2 : PySem.W.nsIn K mainGlobals "MOST_TICKS" = some (some (.int 20 tc2)))
    (gc3 : PySem.W.nsIn K mainGlobals "MOST_AROUND" = some (some (.int 1 tc3)))
    (gc4 : PySem.W.nsIn K mainGlobals "MOST_POLICIES" = some (some (.int 8 tc4)))
    (gc5 : PySem.W.nsIn K mainGlobals "MOST_SERVICES" = some (some (.int 6 tc5)))
    (gc6 : PySem.W.nsIn K mainGlobals "MOST_PARTS" = some (some (.int 12 tc6)))
    (gc7 : PySem.W.nsIn K mainGlobals "MOST_SPAN" = some (some (.int 400 tc7)))
    (aC : PySem.W.nsIn K mainGlobals "Policy" = some (some (.ref C)))
    (aI : PySem.W.findIn K (.ref C) "__init__" = some (some (.ref fI)))
    (lI : K.lookup fI = some ⟨ocI, odI, .func (PySem.W.fnOf "__init__" "Policy.__init__" (defArgs s_Policyinit) (defBody s_Policyinit) (defScope s_Policyinit) .none (.ref Dk) dcI pmI anI cdI ctI), slI⟩)
    (cI : PySem.W.codeIn K cdI "Policy.__init__" = true)
    (kI : PySem.W.keepIn K (.ref fI) = true)
    (iI : PySem.W.isFn K (.ref fI) = true)
    (d1 : PySem.W.nsIn K Dk "tries" = some (some (.int 1 tk1)))
    (d2 : PySem.W.nsIn K Dk "pauses" = some (some .none))
    (d3 : PySem.W.nsIn K Dk "early" = some (some .none))
    (d4 : PySem.W.nsIn K Dk "lossy" = some (some (.bool false)))
    (d5 : PySem.W.nsIn K Dk "ending" = some (some (.ref go)))
    (d6 : K.lookup go = some ⟨.type "tuple", gd, .seq #[.str "go" tk2] gn, gs⟩)
    (pg : PySem.W.plainGet K C Str.empty = true)
    (hd : PySem.W.hasDictIn K C = true)
    (po : PySem.W.plainOver K C = true)
    (sa : PySem.W.findIn K (.ref C) "__setattr__" = some (some (.builtin "object.__setattr__")))
    (mk : PySem.W.makesIn K C = true)
    (kc : PySem.W.keepIn K (.ref C) = true)
    (tyC : PySem.W.typeIn K (.ref C) = some (.type "type"))
    (n1 : PySem.W.findIn K (.ref C) "_name" = some none)
    (n2 : PySem.W.findIn K (.ref C) "_limit" = some none)
    (n3 : PySem.W.findIn K (.ref C) "_tries" = some none)
    (n4 : PySem.W.findIn K (.ref C) "_pauses" = some none)
    (n5 : PySem.W.findIn K (.ref C) "_early" = some none)
    (n6 : PySem.W.findIn K (.ref C) "_lossy" = some none)
    (n7 : PySem.W.findIn K (.ref C) "_ending" = some none)
    (ob : PySem.W.mroIn K C (.type "object") = some true)
    (ha : PySem.W.findIn K (.ref C) "__class__" = some (some (.builtin "object.__class__")))
    (hn : PySem.W.specialIn K (.builtin "object.__class__") "__get__" = some (some (.builtin "getset_descriptor.__get__")))
    (htk : PySem.W.takesIn K (.builtin "object.__class__") = some true)
    (p1_name : PySem.W.findIn K (.ref C) "name" = some (some (.ref p_name)))
    (p2_name : PySem.W.specialIn K (.ref p_name) "__get__" = some (some (.builtin "property.__get__")))
    (p3_name : PySem.W.takesIn K (.ref p_name) = some true)
    (apname : PySem.W.recIn K p_name "property" = some ((.ref fpname) :: r_name))
    (lpname : K.lookup fpname = some ⟨ocpname, odpname, .func (PySem.W.fnOf "name" "Policy.name" (defArgs s_Policy_name) (defBody s_Policy_name) (defScope s_Policy_name) .none kVpname dcpname pmpname anpname cdpname ctpname), slpname⟩)
    (cpname : PySem.W.codeIn K cdpname "Policy.name" = true)
    (kpname : PySem.W.keepIn K (.ref fpname) = true)
    (p1_limit : PySem.W.findIn K (.ref C) "limit" = some (some (.ref p_limit)))
    (p2_limit : PySem.W.specialIn K (.ref p_limit) "__get__" = some (some (.builtin "property.__get__")))
    (p3_limit : PySem.W.takesIn K (.ref p_limit) = some true)
    (aplimit : PySem.W.recIn K p_limit "property" = some ((.ref fplimit) :: r_limit))
    (lplimit : K.lookup fplimit = some ⟨ocplimit, odplimit, .func (PySem.W.fnOf "limit" "Policy.limit" (defArgs s_Policy_limit) (defBody s_Policy_limit) (defScope s_Policy_limit) .none kVplimit dcplimit pmplimit anplimit cdplimit ctplimit), slplimit⟩)
    (cplimit : PySem.W.codeIn K cdplimit "Policy.limit" = true)
    (kplimit : PySem.W.keepIn K (.ref fplimit) = true)
    (p1_tries : PySem.W.findIn K (.ref C) "tries" = some (some (.ref p_tries)))
    (p2_tries : PySem.W.specialIn K (.ref p_tries) "__get__" = some (some (.builtin "property.__get__")))
    (p3_tries : PySem.W.takesIn K (.ref p_tries) = some true)
    (aptries : PySem.W.recIn K p_tries "property" = some ((.ref fptries) :: r_tries))
    (lptries : K.lookup fptries = some ⟨ocptries, odptries, .func (PySem.W.fnOf "tries" "Policy.tries" (defArgs s_Policy_tries) (defBody s_Policy_tries) (defScope s_Policy_tries) .none kVptries dcptries pmptries anptries cdptries ctptries), slptries⟩)
    (cptries : PySem.W.codeIn K cdptries "Policy.tries" = true)
    (kptries : PySem.W.keepIn K (.ref fptries) = true)
    (p1_pauses : PySem.W.findIn K (.ref C) "pauses" = some (some (.ref p_pauses)))
    (p2_pauses : PySem.W.specialIn K (.ref p_pauses) "__get__" = some (some (.builtin "property.__get__")))
    (p3_pauses : PySem.W.takesIn K (.ref p_pauses) = some true)
    (appauses : PySem.W.recIn K p_pauses "property" = some ((.ref fppauses) :: r_pauses))
    (lppauses : K.lookup fppauses = some ⟨ocppauses, odppauses, .func (PySem.W.fnOf "pauses" "Policy.pauses" (defArgs s_Policy_pauses) (defBody s_Policy_pauses) (defScope s_Policy_pauses) .none kVppauses dcppauses pmppauses anppauses cdppauses ctppauses), slppauses⟩)
    (cppauses : PySem.W.codeIn K cdppauses "Policy.pauses" = true)
    (kppauses : PySem.W.keepIn K (.ref fppauses) = true)
    (p1_early : PySem.W.findIn K (.ref C) "early" = some (some (.ref p_early)))
    (p2_early : PySem.W.specialIn K (.ref p_early) "__get__" = some (some (.builtin "property.__get__")))
    (p3_early : PySem.W.takesIn K (.ref p_early) = some true)
    (apearly : PySem.W.recIn K p_early "property" = some ((.ref fpearly) :: r_early))
    (lpearly : K.lookup fpearly = some ⟨ocpearly, odpearly, .func (PySem.W.fnOf "early" "Policy.early" (defArgs s_Policy_early) (defBody s_Policy_early) (defScope s_Policy_early) .none kVpearly dcpearly pmpearly anpearly cdpearly ctpearly), slpearly⟩)
    (cpearly : PySem.W.codeIn K cdpearly "Policy.early" = true)
    (kpearly : PySem.W.keepIn K (.ref fpearly) = true)
    (aS : PySem.W.nsIn K mainGlobals "System" = some (some (.ref CS)))
    (aY : PySem.W.findIn K (.ref CS) "__init__" = some (some (.ref fY)))
    (lY : K.lookup fY = some ⟨ocY, odY, .func (PySem.W.fnOf "__init__" "System.__init__" (defArgs s_Systeminit) (defBody s_Systeminit) (defScope s_Systeminit) .none kVY dcY pmY anY cdY ctY), slY⟩)
    (cY : PySem.W.codeIn K cdY "System.__init__" = true)
    (kY : PySem.W.keepIn K (.ref fY) = true)
    (iY : PySem.W.isFn K (.ref fY) = true)
    (pgS : PySem.W.plainGet K CS Str.empty = true)
    (hdS : PySem.W.hasDictIn K CS = true)
    (poS : PySem.W.plainOver K CS = true)
    (saS : PySem.W.findIn K (.ref CS) "__setattr__" = some (some (.builtin "object.__setattr__")))
    (mkS : PySem.W.makesIn K CS = true)
    (kcS : PySem.W.keepIn K (.ref CS) = true)
    (nS1 : PySem.W.findIn K (.ref CS) "_policies" = some none)
    (nS2 : PySem.W.findIn K (.ref CS) "_blocks" = some none)
    (nS3 : PySem.W.findIn K (.ref CS) "_spans" = some none)
    (aw1 : PySem.W.findIn K (.ref CS) "policies" = some (some (.ref fw1)))
    (lw1 : K.lookup fw1 = some ⟨ocw1, odw1, .func (PySem.W.fnOf "policies" "System.policies" (defArgs s_System_policies) (defBody s_System_policies) (defScope s_System_policies) .none kVw1 dcw1 pmw1 anw1 cdw1 ctw1), slw1⟩)
    (cw1 : PySem.W.codeIn K cdw1 "System.policies" = true)
    (kw1 : PySem.W.keepIn K (.ref fw1) = true)
    (iw1 : PySem.W.isFn K (.ref fw1) = true)
    (aw3 : PySem.W.findIn K (.ref CS) "policy" = some (some (.ref fw3)))
    (lw3 : K.lookup fw3 = some ⟨ocw3, odw3, .func (PySem.W.fnOf "policy" "System.policy" (defArgs s_System_policy) (defBody s_System_policy) (defScope s_System_policy) .none kVw3 dcw3 pmw3 anw3 cdw3 ctw3), slw3⟩)
    (cw3 : PySem.W.codeIn K cdw3 "System.policy" = true)
    (kw3 : PySem.W.keepIn K (.ref fw3) = true)
    (iw3 : PySem.W.isFn K (.ref fw3) = true)
    (aw4 : PySem.W.findIn K (.ref CS) "span" = some (some (.ref fw4)))
    (lw4 : K.lookup fw4 = some ⟨ocw4, odw4, .func (PySem.W.fnOf "span" "System.span" (defArgs s_System_span) (defBody s_System_span) (defScope s_System_span) .none kVw4 dcw4 pmw4 anw4 cdw4 ctw4), slw4⟩)
    (cw4 : PySem.W.codeIn K cdw4 "System.span" = true)
    (kw4 : PySem.W.keepIn K (.ref fw4) = true)
    (iw4 : PySem.W.isFn K (.ref fw4) = true)
    (aw5 : PySem.W.findIn K (.ref CS) "callees" = some (some (.ref fw5)))
    (lw5 : K.lookup fw5 = some ⟨ocw5, odw5, .func (PySem.W.fnOf "callees" "System.callees" (defArgs s_System_callees) (defBody s_System_callees) (defScope s_System_callees) .none kVw5 dcw5 pmw5 anw5 cdw5 ctw5), slw5⟩)
    (cw5 : PySem.W.codeIn K cdw5 "System.callees" = true)
    (kw5 : PySem.W.keepIn K (.ref fw5) = true)
    (iw5 : PySem.W.isFn K (.ref fw5) = true)
    (aw6 : PySem.W.findIn K (.ref CS) "with_policy" = some (some (.ref fw6)))
    (lw6 : K.lookup fw6 = some ⟨ocw6, odw6, .func (PySem.W.fnOf "with_policy" "System.with_policy" (defArgs s_System_with_policy) (defBody s_System_with_policy) (defScope s_System_with_policy) .none kVw6 dcw6 pmw6 anw6 cdw6 ctw6), slw6⟩)
    (cw6 : PySem.W.codeIn K cdw6 "System.with_policy" = true)
    (kw6 : PySem.W.keepIn K (.ref fw6) = true)
    (iw6 : PySem.W.isFn K (.ref fw6) = true)
    (aw7 : PySem.W.findIn K (.ref CS) "with_block" = some (some (.ref fw7)))
    (lw7 : K.lookup fw7 = some ⟨ocw7, odw7, .func (PySem.W.fnOf "with_block" "System.with_block" (defArgs s_System_with_block) (defBody s_System_with_block) (defScope s_System_with_block) .none kVw7 dcw7 pmw7 anw7 cdw7 ctw7), slw7⟩)
    (cw7 : PySem.W.codeIn K cdw7 "System.with_block" = true)
    (kw7 : PySem.W.keepIn K (.ref fw7) = true)
    (iw7 : PySem.W.isFn K (.ref fw7) = true)
    (aw8 : PySem.W.findIn K (.ref CS) "with_service" = some (some (.ref fw8)))
    (lw8 : K.lookup fw8 = some ⟨ocw8, odw8, .func (PySem.W.fnOf "with_service" "System.with_service" (defArgs s_System_with_service) (defBody s_System_with_service) (defScope s_System_with_service) .none kVw8 dcw8 pmw8 anw8 cdw8 ctw8), slw8⟩)
    (cw8 : PySem.W.codeIn K cdw8 "System.with_service" = true)
    (kw8 : PySem.W.keepIn K (.ref fw8) = true)
    (iw8 : PySem.W.isFn K (.ref fw8) = true)
    (aw9 : PySem.W.findIn K (.ref CS) "_rows" = some (some (.ref fw9)))
    (lw9 : K.lookup fw9 = some ⟨ocw9, odw9, .func (PySem.W.fnOf "_rows" "System._rows" (defArgs s_System_rows) (defBody s_System_rows) (defScope s_System_rows) .none kVw9 dcw9 pmw9 anw9 cdw9 ctw9), slw9⟩)
    (cw9 : PySem.W.codeIn K cdw9 "System._rows" = true)
    (kw9 : PySem.W.keepIn K (.ref fw9) = true)
    (iw9 : PySem.W.isFn K (.ref fw9) = true)
    (aw11 : PySem.W.findIn K (.ref CS) "__getitem__" = some (some (.ref fw11)))
    (lw11 : K.lookup fw11 = some ⟨ocw11, odw11, .func (PySem.W.fnOf "__getitem__" "System.__getitem__" (defArgs s_Systemgetitem) (defBody s_Systemgetitem) (defScope s_Systemgetitem) .none kVw11 dcw11 pmw11 anw11 cdw11 ctw11), slw11⟩)
    (cw11 : PySem.W.codeIn K cdw11 "System.__getitem__" = true)
    (kw11 : PySem.W.keepIn K (.ref fw11) = true)
    (iw11 : PySem.W.isFn K (.ref fw11) = true)
    (aw12 : PySem.W.findIn K (.ref CS) "__contains__" = some (some (.ref fw12)))
    (lw12 : K.lookup fw12 = some ⟨ocw12, odw12, .func (PySem.W.fnOf "__contains__" "System.__contains__" (defArgs s_Systemcontains) (defBody s_Systemcontains) (defScope s_Systemcontains) .none kVw12 dcw12 pmw12 anw12 cdw12 ctw12), slw12⟩)
    (cw12 : PySem.W.codeIn K cdw12 "System.__contains__" = true)
    (kw12 : PySem.W.keepIn K (.ref fw12) = true)
    (iw12 : PySem.W.isFn K (.ref fw12) = true)
    (tp : PySem.W.nsIn K cStatics "thirdparty.any" = some none)
    (top : (l.prog.main.scope.names.lookup ("super" : Str)).isSome = false)
    (gPo : PySem.W.nsIn K mainGlobals "InvalidPolicies" = some (some (.ref CPo)))
    (xPo : K.lookup CPo = some (excClassObj nmPo qnPo CPo NPo bsPo bmPo true snPo subPo abPo colPo ddPo k0Po k1Po k2Po k3Po k5Po "ValueError.__new__"))
    (rvPo : PySem.HandSPX.refsVE bmPo = true)
    (saPo : PySem.W.findIn K (.ref CPo) "__setattr__" = some (some (.builtin "object.__setattr__")))
    (bePo : PySem.W.subIn K (.ref CPo) (.type "BaseException") = some true)
    (tyPo : PySem.W.typeIn K (.ref CPo) = some (.type "type"))
    (kpPo : PySem.W.keepIn K (.ref CPo) = true)
    (suPo : PySem.W.ks_superIn K CPo CPo "__init__" = some (some (.builtin "ValueError.__init__")))
    (vePo : PySem.W.subIn K (.ref CPo) (.type "ValueError") = some true)
    (gaPo : PySem.W.findIn K (.ref CPo) "__getattribute__" = some (some (.builtin "BaseException.__getattribute__")))
    (ggPo : PySem.W.findIn K (.ref CPo) "__getattr__" = some none)
    (hdPo : PySem.W.hasDictIn K CPo = true)
    (nfPo : PySem.W.findIn K (.ref CPo) "number" = some none)
    (iPo : PySem.W.findIn K (.ref CPo) "__init__" = some (some (.ref fPo)))
    (lPo : K.lookup fPo = some ⟨ocPo, odPo, .func (PySem.W.ksFn "__init__" "InvalidPolicies.__init__" (defArgs s_InvalidPoliciesinit) (defBody s_InvalidPoliciesinit) (defScope s_InvalidPoliciesinit) .none kVPo dcPo pmPo anPo (.ref cPo) ctPo ccPo), oslPo⟩)
    (tPo : PySem.W.typeIn K (.ref fPo) = some (.type "function"))
    (cdPo : PySem.W.codeIn K (.ref cPo) "InvalidPolicies.__init__" = true)
    (lcPo : K.lookup cPo = some ⟨cclPo, cddPo, .fields vsPo, ccsPo⟩)
    (v2Po : vsPo[2]? = some (.str flPo tfPo))
    (fiPo : ((l.prog.main.file : Str) == flPo) = true)
    (llPo : K.lookup ccPo = some ⟨clPo, cldPo, .cell (some (.ref CPo)), cslPo⟩)
    (gSv : PySem.W.nsIn K mainGlobals "InvalidServices" = some (some (.ref CSv)))
    (xSv : K.lookup CSv = some (excClassObj nmSv qnSv CSv NSv bsSv bmSv true snSv subSv abSv colSv ddSv k0Sv k1Sv k2Sv k3Sv k5Sv "ValueError.__new__"))
    (rvSv : PySem.HandSPX.refsVE bmSv = true)
    (saSv : PySem.W.findIn K (.ref CSv) "__setattr__" = some (some (.builtin "object.__setattr__")))
    (beSv : PySem.W.subIn K (.ref CSv) (.type "BaseException") = some true)
    (tySv : PySem.W.typeIn K (.ref CSv) = some (.type "type"))
    (kpSv : PySem.W.keepIn K (.ref CSv) = true)
    (suSv : PySem.W.ks_superIn K CSv CSv "__init__" = some (some (.builtin "ValueError.__init__")))
    (veSv : PySem.W.subIn K (.ref CSv) (.type "ValueError") = some true)
    (gaSv : PySem.W.findIn K (.ref CSv) "__getattribute__" = some (some (.builtin "BaseException.__getattribute__")))
    (ggSv : PySem.W.findIn K (.ref CSv) "__getattr__" = some none)
    (hdSv : PySem.W.hasDictIn K CSv = true)
    (nfSv : PySem.W.findIn K (.ref CSv) "number" = some none)
    (iSv : PySem.W.findIn K (.ref CSv) "__init__" = some (some (.ref fSv)))
    (lSv : K.lookup fSv = some ⟨ocSv, odSv, .func (PySem.W.ksFn "__init__" "InvalidServices.__init__" (defArgs s_InvalidServicesinit) (defBody s_InvalidServicesinit) (defScope s_InvalidServicesinit) .none kVSv dcSv pmSv anSv (.ref cSv) ctSv ccSv), oslSv⟩)
    (tSv : PySem.W.typeIn K (.ref fSv) = some (.type "function"))
    (cdSv : PySem.W.codeIn K (.ref cSv) "InvalidServices.__init__" = true)
    (lcSv : K.lookup cSv = some ⟨cclSv, cddSv, .fields vsSv, ccsSv⟩)
    (v2Sv : vsSv[2]? = some (.str flSv tfSv))
    (fiSv : ((l.prog.main.file : Str) == flSv) = true)
    (llSv : K.lookup ccSv = some ⟨clSv, cldSv, .cell (some (.ref CSv)), cslSv⟩)
    (gP : PySem.W.nsIn K mainGlobals "InvalidPart" = some (some (.ref CP)))
    (xP : K.lookup CP = some (excClassObj nmP qnP CP NP bsP bmP true snP subP abP colP ddP k0P k1P k2P k3P k5P "ValueError.__new__"))
    (rvP : PySem.HandSPX.refsVE bmP = true)
    (saP : PySem.W.findIn K (.ref CP) "__setattr__" = some (some (.builtin "object.__setattr__")))
    (beP : PySem.W.subIn K (.ref CP) (.type "BaseException") = some true)
    (tyP : PySem.W.typeIn K (.ref CP) = some (.type "type"))
    (kpP : PySem.W.keepIn K (.ref CP) = true)
    (suP : PySem.W.ks_superIn K CP CP "__init__" = some (some (.builtin "ValueError.__init__")))
    (veP : PySem.W.subIn K (.ref CP) (.type "ValueError") = some true)
    (gaP : PySem.W.findIn K (.ref CP) "__getattribute__" = some (some (.builtin "BaseException.__getattribute__")))
    (ggP : PySem.W.findIn K (.ref CP) "__getattr__" = some none)
    (hdP : PySem.W.hasDictIn K CP = true)
    (nfP : PySem.W.findIn K (.ref CP) "service" = some none)
    (iP : PySem.W.findIn K (.ref CP) "__init__" = some (some (.ref fP)))
    (lP : K.lookup fP = some ⟨ocP, odP, .func (PySem.W.ksFn "__init__" "InvalidPart.__init__" (defArgs s_InvalidPartinit) (defBody s_InvalidPartinit) (defScope s_InvalidPartinit) .none kVP dcP pmP anP (.ref cP) ctP ccP), oslP⟩)
    (tP : PySem.W.typeIn K (.ref fP) = some (.type "function"))
    (cdP : PySem.W.codeIn K (.ref cP) "InvalidPart.__init__" = true)
    (lcP : K.lookup cP = some ⟨cclP, cddP, .fields vsP, ccsP⟩)
    (v2P : vsP[2]? = some (.str flP tfP))
    (fiP : ((l.prog.main.file : Str) == flP) = true)
    (llP : K.lookup ccP = some ⟨clP, cldP, .cell (some (.ref CP)), cslP⟩)
    (nfP2 : PySem.W.findIn K (.ref CP) "place" = some none)
    (gU : PySem.W.nsIn K mainGlobals "UnknownName" = some (some (.ref CU)))
    (xU : K.lookup CU = some (excClassObj nmU qnU CU NU bsU tlLE true snU subU abU colU ddU k0U k1U k2U k3U k5U "LookupError.__new__"))
    (saU : PySem.W.findIn K (.ref CU) "__setattr__" = some (some (.builtin "object.__setattr__")))
    (beU : PySem.W.subIn K (.ref CU) (.type "BaseException") = some true)
    (tyU : PySem.W.typeIn K (.ref CU) = some (.type "type"))
    (kpU : PySem.W.keepIn K (.ref CU) = true)
    (suU : PySem.W.ks_superIn K CU CU "__init__" = some (some (.builtin "LookupError.__init__")))
    (veU : PySem.W.subIn K (.ref CU) (.type "LookupError") = some true)
    (gaU : PySem.W.findIn K (.ref CU) "__getattribute__" = some (some (.builtin "BaseException.__getattribute__")))
    (ggU : PySem.W.findIn K (.ref CU) "__getattr__" = some none)
    (hdU : PySem.W.hasDictIn K CU = true)
    (nfU : PySem.W.findIn K (.ref CU) "value" = some none)
    (iU : PySem.W.findIn K (.ref CU) "__init__" = some (some (.ref fU)))
    (lU : K.lookup fU = some ⟨ocU, odU, .func (PySem.W.ksFn "__init__" "UnknownName.__init__" (defArgs s_UnknownNameinit) (defBody s_UnknownNameinit) (defScope s_UnknownNameinit) .none kVU dcU pmU anU (.ref cU) ctU ccU), oslU⟩)
    (tU : PySem.W.typeIn K (.ref fU) = some (.type "function"))
    (cdU : PySem.W.codeIn K (.ref cU) "UnknownName.__init__" = true)
    (lcU : K.lookup cU = some ⟨cclU, cddU, .fields vsU, ccsU⟩)
    (v2U : vsU[2]? = some (.str flU tfU))
    (fiU : ((l.prog.main.file : Str) == flU) = true)
    (llU : K.lookup ccU = some ⟨clU, cldU, .cell (some (.ref CU)), cslU⟩)
    (gT : PySem.W.nsIn K mainGlobals "TooLong" = some (some (.ref CT)))
    (xT : K.lookup CT = some (excClassObj nmT qnT CT NT bsT tlOE true snT subT abT colT ddT k0T k1T k2T k3T k5T "OverflowError.__new__"))
    (saT : PySem.W.findIn K (.ref CT) "__setattr__" = some (some (.builtin "object.__setattr__")))
    (beT : PySem.W.subIn K (.ref CT) (.type "BaseException") = some true)
    (tyT : PySem.W.typeIn K (.ref CT) = some (.type "type"))
    (kpT : PySem.W.keepIn K (.ref CT) = true)
    (suT : PySem.W.ks_superIn K CT CT "__init__" = some (some (.builtin "OverflowError.__init__")))
    (veT : PySem.W.subIn K (.ref CT) (.type "OverflowError") = some true)
    (gaT : PySem.W.findIn K (.ref CT) "__getattribute__" = some (some (.builtin "BaseException.__getattribute__")))
    (ggT : PySem.W.findIn K (.ref CT) "__getattr__" = some none)
    (hdT : PySem.W.hasDictIn K CT = true)
    (nfT : PySem.W.findIn K (.ref CT) "service" = some none)
    (iT : PySem.W.findIn K (.ref CT) "__init__" = some (some (.ref fT)))
    (lT : K.lookup fT = some ⟨ocT, odT, .func (PySem.W.ksFn "__init__" "TooLong.__init__" (defArgs s_TooLonginit) (defBody s_TooLonginit) (defScope s_TooLonginit) .none kVT dcT pmT anT (.ref cT) ctT ccT), oslT⟩)
    (tT : PySem.W.typeIn K (.ref fT) = some (.type "function"))
    (cdT : PySem.W.codeIn K (.ref cT) "TooLong.__init__" = true)
    (lcT : K.lookup cT = some ⟨cclT, cddT, .fields vsT, ccsT⟩)
    (v2T : vsT[2]? = some (.str flT tfT))
    (fiT : ((l.prog.main.file : Str) == flT) = true)
    (llT : K.lookup ccT = some ⟨clT, cldT, .cell (some (.ref CT)), cslT⟩)
    (s11 : PySem.W.subIn K (.ref CPo) (.ref CPo) = some true)
    (s21 : PySem.W.subIn K (.ref CSv) (.ref CPo) = some false)
    (s22 : PySem.W.subIn K (.ref CSv) (.ref CSv) = some true)
    (s31 : PySem.W.subIn K (.ref CP) (.ref CPo) = some false)
    (s32 : PySem.W.subIn K (.ref CP) (.ref CSv) = some false)
    (s33 : PySem.W.subIn K (.ref CP) (.ref CP) = some true)
    (s41 : PySem.W.subIn K (.ref CU) (.ref CPo) = some false)
    (s42 : PySem.W.subIn K (.ref CU) (.ref CSv) = some false)
    (s43 : PySem.W.subIn K (.ref CU) (.ref CP) = some false)
    (s44 : PySem.W.subIn K (.ref CU) (.ref CU) = some true)
    : Mc.LawT l w K 19 63 "_law_script" mg fa h := by
  have Dg0 : Mc.Def K mg "is_integer" s_is_integer ["value"] := ⟨fg0, _, fun_mk (st := s_is_integer) lg0 cg0 kg0, PySem.W.mg_of X G ag0, (fun_mk (st := s_is_integer) lg0 cg0 kg0).binds (ps := ["value"]) fun _ _ _ _ _ _ us hl => match us, hl with | [_], _ => rfl⟩
  have Dg1 : Mc.Def K mg "is_between" s_is_between ["value", "least", "most"] := ⟨fg1, _, fun_mk (st := s_is_between) lg1 cg1 kg1, PySem.W.mg_of X G ag1, (fun_mk (st := s_is_between) lg1 cg1 kg1).binds (ps := ["value", "least", "most"]) fun _ _ _ _ _ _ us hl => match us, hl with | [_, _, _], _ => rfl⟩
  have Dg2 : Mc.Def K mg "is_name" s_is_name ["value"] := ⟨fg2, _, fun_mk (st := s_is_name) lg2 cg2 kg2, PySem.W.mg_of X G ag2, (fun_mk (st := s_is_name) lg2 cg2 kg2).binds (ps := ["value"]) fun _ _ _ _ _ _ us hl => match us, hl with | [_], _ => rfl⟩
  have Dg3 : Mc.Def K mg "is_part" s_is_part ["value"] := ⟨fg3, _, fun_mk (st := s_is_part) lg3 cg3 kg3, PySem.W.mg_of X G ag3, (fun_mk (st := s_is_part) lg3 cg3 kg3).binds (ps := ["value"]) fun _ _ _ _ _ _ us hl => match us, hl with | [_], _ => rfl⟩
  have Dg4 : Mc.Def K mg "is_call" s_is_call ["part"] := ⟨fg4, _, fun_mk (st := s_is_call) lg4 cg4 kg4, PySem.W.mg_of X G ag4, (fun_mk (st := s_is_call) lg4 cg4 kg4).binds (ps := ["part"]) fun _ _ _ _ _ _ us hl => match us, hl with | [_], _ => rfl⟩
  have Dg5 : Mc.Def K mg "holds_blocks" s_holds_blocks ["value"] := ⟨fg5, _, fun_mk (st := s_holds_blocks) lg5 cg5 kg5, PySem.W.mg_of X G ag5, (fun_mk (st := s_holds_blocks) lg5 cg5 kg5).binds (ps := ["value"]) fun _ _ _ _ _ _ us hl => match us, hl with | [_], _ => rfl⟩
  have Dg6 : Mc.Def K mg "calls_in_order" s_calls_in_order ["block"] := ⟨fg6, _, fun_mk (st := s_calls_in_order) lg6 cg6 kg6, PySem.W.mg_of X G ag6, (fun_mk (st := s_calls_in_order) lg6 cg6 kg6).binds (ps := ["block"]) fun _ _ _ _ _ _ us hl => match us, hl with | [_], _ => rfl⟩
  have Dg7 : Mc.Def K mg "block_span" s_block_span ["block", "policies"] := ⟨fg7, _, fun_mk (st := s_block_span) lg7 cg7 kg7, PySem.W.mg_of X G ag7, (fun_mk (st := s_block_span) lg7 cg7 kg7).binds (ps := ["block", "policies"]) fun _ _ _ _ _ _ us hl => match us, hl with | [_, _], _ => rfl⟩
  have Dg8 : Mc.Def K mg "part_span" s_part_span ["part", "policies"] := ⟨fg8, _, fun_mk (st := s_part_span) lg8 cg8 kg8, PySem.W.mg_of X G ag8, (fun_mk (st := s_part_span) lg8 cg8 kg8).binds (ps := ["part", "policies"]) fun _ _ _ _ _ _ us hl => match us, hl with | [_, _], _ => rfl⟩
  have Dg9 : Mc.Def K mg "call_span" s_call_span ["policy"] := ⟨fg9, _, fun_mk (st := s_call_span) lg9 cg9 kg9, PySem.W.mg_of X G ag9, (fun_mk (st := s_call_span) lg9 cg9 kg9).binds (ps := ["policy"]) fun _ _ _ _ _ _ us hl => match us, hl with | [_], _ => rfl⟩
  have Dg10 : Mc.Def K mg "accepts" s_accepts ["field", "value"] := ⟨fg10, _, fun_mk (st := s_accepts) lg10 cg10 kg10, PySem.W.mg_of X G ag10, (fun_mk (st := s_accepts) lg10 cg10 kg10).binds (ps := ["field", "value"]) fun _ _ _ _ _ _ us hl => match us, hl with | [_, _], _ => rfl⟩
  have Dg11 : Mc.Def K mg "_wrong_field" s_wrong_field ["limit", "tries", "pauses", "early", "lossy", "ending"] := ⟨fg11, _, fun_mk (st := s_wrong_field) lg11 cg11 kg11, PySem.W.mg_of X G ag11, (fun_mk (st := s_wrong_field) lg11 cg11 kg11).binds (ps := ["limit", "tries", "pauses", "early", "lossy", "ending"]) fun _ _ _ _ _ _ us hl => match us, hl with | [_, _, _, _, _, _], _ => rfl⟩
  have Dg12 : Mc.Def K mg "_are_pauses" s_are_pauses ["value", "tries"] := ⟨fg12, _, fun_mk (st := s_are_pauses) lg12 cg12 kg12, PySem.W.mg_of X G ag12, (fun_mk (st := s_are_pauses) lg12 cg12 kg12).binds (ps := ["value", "tries"]) fun _ _ _ _ _ _ us hl => match us, hl with | [_, _], _ => rfl⟩
  have Dg13 : Mc.Def K mg "_is_ending" s_is_ending ["value"] := ⟨fg13, _, fun_mk (st := s_is_ending) lg13 cg13 kg13, PySem.W.mg_of X G ag13, (fun_mk (st := s_is_ending) lg13 cg13 kg13).binds (ps := ["value"]) fun _ _ _ _ _ _ us hl => match us, hl with | [_], _ => rfl⟩
  have Dg14 : Mc.Def K mg "_all_pauses" s_all_pauses ["tries", "pauses", "early"] := ⟨fg14, _, fun_mk (st := s_all_pauses) lg14 cg14 kg14, PySem.W.mg_of X G ag14, (fun_mk (st := s_all_pauses) lg14 cg14 kg14).binds (ps := ["tries", "pauses", "early"]) fun _ _ _ _ _ _ us hl => match us, hl with | [_, _, _], _ => rfl⟩
  have Dg15 : Mc.Def K mg "_check_policies" s_check_policies ["policies"] := ⟨fg15, _, fun_mk (st := s_check_policies) lg15 cg15 kg15, PySem.W.mg_of X G ag15, (fun_mk (st := s_check_policies) lg15 cg15 kg15).binds (ps := ["policies"]) fun _ _ _ _ _ _ us hl => match us, hl with | [_], _ => rfl⟩
  have Dg16 : Mc.Def K mg "_check_services" s_check_services ["services"] := ⟨fg16, _, fun_mk (st := s_check_services) lg16 cg16 kg16, PySem.W.mg_of X G ag16, (fun_mk (st := s_check_services) lg16 cg16 kg16).binds (ps := ["services"]) fun _ _ _ _ _ _ us hl => match us, hl with | [_], _ => rfl⟩
  have Dg17 : Mc.Def K mg "_is_service" s_is_service ["row"] := ⟨fg17, _, fun_mk (st := s_is_service) lg17 cg17 kg17, PySem.W.mg_of X G ag17, (fun_mk (st := s_is_service) lg17 cg17 kg17).binds (ps := ["row"]) fun _ _ _ _ _ _ us hl => match us, hl with | [_], _ => rfl⟩
  have Dg18 : Mc.Def K mg "_check_parts" s_check_parts ["service", "block"] := ⟨fg18, _, fun_mk (st := s_check_parts) lg18 cg18 kg18, PySem.W.mg_of X G ag18, (fun_mk (st := s_check_parts) lg18 cg18 kg18).binds (ps := ["service", "block"]) fun _ _ _ _ _ _ us hl => match us, hl with | [_, _], _ => rfl⟩
  have Dg19 : Mc.Def K mg "_check_names" s_check_names ["block", "ahead", "policies"] := ⟨fg19, _, fun_mk (st := s_check_names) lg19 cg19 kg19, PySem.W.mg_of X G ag19, (fun_mk (st := s_check_names) lg19 cg19 kg19).binds (ps := ["block", "ahead", "policies"]) fun _ _ _ _ _ _ us hl => match us, hl with | [_, _, _], _ => rfl⟩
  have Dg20 : Mc.Def K mg "_law_pool" s_law_pool ["_law_script", "_law_k"] := ⟨fg20, _, fun_mk (st := s_law_pool) lg20 cg20 kg20, PySem.W.mg_of X G ag20, (fun_mk (st := s_law_pool) lg20 cg20 kg20).binds (ps := ["_law_script", "_law_k"]) fun _ _ _ _ _ _ us hl => match us, hl with | [_, _], _ => rfl⟩
  have Dg21 : Mc.Def K mg "_law_draw" s_law_draw ["_law_pool_here", "_law_many"] := ⟨fg21, _, fun_mk (st := s_law_draw) lg21 cg21 kg21, PySem.W.mg_of X G ag21, (fun_mk (st := s_law_draw) lg21 cg21 kg21).binds (ps := ["_law_pool_here", "_law_many"]) fun _ _ _ _ _ _ us hl => match us, hl with | [_, _], _ => rfl⟩
  have Dg22 : Mc.Def K mg "_law_choose" s_law_choose ["_law_pool_here", "_law_items"] := ⟨fg22, _, fun_mk (st := s_law_choose) lg22 cg22 kg22, PySem.W.mg_of X G ag22, (fun_mk (st := s_law_choose) lg22 cg22 kg22).binds (ps := ["_law_pool_here", "_law_items"]) fun _ _ _ _ _ _ us hl => match us, hl with | [_, _], _ => rfl⟩
  have Dg23 : Mc.Def K mg "_law_first_bad" s_law_first_bad ["_law_at", "_law_bad"] := ⟨fg23, _, fun_mk (st := s_law_first_bad) lg23 cg23 kg23, PySem.W.mg_of X G ag23, (fun_mk (st := s_law_first_bad) lg23 cg23 kg23).binds (ps := ["_law_at", "_law_bad"]) fun _ _ _ _ _ _ us hl => match us, hl with | [_, _], _ => rfl⟩
  have T : Txt K mg := ⟨PySem.W.mg_none_of X G z_isinstance, PySem.W.mg_none_of X G z_int, PySem.W.mg_none_of X G z_bool, PySem.W.mg_none_of X G z_str, PySem.W.mg_none_of X G z_tuple, PySem.W.mg_none_of X G z_len, PySem.W.mg_none_of X G z_all, PySem.W.mg_none_of X G z_range, PySem.W.mg_none_of X G z_repr, PySem.W.mg_none_of X G z_max, PySem.W.mg_none_of X G z_min, PySem.W.mg_none_of X G z_list, PySem.W.mg_none_of X G z_enumerate, PySem.W.mg_none_of X G z_sum, PySem.W.mg_none_of X G z_sorted, ⟨_, PySem.W.mg_of X G gLET, ⟨_, rfl⟩⟩, ⟨_, PySem.W.mg_of X G gc0, ⟨_, rfl⟩⟩, ⟨_, PySem.W.mg_of X G gc1, ⟨_, rfl⟩⟩, ⟨_, PySem.W.mg_of X G gc2, ⟨_, rfl⟩⟩, ⟨_, PySem.W.mg_of X G gc3, ⟨_, rfl⟩⟩, ⟨_, PySem.W.mg_of X G gc4, ⟨_, rfl⟩⟩, ⟨_, PySem.W.mg_of X G gc5, ⟨_, rfl⟩⟩, ⟨_, PySem.W.mg_of X G gc6, ⟨_, rfl⟩⟩, ⟨_, PySem.W.mg_of X G gc7, ⟨_, rfl⟩⟩⟩
  have scPo : Mx.SupC l.prog K mg CPo := ⟨⟨⟨_, _, _, _, _, _, _, _, _, _, _, _, _, _, _, xPo, rvPo⟩, saPo, bePo, tyPo, kpPo⟩, suPo, vePo, tp, PySem.W.mg_none_of X G z_super, top⟩
  have sdPo : Mx.SupD l.prog K "__init__" "InvalidPolicies.__init__" (defArgs s_InvalidPoliciesinit) (defBody s_InvalidPoliciesinit) (defScope s_InvalidPoliciesinit) CPo fPo _ cPo ccPo := ⟨_, _, _, _, _, _, _, _, _, _, _, _, _, _, _, _, _, _, rfl, lPo, cdPo, lcPo, v2Po, fiPo, llPo⟩
  have xfPo : XfC K CPo := ⟨gaPo, ggPo, bePo, hdPo⟩
  have glPo := PySem.W.mg_of X G gPo
  have scSv : Mx.SupC l.prog K mg CSv := ⟨⟨⟨_, _, _, _, _, _, _, _, _, _, _, _, _, _, _, xSv, rvSv⟩, saSv, beSv, tySv, kpSv⟩, suSv, veSv, tp, PySem.W.mg_none_of X G z_super, top⟩
  have sdSv : Mx.SupD l.prog K "__init__" "InvalidServices.__init__" (defArgs s_InvalidServicesinit) (defBody s_InvalidServicesinit) (defScope s_InvalidServicesinit) CSv fSv _ cSv ccSv := ⟨_, _, _, _, _, _, _, _, _, _, _, _, _, _, _, _, _, _, rfl, lSv, cdSv, lcSv, v2Sv, fiSv, llSv⟩
  have xfSv : XfC K CSv := ⟨gaSv, ggSv, beSv, hdSv⟩
  have glSv := PySem.W.mg_of X G gSv
  have scP : Mx.SupC l.prog K mg CP := ⟨⟨⟨_, _, _, _, _, _, _, _, _, _, _, _, _, _, _, xP, rvP⟩, saP, beP, tyP, kpP⟩, suP, veP, tp, PySem.W.mg_none_of X G z_super, top⟩
  have sdP : Mx.SupD l.prog K "__init__" "InvalidPart.__init__" (defArgs s_InvalidPartinit) (defBody s_InvalidPartinit) (defScope s_InvalidPartinit) CP fP _ cP ccP := ⟨_, _, _, _, _, _, _, _, _, _, _, _, _, _, _, _, _, _, rfl, lP, cdP, lcP, v2P, fiP, llP⟩
  have xfP : XfC K CP := ⟨gaP, ggP, beP, hdP⟩
  have glP := PySem.W.mg_of X G gP
  have scU : Mx.SupCB "LookupError" "LookupError.__new__" "LookupError.__init__" tlLE l.prog K mg CU := ⟨⟨⟨_, _, _, _, _, _, _, _, _, _, _, _, _, _, xU⟩, saU, beU, tyU, kpU⟩, suU, veU, tp, PySem.W.mg_none_of X G z_super, top⟩
  have sdU : Mx.SupD l.prog K "__init__" "UnknownName.__init__" (defArgs s_UnknownNameinit) (defBody s_UnknownNameinit) (defScope s_UnknownNameinit) CU fU _ cU ccU := ⟨_, _, _, _, _, _, _, _, _, _, _, _, _, _, _, _, _, _, rfl, lU, cdU, lcU, v2U, fiU, llU⟩
  have xfU : XfC K CU := ⟨gaU, ggU, beU, hdU⟩
  have glU := PySem.W.mg_of X G gU
  have scT : Mx.SupCB "OverflowError" "OverflowError.__new__" "OverflowError.__init__" tlOE l.prog K mg CT := ⟨⟨⟨_, _, _, _, _, _, _, _, _, _, _, _, _, _, xT⟩, saT, beT, tyT, kpT⟩, suT, veT, tp, PySem.W.mg_none_of X G z_super, top⟩
  have sdT : Mx.SupD l.prog K "__init__" "TooLong.__init__" (defArgs s_TooLonginit) (defBody s_TooLonginit) (defScope s_TooLonginit) CT fT _ cT ccT := ⟨_, _, _, _, _, _, _, _, _, _, _, _, _, _, _, _, _, _, rfl, lT, cdT, lcT, v2T, fiT, llT⟩
  have xfT : XfC K CT := ⟨gaT, ggT, beT, hdT⟩
  have glT := PySem.W.mg_of X G gT
  have cl : Cls K C := ⟨pg, hd, po, sa⟩
  have TC : CTxt K C := ⟨cl, n1, n2, n3, n4, n5, n6, n7⟩
  have TS : STx K CS := ⟨⟨pgS, hdS, poS, saS⟩, nS1, nS2, nS3⟩
  have gP := PySem.W.mg_of X G aC
  have gS := PySem.W.mg_of X G aS
  have IC : ICls K C := ⟨ha, hn, htk, ob⟩
  have tgo : ∀ H, TupV K H go En.go.vs := fun H => ⟨.kTup d6 rfl, .inr ⟨_, #[.str "go" tk2], _, d6, rfl, rfl, (by show 1 ≤ sizeLine; decide), .cons ⟨_, rfl⟩ .nil⟩⟩
  have OF : Off K C := by
    intro n hn
    simp only [List.mem_cons, List.not_mem_nil, or_false] at hn
    rcases hn with rfl | rfl | rfl | rfl | rfl | rfl | rfl
    · exact kit_off (l := [.type "NoneType", .type "object"]) hd tyC (by decide +kernel) (by simp)
    · exact kit_off (l := [.type "bool", .type "int", .type "object"]) hd tyC (by decide +kernel) (by simp)
    · exact kit_off (l := [.type "int", .type "object"]) hd tyC (by decide +kernel) (by simp)
    · exact kit_off (l := [.type "str", .type "object"]) hd tyC (by decide +kernel) (by simp)
    · exact kit_off (l := [.type "list", .type "object"]) hd tyC (by decide +kernel) (by simp)
    · exact kit_off (l := [.type "tuple", .type "object"]) hd tyC (by decide +kernel) (by simp)
    · exact kit_off (l := [.type "dict", .type "object"]) hd tyC (by decide +kernel) (by simp)
  have FD : FI K go fI _ := ⟨⟨_, _, _, _, _, _, _, _, _, _, rfl, lI, cI, .inl ⟨rfl, rfl⟩, .inr ⟨Dk, rfl, by
    intro q hq
    simp only [kwsP, List.mem_cons, List.not_mem_nil, or_false] at hq
    rcases hq with rfl | rfl | rfl | rfl | rfl
    · exact ⟨_, d1, ⟨_, rfl⟩⟩
    · exact ⟨_, d2, rfl⟩
    · exact ⟨_, d3, rfl⟩
    · exact ⟨_, d4, rfl⟩
    · exact ⟨_, d5, rfl⟩⟩⟩, kI⟩
  have DO : DefP K mg := ⟨fO, _, ⟨⟨_, _, _, _, _, _, _, _, _, _, rfl, lO, cO, .inr ⟨by simp, tpio, _, [.int 0 tkpio], tpn, rfl, dpio, rfl, .cons ⟨_, rfl⟩ .nil⟩, .inl rfl⟩, kO⟩, PySem.W.mg_of X G aO⟩
  have M : Mk K C fI := ⟨mk, aI, iI, kc⟩
  have FY := fun_mk (st := s_Systeminit) lY cY kY
  have bY := FY.binds (ps := psS) fun _ _ _ _ _ _ us hl => match us, hl with | [_, _, _], _ => rfl
  have MS : Mk K CS fY := ⟨mkS, aY, iY, kcS⟩
  have FQ := fun_mk (st := s_law_told) lQ cQ kQ
  have bQ := FQ.binds (ps := ["_law_call"]) fun _ _ _ _ _ _ us hl => match us, hl with | [_], _ => rfl
  obtain ⟨ds0, v0, b0⟩ := b_none FD
  have fnG : PySem.W.fnIn K fw11 = true := by unfold PySem.W.fnIn; rw [lw11]
  have F_name := fun_mk (st := s_Policy_name) lpname cpname kpname
  have b_name := F_name.binds (ps := ["self"]) fun _ _ _ _ _ _ us hl => match us, hl with | [_], _ => rfl
  have F_limit := fun_mk (st := s_Policy_limit) lplimit cplimit kplimit
  have b_limit := F_limit.binds (ps := ["self"]) fun _ _ _ _ _ _ us hl => match us, hl with | [_], _ => rfl
  have F_tries := fun_mk (st := s_Policy_tries) lptries cptries kptries
  have b_tries := F_tries.binds (ps := ["self"]) fun _ _ _ _ _ _ us hl => match us, hl with | [_], _ => rfl
  have F_pauses := fun_mk (st := s_Policy_pauses) lppauses cppauses kppauses
  have b_pauses := F_pauses.binds (ps := ["self"]) fun _ _ _ _ _ _ us hl => match us, hl with | [_], _ => rfl
  have F_early := fun_mk (st := s_Policy_early) lpearly cpearly kpearly
  have b_early := F_early.binds (ps := ["self"]) fun _ _ _ _ _ _ us hl => match us, hl with | [_], _ => rfl
  have Fw1 := fun_mk (st := s_System_policies) lw1 cw1 kw1
  have bw1 := Fw1.binds (ps := ["self"]) fun _ _ _ _ _ _ us hl => match us, hl with | [_], _ => rfl
  have Fw3 := fun_mk (st := s_System_policy) lw3 cw3 kw3
  have bw3 := Fw3.binds (ps := ["self", "name"]) fun _ _ _ _ _ _ us hl => match us, hl with | [_, _], _ => rfl
  have Fw4 := fun_mk (st := s_System_span) lw4 cw4 kw4
  have bw4 := Fw4.binds (ps := ["self", "name"]) fun _ _ _ _ _ _ us hl => match us, hl with | [_, _], _ => rfl
  have Fw5 := fun_mk (st := s_System_callees) lw5 cw5 kw5
  have bw5 := Fw5.binds (ps := ["self", "name"]) fun _ _ _ _ _ _ us hl => match us, hl with | [_, _], _ => rfl
  have Fw6 := fun_mk (st := s_System_with_policy) lw6 cw6 kw6
  have bw6 := Fw6.binds (ps := ["self", "policy"]) fun _ _ _ _ _ _ us hl => match us, hl with | [_, _], _ => rfl
  have Fw7 := fun_mk (st := s_System_with_block) lw7 cw7 kw7
  have bw7 := Fw7.binds (ps := ["self", "name", "block"]) fun _ _ _ _ _ _ us hl => match us, hl with | [_, _, _], _ => rfl
  have Fw8 := fun_mk (st := s_System_with_service) lw8 cw8 kw8
  have bw8 := Fw8.binds (ps := ["self", "name", "block"]) fun _ _ _ _ _ _ us hl => match us, hl with | [_, _, _], _ => rfl
  have Fw9 := fun_mk (st := s_System_rows) lw9 cw9 kw9
  have bw9 := Fw9.binds (ps := ["self"]) fun _ _ _ _ _ _ us hl => match us, hl with | [_], _ => rfl
  have Fw11 := fun_mk (st := s_Systemgetitem) lw11 cw11 kw11
  have bw11 := Fw11.binds (ps := ["self", "at"]) fun _ _ _ _ _ _ us hl => match us, hl with | [_, _], _ => rfl
  have Fw12 := fun_mk (st := s_Systemcontains) lw12 cw12 kw12
  have bw12 := Fw12.binds (ps := ["self", "x"]) fun _ _ _ _ _ _ us hl => match us, hl with | [_, _], _ => rfl
  have ef := hfa.symm.trans (PySem.W.mg_of X G aL)
  cases ef
  have dLR : PL ≠ PR := fun z => by rw [z] at nLR; simp at nLR
  have dLJ : PL ≠ PJ := fun z => by rw [z] at nLJ; simp at nLJ
  have dRJ : PR ≠ PJ := fun z => by rw [z] at nRJ; simp at nRJ
  have tab0 : ∀ {H : Hp} {a : Addr} {q : Str}, H a = some (.tbl #[]) → LamX.TabS H a q := fun h => LamX.TabS.nil h
  refine ⟨PySem.W.fnOf "law" "law" (defArgs s_law) (defBody s_law) (defScope s_law) .none kVL dcL pmL anL (.ref qL) ctL, [(qL, PL), (qR, PR), (qJ, PJ)], spLaw [(PL, "law.<locals>.<lambda>"), (PR, "_law_doors_right.<locals>.<lambda>"), (PJ, "_law_lists_right.<locals>.<lambda>")] K, ?_, ?_, ?_, fun s v => .of_eq rfl, ?_, fun base _ _ TBs => ?_⟩
  · intro p hp
    simp only [List.mem_cons, List.not_mem_nil, or_false] at hp
    rcases hp with rfl | rfl | rfl
    · exact hT8 _ mmL
    · exact hT8 _ mmR
    · exact hT8 _ mmJ
  · intro p hp
    simp only [List.mem_cons, List.not_mem_nil, or_false] at hp
    rcases hp with rfl | rfl | rfl
    · exact nlL
    · exact nlR
    · exact nlJ
  · intro p hp
    simp only [List.mem_cons, List.not_mem_nil, or_false] at hp
    rcases hp with rfl | rfl | rfl
    · exact PySem.W.codeHd_of_K X chL
    · exact PySem.W.codeHd_of_K X chR
    · exact PySem.W.codeHd_of_K X chJ
  · intro H a ns hl _ hT hS
    refine ⟨a, ns, rfl, hS, hl, ?_, fun _ => rfl⟩
    intro p hp
    simp only [List.mem_cons, List.not_mem_nil, or_false] at hp
    rcases hp with rfl | rfl | rfl
    · exact tab0 (hT (qL, PL) (by simp))
    · exact tab0 (hT (qR, PR) (by simp))
    · exact tab0 (hT (qJ, PJ) (by simp))
  · have c_int := ok_is_integer (P := l.prog) (w := w) (base := base) T Dg0
    have c_btw := ok_is_between T Dg1 c_int
    have c_nm := ok_is_name (P := l.prog) (w := w) (base := base) T Dg2
    have c_are := ok_are_pauses T Dg12 c_btw
    have c_end := ok_is_ending T Dg13 c_btw
    have c_acc := ok_accepts T Dg10 c_btw c_end
    have c_wf := ok_wrong_field T Dg11 c_btw c_are c_acc
    have c_all := ok_all_pauses (P := l.prog) (w := w) (base := base) T Dg14
    have G0 := ok_init FD T TC c_nm c_wf c_all
    have EPo : Mx.ExK l.prog w K mg base "InvalidPolicies" CPo fPo _ ["self", "number"] (Mx.spEx CPo "number") := ⟨iPo, tPo, ok_InvalidPolicies sdPo scPo nfPo, .all (fun us hl => match us, hl with | [_, _], _ => rfl), glPo⟩
    have ESv : Mx.ExK l.prog w K mg base "InvalidServices" CSv fSv _ ["self", "number"] (Mx.spEx CSv "number") := ⟨iSv, tSv, ok_InvalidServices sdSv scSv nfSv, .all (fun us hl => match us, hl with | [_, _], _ => rfl), glSv⟩
    have EP : Mx.ExK l.prog w K mg base "InvalidPart" CP fP _ ["self", "service", "place"] (spEx2 CP) := ⟨iP, tP, ok_InvalidPart sdP scP nfP nfP2, .all (fun us hl => match us, hl with | [_, _, _], _ => rfl), glP⟩
    have EU : Mx.ExK l.prog w K mg base "UnknownName" CU fU _ ["self", "value"] (Mx.spEx CU "value") := ⟨iU, tU, ok_UnknownName sdU scU nfU, .all (fun us hl => match us, hl with | [_, _], _ => rfl), glU⟩
    have ET : Mx.ExK l.prog w K mg base "TooLong" CT fT _ ["self", "service"] (Mx.spEx CT "service") := ⟨iT, tT, ok_TooLong sdT scT nfT, .all (fun us hl => match us, hl with | [_, _], _ => rfl), glT⟩
    have pr_name : Prp l.prog w K mg base 1 C "name" (getSp C "_name") := prp_of F_name ⟨p1_name, p2_name, p3_name, ⟨_, apname⟩⟩ sc_Policy_name rfl cl n1 b_name
    have pr_limit : Prp l.prog w K mg base 1 C "limit" (getSp C "_limit") := prp_of F_limit ⟨p1_limit, p2_limit, p3_limit, ⟨_, aplimit⟩⟩ sc_Policy_limit rfl cl n2 b_limit
    have pr_tries : Prp l.prog w K mg base 1 C "tries" (getSp C "_tries") := prp_of F_tries ⟨p1_tries, p2_tries, p3_tries, ⟨_, aptries⟩⟩ sc_Policy_tries rfl cl n3 b_tries
    have pr_pauses : Prp l.prog w K mg base 1 C "pauses" (getSp C "_pauses") := prp_of F_pauses ⟨p1_pauses, p2_pauses, p3_pauses, ⟨_, appauses⟩⟩ sc_Policy_pauses rfl cl n4 b_pauses
    have pr_early : Prp l.prog w K mg base 1 C "early" (getSp C "_early") := prp_of F_early ⟨p1_early, p2_early, p3_early, ⟨_, apearly⟩⟩ sc_Policy_early rfl cl n5 b_early
    have uL : ∀ p ∈ ([(PL, "law.<locals>.<lambda>"), (PR, "_law_doors_right.<locals>.<lambda>"), (PJ, "_law_lists_right.<locals>.<lambda>")] : List (Addr × Str)), p.1 = PL → p.2 = ("law.<locals>.<lambda>" : Str) := by
      intro p hp he
      simp only [List.mem_cons, List.not_mem_nil, or_false] at hp
      rcases hp with rfl | rfl | rfl
      · rfl
      · exact absurd he.symm dLR
      · exact absurd he.symm dLJ
    have uR : ∀ p ∈ ([(PL, "law.<locals>.<lambda>"), (PR, "_law_doors_right.<locals>.<lambda>"), (PJ, "_law_lists_right.<locals>.<lambda>")] : List (Addr × Str)), p.1 = PR → p.2 = ("_law_doors_right.<locals>.<lambda>" : Str) := by
      intro p hp he
      simp only [List.mem_cons, List.not_mem_nil, or_false] at hp
      rcases hp with rfl | rfl | rfl
      · exact absurd he dLR
      · rfl
      · exact absurd he.symm dRJ
    have uJ : ∀ p ∈ ([(PL, "law.<locals>.<lambda>"), (PR, "_law_doors_right.<locals>.<lambda>"), (PJ, "_law_lists_right.<locals>.<lambda>")] : List (Addr × Str)), p.1 = PJ → p.2 = ("_law_lists_right.<locals>.<lambda>" : Str) := by
      intro p hp he
      simp only [List.mem_cons, List.not_mem_nil, or_false] at hp
      rcases hp with rfl | rfl | rfl
      · exact absurd he dLJ
      · exact absurd he dRJ
      · rfl
    have PRS : Prps l.prog w K mg base C := ⟨pr_name, pr_limit, pr_tries, pr_pauses, pr_early⟩
    have c_pool := ok_pool (P := l.prog) (w := w) (base := base) T Dg20
    have c_draw := ok_draw (P := l.prog) (w := w) (base := base) T Dg21
    have c_choose := ok_choose T Dg22 c_draw
    have c_call := ok_is_call (P := l.prog) (w := w) (base := base) T Dg4
    have c_holds := ok_holds_blocks (P := l.prog) (w := w) (base := base) T Dg5
    have c_part := ok_is_part T Dg3 c_btw c_nm c_call c_holds
    have c_pio := ok_pio T DO c_holds
    have c_calls := ok_calls T Dg6 c_pio c_call
    have c_cspan := ok_call_span T Dg9 PRS
    have c_bspan := ok_block_span T Dg7 Dg8 c_call c_cspan
    have c_cpol := ok_chk_pol T Dg15 PRS TC IC gP
    have c_isv := ok_is_service T Dg17 c_nm
    have c_csv := ok_chk_serv T Dg16 c_isv
    have c_cpt := ok_chk_parts T Dg18 c_pio c_holds c_part scP EP
    have c_cnm := ok_chk_names T Dg19 c_calls scU EU
    have GY := ok_sys FY T TS pr_name c_cpol c_csv c_cpt c_cnm c_bspan scT ET
    have S : MkS l.prog w K mg base C CS CP CU CT fY _ := ⟨MS, GY, gS, bY, TS⟩
    have SC : SysC l.prog w K mg base C CS fw12 _ := ⟨ok_contains Fw12 T TS, ⟨aw12, iw12⟩, bw12⟩
    have m_policies := ok_policies (P := l.prog) (w := w) (base := base) (C := C) Fw1 T TS ⟨aw1, iw1, kw1⟩ bw1
    have m_rows := ok_rows (P := l.prog) (w := w) (base := base) (C := C) Fw9 T TS ⟨aw9, iw9, kw9⟩ bw9
    have c_polE := ok_chk_polE T Dg15 pr_name TC IC gP OF scPo EPo
    have c_sv := ok_serv T Dg17 c_nm
    have c_srvE := ok_chk_servE T Dg16 c_sv scSv ESv
    have E1 := ok_sysE1 FY T TS pr_name c_polE c_srvE c_cpt c_cnm c_bspan scT ET
    have E2 := ok_sysE2 FY T TS pr_name c_cpol c_srvE c_cpt c_cnm c_bspan scT ET
    have GA : FnOk l.prog w K mg base (CX l.prog w) 10 fY _ psS (spAny K C CS CPo CSv CP CU CT) := fn_orX GY (fn_orX E1 E2)
    have GGE := ok_getitemE Fw11 T TS SC scU EU
    have GG : MkG l.prog w K mg base C CS CU fw11 _ := ⟨GGE, ⟨aw11, iw11⟩, fnG, bw11⟩
    have MSP : MkE l.prog w K mg base CS "span" fw4 _ 4 ["self", "name"] (spNoName K C CS CU 0) := ⟨⟨aw4, iw4, kw4⟩, ok_spanE Fw4 T TS SC scU EU, bw4⟩
    have MCA : MkE l.prog w K mg base CS "callees" fw5 _ 6 ["self", "name"] (spNoName K C CS CU 0) := ⟨⟨aw5, iw5, kw5⟩, ok_calleesE Fw5 T ⟨aw11, iw11⟩ fnG bw11 GGE c_calls, bw5⟩
    have MPO : MkE l.prog w K mg base CS "policy" fw3 _ 4 ["self", "name"] (spNoPol K C CS CU) := ⟨⟨aw3, iw3, kw3⟩, ok_policyE Fw3 T TS scU EU, bw3⟩
    have MWB : MkE l.prog w K mg base CS "with_block" fw7 _ 12 ["self", "name", "block"] (spNoName K C CS CU 1) := ⟨⟨aw7, iw7, kw7⟩, ok_with_blockE Fw7 T S SC scU EU, bw7⟩
    have MWB2 : MkE l.prog w K mg base CS "with_block" fw7 _ 12 ["self", "name", "block"] (spWithBlock K C CS CP CU CT) := ⟨⟨aw7, iw7, kw7⟩, ok_with_block Fw7 T S SC, bw7⟩
    have MWP : MkE l.prog w K mg base CS "with_policy" fw6 _ 12 ["self", "policy"] (spWithPolicyE K C CS CU CPo) := ⟨⟨aw6, iw6, kw6⟩, ok_with_policyE Fw6 T S pr_name TC IC gP OF m_rows scPo EPo scU EU, bw6⟩
    have MWS : MkE l.prog w K mg base CS "with_service" fw8 _ 12 ["self", "name", "block"] (spWithServiceE K C CS CSv) := ⟨⟨aw8, iw8, kw8⟩, ok_with_serviceE Fw8 T TS MS E2 gS bY m_rows, bw8⟩
    have MWS2 : MkE l.prog w K mg base CS "with_service" fw8 _ 12 ["self", "name", "block"] (spWithService K C CS CP CU CT) := ⟨⟨aw8, iw8, kw8⟩, ok_with_service Fw8 T S m_rows, bw8⟩
    have Z : Xs K mg CPo CSv CP CU := ⟨xfPo, xfSv, xfP, xfU, nfPo, nfSv, nfP, nfP2, nfU, glPo, glSv, glP, glU, exm_is bePo tyPo hdPo s11, exm_is bePo tyPo hdPo s21, exm_is beSv tySv hdSv s22, exm_is bePo tyPo hdPo s31, exm_is beSv tySv hdSv s32, exm_is beP tyP hdP s33, exm_is bePo tyPo hdPo s41, exm_is beSv tySv hdSv s42, exm_is beP tyP hdP s43, exm_is beU tyU hdU s44⟩
    have DLL : MkL l.prog w K mg base [(PL, "law.<locals>.<lambda>"), (PR, "_law_doors_right.<locals>.<lambda>"), (PJ, "_law_lists_right.<locals>.<lambda>")] fQ _ qL PL "law.<locals>.<lambda>" := ⟨FQ, PySem.W.mg_of X G aQ, bQ, TBs (qL, PL) (by simp), by simp, uL⟩
    have DLR : MkL l.prog w K mg base [(PL, "law.<locals>.<lambda>"), (PR, "_law_doors_right.<locals>.<lambda>"), (PJ, "_law_lists_right.<locals>.<lambda>")] fQ _ qR PR "_law_doors_right.<locals>.<lambda>" := ⟨FQ, PySem.W.mg_of X G aQ, bQ, TBs (qR, PR) (by simp), by simp, uR⟩
    have DLJ : MkL l.prog w K mg base [(PL, "law.<locals>.<lambda>"), (PR, "_law_doors_right.<locals>.<lambda>"), (PJ, "_law_lists_right.<locals>.<lambda>")] fQ _ qJ PJ "_law_lists_right.<locals>.<lambda>" := ⟨FQ, PySem.W.mg_of X G aQ, bQ, TBs (qJ, PJ) (by simp), by simp, uJ⟩
    have DR : DefC K mg "_law_doors_right" s_law_doors_right ["_law_one"] (.ref qR) := ⟨fR, _, ⟨⟨_, _, _, _, _, _, _, _, rfl, lR, cR⟩, kR⟩, PySem.W.mg_of X G aR, .all (fun us hl => match us, hl with | [_], _ => rfl)⟩
    have DJ : DefC K mg "_law_lists_right" s_law_lists_right ["_law_good"] (.ref qJ) := ⟨fJ, _, ⟨⟨_, _, _, _, _, _, _, _, rfl, lJ, cJ⟩, kJ⟩, PySem.W.mg_of X G aJ, .all (fun us hl => match us, hl with | [_], _ => rfl)⟩
    have c_doors := ok_doors T Z DLR DR TS M G0 gP ds0 v0 b0 tgo GG MSP MCA MPO MWB MWB2 MWP MWS MWS2
    have c_lists := ok_lists T Z DLJ DJ TS M G0 gP ds0 v0 b0 tgo MS GY GA gS bY m_policies
    have c_fb := ok_first_bad (P := l.prog) (w := w) (base := base) T Dg23 pr_name TC IC gP OF
    have FL : FunC K "law" "law" s_law _ _ (.ref qL) := ⟨⟨_, _, _, _, _, _, _, _, rfl, lL, cL⟩, kL⟩
    exact ok_law FL T Z DLL TS M G0 gP ds0 v0 b0 tgo MS GY GA gS bY c_pool c_draw c_choose c_fb c_lists c_doors
end K2
open PySem PySem.W PyProof.Rows in
set_option maxRecDepth 100000 in
set_option maxHeartbeats 0 in
theorem PySem.Challenge.cw_mostcalls_k06_systems_refused_holds : PySem.Challenge.rw_mostcalls_k06_systems_refused.Holds := by
  w_on; o_law; k_head; (case hw => w_witness2)
  k_fill
  refine Mc.walk_runT (l := PySem.Challenge.rw_mostcalls_k06_systems_refused) (n := 63) (k := 19) (x := "_law_script") rfl (by decide) rfl ⟨rfl, by decide, by decide⟩ (fun w h Y => PySem.W.km_in_of Y) ?F
  case F =>
    intro w mg fa h Y KX G hmg
    have hT8 := PySem.W.km_tabs_of Y
    refine' K2.all_mk KX hT8 G hmg ?ag0 ?lg0 ?cg0 ?kg0 ?ag1 ?lg1 ?cg1 ?kg1 ?ag2 ?lg2 ?cg2 ?kg2 ?ag3 ?lg3 ?cg3 ?kg3 ?ag4 ?lg4 ?cg4 ?kg4 ?ag5 ?lg5 ?cg5 ?kg5 ?ag6 ?lg6 ?cg6 ?kg6 ?ag7 ?lg7 ?cg7 ?kg7 ?ag8 ?lg8 ?cg8 ?kg8 ?ag9 ?lg9 ?cg9 ?kg9 ?ag10 ?lg10 ?cg10 ?kg10 ?ag11 ?lg11 ?cg11 ?kg11 ?ag12 ?lg12 ?cg12 ?kg12 ?ag13 ?lg13 ?cg13 ?kg13 ?ag14 ?lg14 ?cg14 ?kg14 ?ag15 ?lg15 ?cg15 ?kg15 ?ag16 ?lg16 ?cg16 ?kg16 ?ag17 ?lg17 ?cg17 ?kg17 ?ag18 ?lg18 ?cg18 ?kg18 ?ag19 ?lg19 ?cg19 ?kg19 ?ag20 ?lg20 ?cg20 ?kg20 ?ag21 ?lg21 ?cg21 ?kg21 ?ag22 ?lg22 ?cg22 ?kg22 ?ag23 ?lg23 ?cg23 ?kg23 ?aL ?lL ?cL ?kL ?tbL ?t1L ?chL ?nlL ?mmL ?aR ?lR ?cR ?kR ?tbR ?t1R ?chR ?nlR ?mmR ?aJ ?lJ ?cJ ?kJ ?tbJ ?t1J ?chJ ?nlJ ?mmJ ?nLR ?nLJ ?nRJ ?aQ ?lQ ?cQ ?kQ ?aO ?lO ?cO ?kO ?dpio ?z_isinstance ?z_int ?z_bool ?z_str ?z_tuple ?z_len ?z_all ?z_range ?z_repr ?z_max ?z_min ?z_list ?z_enumerate ?z_sum ?z_sorted ?z_super ?gLET ?gc0 ?gc1 ?gc2 ?gc3 ?gc4 ?gc5 ?gc6 ?gc7 ?aC ?aI ?lI ?cI ?kI ?iI ?d1 ?d2 ?d3 ?d4 ?d5 ?d6 ?pg ?hd ?po ?sa ?mk ?kc ?tyC ?n1 ?n2 ?n3 ?n4 ?n5 ?n6 ?n7 ?ob ?ha ?hn ?htk ?p1_name ?p2_name ?p3_name ?apname ?lpname ?cpname ?kpname ?p1_limit ?p2_limit ?p3_limit ?aplimit ?lplimit ?cplimit ?kplimit ?p1_tries ?p2_tries ?p3_tries ?aptries ?lptries ?cptries ?kptries ?p1_pauses ?p2_pauses ?p3_pauses ?appauses ?lppauses ?cppauses ?kppauses ?p1_early ?p2_early ?p3_early ?apearly ?lpearly ?cpearly ?kpearly ?aS ?aY ?lY ?cY ?kY ?iY ?pgS ?hdS ?poS ?saS ?mkS ?kcS ?nS1 ?nS2 ?nS3 ?aw1 ?lw1 ?cw1 ?kw1 ?iw1 ?aw3 ?lw3 ?cw3 ?kw3 ?iw3 ?aw4 ?lw4 ?cw4 ?kw4 ?iw4 ?aw5 ?lw5 ?cw5 ?kw5 ?iw5 ?aw6 ?lw6 ?cw6 ?kw6 ?iw6 ?aw7 ?lw7 ?cw7 ?kw7 ?iw7 ?aw8 ?lw8 ?cw8 ?kw8 ?iw8 ?aw9 ?lw9 ?cw9 ?kw9 ?iw9 ?aw11 ?lw11 ?cw11 ?kw11 ?iw11 ?aw12 ?lw12 ?cw12 ?kw12 ?iw12 ?tp ?top ?gPo ?xPo ?rvPo ?saPo ?bePo ?tyPo ?kpPo ?suPo ?vePo ?gaPo ?ggPo ?hdPo ?nfPo ?iPo ?lPo ?tPo ?cdPo ?lcPo ?v2Po ?fiPo ?llPo ?gSv ?xSv ?rvSv ?saSv ?beSv ?tySv ?kpSv ?suSv ?veSv ?gaSv ?ggSv ?hdSv ?nfSv ?iSv ?lSv ?tSv ?cdSv ?lcSv ?v2Sv ?fiSv ?llSv ?gP ?xP ?rvP ?saP ?beP ?tyP ?kpP ?suP ?veP ?gaP ?ggP ?hdP ?nfP ?iP ?lP ?tP ?cdP ?lcP ?v2P ?fiP ?llP ?nfP2 ?gU ?xU ?saU ?beU ?tyU ?kpU ?suU ?veU ?gaU ?ggU ?hdU ?nfU ?iU ?lU ?tU ?cdU ?lcU ?v2U ?fiU ?llU ?gT ?xT ?saT ?beT ?tyT ?kpT ?suT ?veT ?gaT ?ggT ?hdT ?nfT ?iT ?lT ?tT ?cdT ?lcT ?v2T ?fiT ?llT ?s11 ?s21 ?s22 ?s31 ?s32 ?s33 ?s41 ?s42 ?s43 ?s44
    (case ag0 => k_is)
    (case lg0 => k_is)
    (case cg0 => k_is)
    (case kg0 => k_is)
    (case ag1 => k_is)
    (case lg1 => k_is)
    (case cg1 => k_is)
    (case kg1 => k_is)
    (case ag2 => k_is)
    (case lg2 => k_is)
    (case cg2 => k_is)
    (case kg2 => k_is)
    (case ag3 => k_is)
    (case lg3 => k_is)
    (case cg3 => k_is)
    (case kg3 => k_is)
    (case ag4 => k_is)
    (case lg4 => k_is)
    (case cg4 => k_is)
    (case kg4 => k_is)
    (case ag5 => k_is)
    (case lg5 => k_is)
    (case cg5 => k_is)
    (case kg5 => k_is)
    (case ag6 => k_is)
    (case lg6 => k_is)
    (case cg6 => k_is)
    (case kg6 => k_is)
    (case ag7 => k_is)
    (case lg7 => k_is)
    (case cg7 => k_is)
    (case kg7 => k_is)
    (case ag8 => k_is)
    (case lg8 => k_is)
    (case cg8 => k_is)
    (case kg8 => k_is)
    (case ag9 => k_is)
    (case lg9 => k_is)
    (case cg9 => k_is)
    (case kg9 => k_is)
    (case ag10 => k_is)
    (case lg10 => k_is)
    (case cg10 => k_is)
    (case kg10 => k_is)
    (case ag11 => k_is)
    (case lg11 => k_is)
    (case cg11 => k_is)
    (case kg11 => k_is)
    (case ag12 => k_is)
    (case lg12 => k_is)
    (case cg12 => k_is)
    (case kg12 => k_is)
    (case ag13 => k_is)
    (case lg13 => k_is)
    (case cg13 => k_is)
    (case kg13 => k_is)
    (case ag14 => k_is)
    (case lg14 => k_is)
    (case cg14 => k_is)
    (case kg14 => k_is)
    (case ag15 => k_is)
    (case lg15 => k_is)
    (case cg15 => k_is)
    (case kg15 => k_is)
    (case ag16 => k_is)
    (case lg16 => k_is)
    (case cg16 => k_is)
    (case kg16 => k_is)
    (case ag17 => k_is)
    (case lg17 => k_is)
    (case cg17 => k_is)
    (case kg17 => k_is)
    (case ag18 => k_is)
    (case lg18 => k_is)
    (case cg18 => k_is)
    (case kg18 => k_is)
    (case ag19 => k_is)
    (case lg19 => k_is)
    (case cg19 => k_is)
    (case kg19 => k_is)
    (case ag20 => k_is)
    (case lg20 => k_is)
    (case cg20 => k_is)
    (case kg20 => k_is)
    (case ag21 => k_is)
    (case lg21 => k_is)
    (case cg21 => k_is)
    (case kg21 => k_is)
    (case ag22 => k_is)
    (case lg22 => k_is)
    (case cg22 => k_is)
    (case kg22 => k_is)
    (case ag23 => k_is)
    (case lg23 => k_is)
    (case cg23 => k_is)
    (case kg23 => k_is)
    (case aL => k_is)
    (case lL => k_is)
    (case cL => k_is)
    (case kL => k_is)
    (case tbL => k_is)
    (case t1L => first | rfl | decide +kernel)
    (case chL => first | kernel_rfl | k_is)
    (case nlL => first | k_is | kernel_rfl | rfl)
    (case mmL => first | k_mem | decide +kernel)
    (case aR => k_is)
    (case lR => k_is)
    (case cR => k_is)
    (case kR => k_is)
    (case tbR => k_is)
    (case t1R => first | rfl | decide +kernel)
    (case chR => first | kernel_rfl | k_is)
    (case nlR => first | k_is | kernel_rfl | rfl)
    (case mmR => first | k_mem | decide +kernel)
    (case aJ => k_is)
    (case lJ => k_is)
    (case cJ => k_is)
    (case kJ => k_is)
    (case tbJ => k_is)
    (case t1J => first | rfl | decide +kernel)
    (case chJ => first | kernel_rfl | k_is)
    (case nlJ => first | k_is | kernel_rfl | rfl)
    (case mmJ => first | k_mem | decide +kernel)
    (case nLR => first | rfl | decide +kernel)
    (case nLJ => first | rfl | decide +kernel)
    (case nRJ => first | rfl | decide +kernel)
    (case aQ => k_is)
    (case lQ => k_is)
    (case cQ => k_is)
    (case kQ => k_is)
    (case aO => k_is)
    (case lO => k_is)
    (case cO => k_is)
    (case kO => k_is)
    (case dpio => k_is)
    (case z_isinstance => k_is)
    (case z_int => k_is)
    (case z_bool => k_is)
    (case z_str => k_is)
    (case z_tuple => k_is)
    (case z_len => k_is)
    (case z_all => k_is)
    (case z_range => k_is)
    (case z_repr => k_is)
    (case z_max => k_is)
    (case z_min => k_is)
    (case z_list => k_is)
    (case z_enumerate => k_is)
    (case z_sum => k_is)
    (case z_sorted => k_is)
    (case z_super => k_is)
    (case gLET => k_is)
    (case gc0 => k_is)
    (case gc1 => k_is)
    (case gc2 => k_is)
    (case gc3 => k_is)
    (case gc4 => k_is)
    (case gc5 => k_is)
    (case gc6 => k_is)
    (case gc7 => k_is)
    (case aC => k_is)
    (case aI => k_is)
    (case lI => k_is)
    (case cI => k_is)
    (case kI => k_is)
    (case iI => k_is)
    (case d1 => k_is)
    (case d2 => k_is)
    (case d3 => k_is)
    (case d4 => k_is)
    (case d5 => k_is)
    (case d6 => k_is)
    (case pg => k_is)
    (case hd => k_is)
    (case po => k_is)
    (case sa => k_is)
    (case mk => k_is)
    (case kc => k_is)
    (case tyC => k_is)
    (case n1 => k_is)
    (case n2 => k_is)
    (case n3 => k_is)
    (case n4 => k_is)
    (case n5 => k_is)
    (case n6 => k_is)
    (case n7 => k_is)
    (case ob => k_is)
    (case ha => k_is)
    (case hn => k_is)
    (case htk => k_is)
    (case p1_name => k_is)
    (case p2_name => k_is)
    (case p3_name => k_is)
    (case apname => k_is)
    (case lpname => k_is)
    (case cpname => k_is)
    (case kpname => k_is)
    (case p1_limit => k_is)
    (case p2_limit => k_is)
    (case p3_limit => k_is)
    (case aplimit => k_is)
    (case lplimit => k_is)
    (case cplimit => k_is)
    (case kplimit => k_is)
    (case p1_tries => k_is)
    (case p2_tries => k_is)
    (case p3_tries => k_is)
    (case aptries => k_is)
    (case lptries => k_is)
    (case cptries => k_is)
    (case kptries => k_is)
    (case p1_pauses => k_is)
    (case p2_pauses => k_is)
    (case p3_pauses => k_is)
    (case appauses => k_is)
    (case lppauses => k_is)
    (case cppauses => k_is)
    (case kppauses => k_is)
    (case p1_early => k_is)
    (case p2_early => k_is)
    (case p3_early => k_is)
    (case apearly => k_is)
    (case lpearly => k_is)
    (case cpearly => k_is)
    (case kpearly => k_is)
    (case aS => k_is)
    (case aY => k_is)
    (case lY => k_is)
    (case cY => k_is)
    (case kY => k_is)
    (case iY => k_is)
    (case pgS => k_is)
    (case hdS => k_is)
    (case poS => k_is)
    (case saS => k_is)
    (case mkS => k_is)
    (case kcS => k_is)
    (case nS1 => k_is)
    (case nS2 => k_is)
    (case nS3 => k_is)
    (case aw1 => k_is)
    (case lw1 => k_is)
    (case cw1 => k_is)
    (case kw1 => k_is)
    (case iw1 => k_is)
    (case aw3 => k_is)
    (case lw3 => k_is)
    (case cw3 => k_is)
    (case kw3 => k_is)
    (case iw3 => k_is)
    (case aw4 => k_is)
    (case lw4 => k_is)
    (case cw4 => k_is)
    (case kw4 => k_is)
    (case iw4 => k_is)
    (case aw5 => k_is)
    (case lw5 => k_is)
    (case cw5 => k_is)
    (case kw5 => k_is)
    (case iw5 => k_is)
    (case aw6 => k_is)
    (case lw6 => k_is)
    (case cw6 => k_is)
    (case kw6 => k_is)
    (case iw6 => k_is)
    (case aw7 => k_is)
    (case lw7 => k_is)
    (case cw7 => k_is)
    (case kw7 => k_is)
    (case iw7 => k_is)
    (case aw8 => k_is)
    (case lw8 => k_is)
    (case cw8 => k_is)
    (case kw8 => k_is)
    (case iw8 => k_is)
    (case aw9 => k_is)
    (case lw9 => k_is)
    (case cw9 => k_is)
    (case kw9 => k_is)
    (case iw9 => k_is)
    (case aw11 => k_is)
    (case lw11 => k_is)
    (case cw11 => k_is)
    (case kw11 => k_is)
    (case iw11 => k_is)
    (case aw12 => k_is)
    (case lw12 => k_is)
    (case cw12 => k_is)
    (case kw12 => k_is)
    (case iw12 => k_is)
    (case tp => k_is)
    (case top => first | rfl | decide +kernel)
    (case gPo => k_is)
    (case xPo => k_is)
    (case rvPo => first | decide +kernel | rfl)
    (case saPo => k_is)
    (case bePo => k_is)
    (case tyPo => k_is)
    (case kpPo => k_is)
    (case suPo => first | ks_is | k_is | kernel_rfl)
    (case vePo => k_is)
    (case gaPo => k_is)
    (case ggPo => k_is)
    (case hdPo => k_is)
    (case nfPo => k_is)
    (case iPo => k_is)
    (case lPo => k_is)
    (case tPo => k_is)
    (case cdPo => k_is)
    (case lcPo => k_is)
    (case v2Po => first | rfl | decide +kernel)
    (case fiPo => first | rfl | decide +kernel)
    (case llPo => k_is)
    (case gSv => k_is)
    (case xSv => k_is)
    (case rvSv => first | decide +kernel | rfl)
    (case saSv => k_is)
    (case beSv => k_is)
    (case tySv => k_is)
    (case kpSv => k_is)
    (case suSv => first | ks_is | k_is | kernel_rfl)
    (case veSv => k_is)
    (case gaSv => k_is)
    (case ggSv => k_is)
    (case hdSv => k_is)
    (case nfSv => k_is)
    (case iSv => k_is)
    (case lSv => k_is)
    (case tSv => k_is)
    (case cdSv => k_is)
    (case lcSv => k_is)
    (case v2Sv => first | rfl | decide +kernel)
    (case fiSv => first | rfl | decide +kernel)
    (case llSv => k_is)
    (case gP => k_is)
    (case xP => k_is)
    (case rvP => first | decide +kernel | rfl)
    (case saP => k_is)
    (case beP => k_is)
    (case tyP => k_is)
    (case kpP => k_is)
    (case suP => first | ks_is | k_is | kernel_rfl)
    (case veP => k_is)
    (case gaP => k_is)
    (case ggP => k_is)
    (case hdP => k_is)
    (case nfP => k_is)
    (case iP => k_is)
    (case lP => k_is)
    (case tP => k_is)
    (case cdP => k_is)
    (case lcP => k_is)
    (case v2P => first | rfl | decide +kernel)
    (case fiP => first | rfl | decide +kernel)
    (case llP => k_is)
    (case nfP2 => k_is)
    (case gU => k_is)
    (case xU => k_is)
    (case saU => k_is)
    (case beU => k_is)
    (case tyU => k_is)
    (case kpU => k_is)
    (case suU => first | ks_is | k_is | kernel_rfl)
    (case veU => k_is)
    (case gaU => k_is)
    (case ggU => k_is)
    (case hdU => k_is)
    (case nfU => k_is)
    (case iU => k_is)
    (case lU => k_is)
    (case tU => k_is)
    (case cdU => k_is)
    (case lcU => k_is)
    (case v2U => first | rfl | decide +kernel)
    (case fiU => first | rfl | decide +kernel)
    (case llU => k_is)
    (case gT => k_is)
    (case xT => k_is)
    (case saT => k_is)
    (case beT => k_is)
    (case tyT => k_is)
    (case kpT => k_is)
    (case suT => first | ks_is | k_is | kernel_rfl)
    (case veT => k_is)
    (case gaT => k_is)
    (case ggT => k_is)
    (case hdT => k_is)
    (case nfT => k_is)
    (case iT => k_is)
    (case lT => k_is)
    (case tT => k_is)
    (case cdT => k_is)
    (case lcT => k_is)
    (case v2T => first | rfl | decide +kernel)
    (case fiT => first | rfl | decide +kernel)
    (case llT => k_is)
    (case s11 => k_is)
    (case s21 => k_is)
    (case s22 => k_is)
    (case s31 => k_is)
    (case s32 => k_is)
    (case s33 => k_is)
    (case s41 => k_is)
    (case s42 => k_is)
    (case s43 => k_is)
    (case s44 => k_is)
