import PyProof.Rows.All
import Wide.All
import OpenK.AllK
import Wide.FinOn
import HandS.ForMost
import HandS.EndBits
import HandS.MakeKwOnly
import HandS.Property
import HandS.IsInst
import HandS.TupMul
import PyProof.ReprRoads
import HandS.Walk
import HandS.ExcInit
import HandS.ExcOwn
import HandS.TryMany
import HandS.ExcField
import HandS.Nested
import KE.KExcSuper
import KE.KDictDisplayH
import KE.KDictWalk
import KE.KDictCopyH
import HandS.Conv
import HandS.ListItems
import HandS.Dict
import HandS.Finally
import HandS.DictComp
import HandS.DeepEq
import KE.KParD
import HandS.Star
import KE.KTab
import KE.DataMinMax
import HandS.SortKw
import HandS.Small
import HandS.Lambda
import HandS.EndTab
import HandS.WordsExc
import KE.KNestM
import KE.KLam
import PySem.Challenge.RW_mostcalls_k04_policies_changed
set_option Elab.async false
set_option maxRecDepth 100000
set_option linter.all false
set_option maxHeartbeats 4000000
namespace Mc
open PySem PySem.Spec PyProof.Rows L2

/-! ### repr of data -/
def rRepr (K : PySem.W.Frag) : List V → Hp → VK → Prop := fun xs H Q =>
  ∃ (a : Addr) (d : PyData), xs = [.ref a] ∧ Dp K H (.ref a) d ∧ d.showable = true ∧ d.hasDict = false ∧ d.depth ≤ 40 ∧ d.shown.length ≤ sizeLine ∧ Q (.str d.shown) H

theorem call_repr {X : Cx} (hg : X.A.guards = some []) (hu : X.A.units + 64 < cLine) : CallR X (.builtin "repr") (rRepr X.K) := by
  intro pins s σ H xs us Q I r h
  obtain ⟨a, d, rfl, hd, hs, hx, hdp, hz, q⟩ := h
  cases r with
  | cons ru rn =>
    cases rn
    cases ru
    obtain ⟨as, R⟩ := Dp.reads I d _ _ hd rfl
    exact repr_of_reads' R hs (fun e => by rw [hx] at e; cases e) hg (by omega) (fun b o e => e)
      (fun h' u tk hk => ⟨.str d.shown, H, I.kept hk, ⟨u, rfl⟩, q⟩) hz

/-! ### a def that is run where no repr is under way -/
structure FnG (P : Program) (w : World) (K : PySem.W.Frag) (mg : Str → Option Value) (base : Heap) (CX : CXT) (k : Nat) (f : Addr) (fd : FuncData) (ps : List Str) (sp : Sp) : Prop where
  len : ∀ vs H Q E, sp vs H Q E → vs.length = ps.length
  run : ∀ (A : Around) (outer : List Env) (s : Shared) (H : Hp) (args : Args) (us : List Value) (vs : List V) (Q : VK) (E : XK),
    A.guards = some [] → Room k A → Env0 P w K mg base A outer s H → BindsTo s fd args (ps.zip us) → Vals vs us → sp vs H Q E →
    codeAny (model P w) A (.call (.ref f) args) (CR CX outer P w H s Q E) s

theorem fnG_of {CX : CXT} {P : Program} {w : World} {K : PySem.W.Frag} {mg : Str → Option Value} {base : Heap} {k : Nat} {f : Addr} {x qual : Str} {st : Stmt} {fd : FuncData}
    {N ps : List Str} {sp : Sp} (F : Fun K x qual st f fd) (S : FnScope N ps (defScope st)) (len : ∀ vs H Q E, sp vs H Q E → vs.length = ps.length)
    (hbody : ∀ (cdv : Value) (A : Around) (outer : List Env) (s : Shared) (H : Hp) (vs : List V) (Q : VK) (E : XK), A.guards = some [] →
      Room k (A.deeper (envOfC qual (defScope st) s.heap.objs.size f cdv)) → sp vs H Q E →
      ∃ t, PSs (cxOf CX P w K mg base N qual (defScope st) f cdv A outer s H E).nox (defBody st) t ∧ t { nx := fun _ H' => Q .non H', rt := Q } (start N vs) H) :
    FnG P w K mg base CX (k + 1) f fd ps sp := by
  obtain ⟨oc, od, kV, doc, pm, an, cdv, ct, osl, rfl, lk, hcd⟩ := F.ex
  constructor
  · exact len
  intro A outer s H args us vs Q E hg room env bind rel want
  have inh : K.In s.heap := env.mod.kin.keeps fun b o e => (env.bs b o e).1
  have nol : s.heap.NoLimit := env.mod.nolimit.keeps fun b o e => (env.bs b o e).1
  have kinds : ∀ y ∈ ps.zip us, (defScope st).names.lookup y.1 = some .local ∨
      ((defScope st).names.lookup y.1 = some .cell ∧ ((cellsFrom (s.heap.objs.size + 1) (defScope st).names []).lookup y.1).isSome = true) := by
    rintro ⟨n, v⟩ hy
    have hn := (List.of_mem_zip hy).1
    rcases S.par n hn with q | q
    · exact Or.inl q
    · exact Or.inr ⟨q, PySem.W.cellsFrom_some _ _ _ (Or.inl q)⟩
  have go := hbody cdv A outer s H vs Q E hg (room.deeper _) want
  obtain ⟨t, ht0, hq⟩ := go
  have ht := ht0.nox
  refine codeAny_call_function room.depth (inh _ _ lk) rfl S.co S.gen rfl (PySem.W.codeRec_of inh hcd) (bind _ _ _ _ ?_)
  refine wpAny_newFunctionEnv_cells S.kind kinds fun en hen s1 inc => ?_
  subst hen
  refine ⟨nol.keeps inc.toInCall.keep, codeAny_func ?_⟩
  have J := inv_start (CX := CX) (E := E) S room.hd env (len _ _ _ _ want) rel inc
  have R := ht.run [] s1 (start N vs) H _ J hq
  refine wpAny_mono R ?_ (fun _ _ z => z)
  intro fl s' z
  cases fl with
  | next => obtain ⟨σ', H', J', q⟩ := z; exact ⟨V.non, H', J'.os, J'.bare, J'.base, J'.hok, rfl, q⟩
  | ret u => obtain ⟨v, σ', H', J', rv, q⟩ := z; exact ⟨v, H', J'.os, J'.bare, J'.base, J'.hok, rv, q⟩
  | brk => obtain ⟨_, _, _, q⟩ := z; exact False.elim q
  | cont => obtain ⟨_, _, _, q⟩ := z; exact False.elim q

/-! ### the law, run by the claim's caller -/
theorem law_run {P : Program} {w : World} {K : PySem.W.Frag} {mg mb : Str → Option Value} {k : Nat} {fa a : Addr} {fd : FuncData} {x : Str} {sp : Sp} {s1 : Shared} {vs : List Value} {ns : List Int}
    (inK : K.In s1.heap) (gl : s1.heap.Ns mainGlobals mg) (bl : s1.heap.Ns builtinsNs mb) (bb : ∀ y : Str, y ≠ "__name__" → mb y = bootBuiltins y) (nl : s1.heap.NoLimit) (ge : s1.gens = #[])
    (obj : s1.heap.get? a = some { cls := .type "list", data := .seq vs.toArray }) (hIn : IntsAre vs ns) (len : ns.length ≤ sizeLine) (room : Room k callerA)
    (F : ∀ base : Heap, K.In base → base.Ns mainGlobals mg → FnG P w K mg base CX0 k fa fd [x] sp) (bnd : ∀ (s : Shared) (u : Value), BindsTo s fd ⟨[u], []⟩ [(x, u)])
    (pr : ∀ H : Hp, Only H → SqL K H a (ns.map V.int) → sp [.ref a] H (fun v _ => v = .bl true) E0) :
    codeAny (model P w) callerA (.call (.ref fa) ⟨[.ref a], []⟩) (fun r s' => r = .ok (.ret (.bool true)) ∧ OldK s1.heap s'.heap ∧ s'.os = s1.os ∧ AllBare s'.gens) s1 := by
  have rel := vals_ints hIn
  have lv := hIn.length
  have main : ∀ H : Hp, Only H → SqL K H a (ns.map V.int) → HOk P w H s1.heap → (∀ b, H b ≠ none → b = a) → (H a ≠ none → K.lookup a = none) →
      codeAny (model P w) callerA (.call (.ref fa) ⟨[.ref a], []⟩) (fun r s' => r = .ok (.ret (.bool true)) ∧ OldK s1.heap s'.heap ∧ s'.os = s1.os ∧ AllBare s'.gens) s1 := by
    intro H onl sq hok onlyA freeK
    have noD : ∀ {b : Addr} {o : Obj} {es : Array DictEntry} {n : Nat}, s1.heap.get? b = some o → o.data = .dict es n → H b = none := by
      intro b o es n e d
      rcases hq : H b with _ | u
      · rfl
      · have eb : b = a := onlyA b (by rw [hq]; intro z; cases z)
        rw [eb, obj] at e
        cases e
        exact Data.noConfusion d
    have keepNs : ∀ {b : Addr} {m : Str → Option Value}, s1.heap.Ns b m → (hidT s1.heap H).Ns b m := by
      rintro b m ⟨o, es, n, e, d, r⟩
      exact ⟨o, es, n, hidT_get e (noD e d), d, r⟩
    have inB : K.In (hidT s1.heap H) := by
      intro b o e
      refine hidT_get (inK b o e) ?_
      rcases hq : H b with _ | u
      · rfl
      · have nn : H b ≠ none := by rw [hq]; intro z; cases z
        have eb := onlyA b nn
        rw [eb] at nn e
        rw [freeK nn] at e
        cases e
    obtain ⟨mc, c1, c2⟩ := nl
    have md : Mod K mg (hidT s1.heap H) := ⟨inB, keepNs gl, ⟨mb, keepNs bl, bb⟩, ⟨mc, keepNs c1, c2⟩⟩
    have env : Env0 P w K mg (hidT s1.heap H) callerA [] s1 H :=
      ⟨rfl, md, fun b o e => of_hidT e, Nat.le_of_eq (hidT_size _ _), trivial, (fun b hb => (List.not_mem_nil (show b ∈ ([] : List Addr) from hb)).elim), hok, AllBare.of_eq ge⟩
    have R := (F _ inB (keepNs gl)).run callerA [] s1 H ⟨[.ref a], []⟩ [.ref a] [.ref a] (fun v _ => v = .bl true) E0 rfl room env (bnd s1 (.ref a)) (.cons rfl .nil) (pr H onl sq)
    refine codeAny_mono R ?_
    intro r s' z
    match r, z with
    | .ok (.ret u), z =>
      obtain ⟨v, H', eo, br, un, hok', rv, ev⟩ := z
      subst ev
      cases rv
      refine ⟨rfl, OldK.of_keep ?_, eo, br⟩
      intro b o e
      rcases hq : H b with _ | u
      · exact un.keep b o e hq (fun z => (List.not_mem_nil (show b ∈ ([] : List Addr) from z)).elim) (fun z => (List.not_mem_nil z).elim)
      · rcases onl b with q | ⟨ob, xs, q⟩
        · rw [hq] at q
          cases q
        · have f1 := (hok b _ q).1
          have f2 := (hok' b _ (un.frzs b ob _ q)).1
          rw [e] at f1
          cases f1
          exact f2
  rcases hk : K.lookup a with _ | o
  · let H : Hp := fun b => if b = a then some (.frz { cls := .type "list", data := .seq vs.toArray } (.lst (ns.map V.int))) else none
    have at_a : H a = some (.frz { cls := .type "list", data := .seq vs.toArray } (.lst (ns.map V.int))) := if_pos rfl
    have off : ∀ b, b ≠ a → H b = none := fun b hb => if_neg hb
    refine main H (fun b => ?_) (.inl (.inr ⟨_, at_a⟩)) (fun b u z => ?_) (fun b z => ?_) (fun _ => hk)
    · by_cases hb : b = a
      · subst hb
        exact Or.inr ⟨_, _, at_a⟩
      · exact Or.inl (off b hb)
    · by_cases hb : b = a
      · subst hb
        rw [at_a] at z
        cases z
        exact ⟨obj, by rw [List.length_map]; exact len, vs, _, rel, obj⟩
      · rw [off b hb] at z
        cases z
    · by_cases hb : b = a
      · exact hb
      · exact absurd (off b hb) z
  · have e := inK a o hk
    rw [obj] at e
    cases e
    refine main (fun _ => none) (fun _ => Or.inl rfl) (Or.inr ⟨_, vs.toArray, _, hk, rfl, rfl, rfl, ?_, by simpa using rel⟩) (fun b u z => nomatch z) (fun b z => absurd rfl z) (fun z => absurd rfl z)
    rw [List.size_toArray, lv]
    exact len

theorem walk_run {l : PySem.W.OpenLaw} {n k : Nat} {q : Program} {loose : List Str} {XP : (Str → Option Value) → Heap → Prop} {YP : World → Heap → Prop} {d : DefRec} {K : Params → PySem.W.Frag} {sp : PySem.W.Frag → Sp} {x : Str}
    (hn : l.most = some n) (hn2 : n ≤ sizeLine) (hdf : d.params.defaults = []) (room : Room k callerA) (hY : ∀ (w : World) (h : Heap), YP w h → (K w.params).In h)
    (F : ∀ (w : World) (mg : Str → Option Value) (fa : Addr) (h : Heap), (K w.params).In h → h.Ns mainGlobals mg → mg d.name = some (.ref fa) →
      ∃ fd : FuncData, (∀ (s : Shared) (u : Value), BindsTo s fd ⟨[u], []⟩ [(x, u)]) ∧
        ∀ base : Heap, (K w.params).In base → base.Ns mainGlobals mg → FnG l.prog w (K w.params) mg base CX0 k fa fd [x] (sp (K w.params)))
    (pr : ∀ (K : PySem.W.Frag) (H : Hp) (a : Addr) (ns : List Int), ns.length ≤ n → (∀ z ∈ ns, Builtin.Int.intBits z ≤ 1048576) → SqL K H a (ns.map V.int) → sp K [.ref a] H (fun v _ => v = .bl true) E0) :
    PySem.W.WalkO q loose XP YP l.row.toRowW d [] (fun f vs => PySem.call f vs) := by
  refine Att.attach_callB hn hdf ?_
  intro w s0 s1 mg mb fa o pm cd doc a vs ns G Y ho hd hcd hmg hobj hints hlen hbits hg
  obtain ⟨fd, hb, hF⟩ := F w mg fa _ (hY w _ Y) G.T.g hmg
  exact law_run (hY w _ Y) G.T.g G.T.b G.T.builtins G.T.nolimit hg hobj hints (Nat.le_trans hlen hn2) room hF hb (fun H _ hS => pr _ H a ns hlen hbits hS)
end Mc

namespace Mc
open PySem PySem.Spec PyProof.Rows L2

/-! ### == and != of an instance with the text's own `__eq__` -/
/-- the other side's type -/
inductive RT (H : Hp) : V → Value → Prop where
  | non : RT H .non (.type "NoneType")
  | int (i : Int) : RT H (.int i) (.type "int")
  | bl (b : Bool) : RT H (.bl b) (.type "bool")
  | str (z : Str) : RT H (.str z) (.type "str")
  | lst {a : Addr} {xs : List V} (e : H a = some (.lst xs)) : RT H (.ref a) (.type "list")
  | dK {a : Addr} {xs : List (Key × V)} (e : H a = some (.dK xs)) : RT H (.ref a) (.type "dict")
  | ins {a C dx : Addr} {fs : List (Str × V)} (e : H a = some (.ins C dx fs)) : RT H (.ref a) (.ref C)

theorem typ_at {M : Model} {h : Heap} {y : Addr} {o : Obj} {c : Value} (ho : h.get? y = some o) (hc : o.cls = c) : PySem.W.Looks M h (typeOf (.ref y)) c :=
  hc ▸ (PySem.W.Looks.ld ho).andThen .now

theorem RT.looks {X : Cx} {pins : List (Addr × Obj)} {σ : L2.St} {H : Hp} {s : Shared} {M : Model} {y : V} {u t : Value} (I : Inv X pins σ H s) (r : RT H y t) (ru : RelV y u) : PySem.W.Looks M s.heap (typeOf u) t := by
  cases r with
  | non => cases (show u = Value.none from ru); exact PySem.W.Looks.of_pure rfl
  | int i => obtain ⟨k, q⟩ := (show ∃ k, u = Value.int i k from ru); cases q; exact PySem.W.Looks.of_pure rfl
  | bl b => cases (show u = Value.bool b from ru); exact PySem.W.Looks.of_pure rfl
  | str z => obtain ⟨k, q⟩ := (show ∃ k, u = Value.str z k from ru); cases q; exact PySem.W.Looks.of_pure rfl
  | @lst a xs e =>
    cases (show u = Value.ref a from ru)
    obtain ⟨_, _, n, _, h1⟩ := (show ObjOk X.prog X.w H s.heap a (.lst xs) from I.hok a _ e)
    exact typ_at h1 rfl
  | @dK a xs e =>
    cases (show u = Value.ref a from ru)
    obtain ⟨_, _, vs, _, o, es, ep, h1, h2, _⟩ := (show ObjOk X.prog X.w H s.heap a (.dK xs) from I.hok a _ e)
    exact typ_at h1 h2.1
  | @ins a C dx fs e =>
    cases (show u = Value.ref a from ru)
    obtain ⟨mA, J, _⟩ := ins_get I.hok e
    obtain ⟨od, J, _⟩ := J.look
    exact J.type

theorem nf_ins {K : PySem.W.Frag} {C : Addr} : PySem.W.notFirst K C (.ref C) = true := by simp [PySem.W.notFirst]
theorem nf_ty {K : PySem.W.Frag} {C : Addr} {n : String} {l : List Value} (e : fastBuiltinMro n = some l) (hl : l.contains (.ref C) = false) : PySem.W.notFirst K C (.type n) = true := by
  have q : PySem.W.subIn K (.type n) (.ref C) = some false := by
    show (fastBuiltinMro n).map (·.contains (.ref C)) = some false
    rw [e, Option.map_some, hl]
  simp [PySem.W.notFirst, q]
theorem nf_none {K : PySem.W.Frag} {C : Addr} : PySem.W.notFirst K C (.type "NoneType") = true := nf_ty (l := [.type "NoneType", .type "object"]) (by decide +kernel) (by simp)
theorem nf_int {K : PySem.W.Frag} {C : Addr} : PySem.W.notFirst K C (.type "int") = true := nf_ty (l := [.type "int", .type "object"]) (by decide +kernel) (by simp)
theorem nf_list {K : PySem.W.Frag} {C : Addr} : PySem.W.notFirst K C (.type "list") = true := nf_ty (l := [.type "list", .type "object"]) (by decide +kernel) (by simp)

section
variable {prog : Program} {w : World} {A : Around} {E : Value → Shared → Prop} {s : Shared} {K : PySem.W.Frag} {x C L f : Addr} {h0 : Heap} {m : Str → Option Value} {ox : Obj} {od : Option Obj} {b tb : Value}
open PySem.W
theorem bound_ne {M : Model} {args : List Value} {Q : Option Value → Shared → Prop} (X : K.In s.heap) (I : InstAt s.heap x ox C od) (hs : findIn K (.ref C) "__ne__" = some (some (.builtin "object.__ne__")))
    (h : wpAny M A (call (.builtin "object.__ne__") (.ref x :: args)) (fun v => Q (some v)) E s) : wpAny M A (callSpecialIfBound? (.ref x) "__ne__" args) Q E s := by
  have all : wpAny M A (call (.builtin "object.__ne__") ([.ref x] ++ args) >>= fun v => pure (some v)) Q E s :=
    wpAny_bind (wpAny_mono h (fun v s' q => wpAny_pure q) (fun _ _ q => q))
  simp only [callSpecialIfBound?, bindSpecialIfBound?]
  refine wpAny_holding (wpAny_bind (wpAny_bind (wpAny_bind (I.type.here ((looks_findIn X hs).here ?_)))))
  refine wpAny_bind (wpAny_askSetting (wpAny_ite ?_))
  split
  · exact wpAny_bind (wpAny_of_eq (F.cmp_object.ne.bind _) (wpAny_pure (by exact all)))
  · exact wpAny_tryCatch (wpAny_bind (wpAny_of_eq (F.cmp_object.ne.bind _) (wpAny_pure (by exact all))))

theorem ne_body (hu : A.units < cLine) (X : K.In s.heap) (I : InstAt s.heap x ox C od) (he : findIn K (.ref C) "__eq__" = some (some (.ref f))) (hf : isFn K (.ref f) = true) {Q : Fin → Shared → Prop}
    (h : wpAny (model prog w) A (call (.ref f) [.ref x, b]) (fun v s' => ∃ r, v = .bool r ∧ Q (.done (.ret (.bool (!r)))) s') E s) :
    wpAny (model prog w) A (Builtin.«object.__ne__» ⟨[.ref x, b], []⟩) Q E s := by
  unfold Builtin.«object.__ne__»
  repeat (first
    | with_reducible refine wpAny_cRoomFor hu ?_
    | (refine wpAny_bind (m := callSpecialIfBound? (.ref x) (Str.ofString "__eq__") [b]) (ifBound_K X I he hf (wpAny_mono h (fun v s' q => ?_) fun _ _ e => e)); obtain ⟨r, rfl, q⟩ := q)
    | exact q
    | exact wpAny_pure q
    | (refine wpAny_bind (m := truthy (.bool _)) (wpAny_truthy_bool ?_))
    | wp_step)

theorem ne_K (hu : A.units + 1 < cLine) (Fm : Fr h0 L s.heap m) (X0 : K.In h0) (I : InstAt s.heap x ox C od) (hb : Looks (model prog w) s.heap (typeOf b) tb) (hn : notFirst K C tb = true)
    (hs : findIn K (.ref C) "__ne__" = some (some (.builtin "object.__ne__"))) (he : findIn K (.ref C) "__eq__" = some (some (.ref f))) (hf : isFn K (.ref f) = true) (hm : mroIn K C (.type "object") = some true)
    {Q : Value → Shared → Prop} (h : wpAny (model prog w) A.in1 (call (.ref f) [.ref x, b]) (fun v s' => ∃ r, v = .bool r ∧ Q (.bool (!r)) s') E s) :
    wpAny (model prog w) A (richCompare .NotEq (.ref x) b) Q E s := by
  have X := X0.keeps Fm.keep
  have one : wpAny (model prog w) A (tryCompare (.ref x) (cmpInfo .NotEq).2.1 b) (fun r s' => ∃ v, r = some v ∧ Q v s') E s := by
    unfold tryCompare
    refine wpAny_bind (bound_ne X I hs (wpAny_call (codeAny_call_builtin F.cmp_object.ne.plain F.cmpEntry_ne (check_slot F.cmpKind_ne F.cmpSplit_ne (I.type.andThen (looks_mroIn X hm)) (F.cmpArgs_ne _ _) ?_))))
    refine ne_body (A := A.in1) (by show A.units + 1 < cLine; exact hu) X I he hf (wpAny_mono h (fun v s' q => ?_) fun _ _ e => e)
    obtain ⟨r, rfl, q⟩ := q
    first | exact ⟨r, rfl, wpAny_pure ⟨_, rfl, q⟩⟩ | exact ⟨r, rfl, ⟨_, rfl, q⟩⟩ | exact ⟨r, rfl, wpAny_pure (wpAny_pure ⟨_, rfl, q⟩)⟩
  unfold richCompare
  simp only [oneThing_ref]
  refine wpAny_holding (wpAny_bind (wpAny_cRoomFor (Nat.lt_of_succ_lt hu) ?_))
  refine wpAny_bind (I.type.here (wpAny_bind (hb.here ?_)))
  have fin : wpAny (model prog w) A (tryCompare (.ref x) (cmpInfo .NotEq).2.1 b) (fun r s' => ∃ v, r = some v ∧ Q v s') E s := one
  split
  · rename_i q
    have e : subIn K tb (.ref C) = some false := by
      rcases Bool.or_eq_true_iff.mp hn with e | e
      · rw [beq_iff_eq.mp e] at q
        simp at q
      · exact beq_iff_eq.mp e
    refine wpAny_bind ((looks_subIn X e).here ?_)
    simp only [Bool.false_eq_true, if_false]
    refine wpAny_bind (wpAny_mono one ?_ fun _ _ e => e)
    rintro r s' ⟨v, rfl, hq⟩
    exact wpAny_pure hq
  · refine wpAny_bind (wpAny_pure ?_)
    simp only [Bool.false_eq_true, if_false]
    refine wpAny_bind (wpAny_mono one ?_ fun _ _ e => e)
    rintro r s' ⟨v, rfl, hq⟩
    exact wpAny_pure hq
end

section
variable {X : Cx} {CX : CXT} {k : Nat} {C f : Addr} {fd : FuncData} {ps : List Str} {sp : Sp} {E : XK}
/-- the way a def is run from within, at another place that has the same frames -/
theorem run_in {A : Around} {pins : List (Addr × Obj)} {σ : L2.St} {H : Hp} {s : Shared} {Q : VK} {us : List Value} {vs : List V} (fr : A.frames = X.A.frames) (G : FnOk X.prog X.w X.K X.mg X.base CX k f fd ps sp) (hr : Room k A)
    (hb : Binds X.K fd ps []) (hx : Passes CX X E) (I : Inv X pins σ H s) (r : Vals vs us) (h : sp vs H Q E) : wpAny (model X.prog X.w) A (call (.ref f) us) (EP X pins σ Q) X.xe s := by
  have e0 : Env0 X.prog X.w X.K X.mg X.base A X.stack s H := by
    have e := I.env0
    exact ⟨fr.trans e.frames, e.mod, e.bs, e.bsz, e.funs, e.frf, e.hok, e.bare⟩
  have hl : (us ++ ([] : List Value)).length = ps.length := by
    rw [List.append_nil, ← r.length]
    exact G.len _ _ _ _ h
  have bd := hb s us I.kIn hl
  rw [List.append_nil] at bd
  refine wpAny_call (codeAny_mono (G.run A X.stack s H ⟨us, []⟩ us vs Q E hr e0 bd r h) ?_)
  intro z s' hz
  match z, hz with
  | .error e, hz => exact hx pins σ H s e s' I hz
  | .ok (.ret u), hz => exact I.after hz

def rCmpO (C : Addr) (sp : Sp) (E : XK) (K : PySem.W.Frag) (neg : Bool) : R2 := fun x y H Q => ∃ (a dx : Addr) (fs : List (Str × V)) (t : Value), x = .ref a ∧ H a = some (.ins C dx fs) ∧ RT H y t ∧ PySem.W.notFirst K C t = true ∧
  sp [x, y] H (fun v H' => ∃ b, v = .bl b ∧ Q (.bl (if neg then !b else b)) H') E

structure OwnCmp (K : PySem.W.Frag) (C f : Addr) : Prop where
  eq : PySem.W.findIn K (.ref C) "__eq__" = some (some (.ref f))
  fn : PySem.W.isFn K (.ref f) = true
  ne : PySem.W.findIn K (.ref C) "__ne__" = some (some (.builtin "object.__ne__"))
  ob : PySem.W.mroIn K C (.type "object") = some true

theorem op_eqO (G : FnOk X.prog X.w X.K X.mg X.base CX k f fd ps sp) (O : OwnCmp X.K C f) (hb : Binds X.K fd ps []) (hx : Passes CX X E) (hr : Room k X.A) : OpR X (compareOp .Eq) (rCmpO C sp E X.K false) := by
  intro pins s σ H x y u v Q I rx ry h
  obtain ⟨a, dx, fs, t, rfl, ha, rt, nf, q⟩ := h
  cases rx
  obtain ⟨mA, J, _⟩ := ins_get I.hok ha
  obtain ⟨od, J, _⟩ := J.look
  obtain ⟨m, hF⟩ := I.fr
  show wpAny (model X.prog X.w) X.A (richCompare .Eq (.ref a) v) (EP X pins σ Q) X.xe s
  refine PySem.W.cmp_K (op := .Eq) (tb := t) hr.units0 hF I.ok.mod.kin J (rt.looks I ry) nf O.eq O.fn ?_
  refine thn (run_in rfl G hr hb hx I (.cons (show RelV (.ref a) (.ref a) from rfl) (.cons ry .nil)) q) ?_
  rintro w s' ⟨z, H', I', rz, b, rfl, q'⟩
  cases rz
  exact ⟨.bl b, H', I', rfl, q'⟩

theorem op_neO (G : FnOk X.prog X.w X.K X.mg X.base CX k f fd ps sp) (O : OwnCmp X.K C f) (hb : Binds X.K fd ps []) (hx : Passes CX X E) (hr : Room (k + 1) X.A) : OpR X (compareOp .NotEq) (rCmpO C sp E X.K true) := by
  intro pins s σ H x y u v Q I rx ry h
  obtain ⟨a, dx, fs, t, rfl, ha, rt, nf, q⟩ := h
  cases rx
  obtain ⟨mA, J, _⟩ := ins_get I.hok ha
  obtain ⟨od, J, _⟩ := J.look
  obtain ⟨m, hF⟩ := I.fr
  show wpAny (model X.prog X.w) X.A (richCompare .NotEq (.ref a) v) (EP X pins σ Q) X.xe s
  refine ne_K (tb := t) (by have := hr.units; omega) hF I.ok.mod.kin J (rt.looks I ry) nf O.ne O.eq O.fn O.ob ?_
  refine thn (run_in (A := X.A.in1) rfl G hr.in1 hb hx I (.cons (show RelV (.ref a) (.ref a) from rfl) (.cons ry .nil)) q) ?_
  rintro w s' ⟨z, H', I', rz, b, rfl, q'⟩
  cases rz
  exact ⟨b, rfl, .bl (!b), H', I', rfl, q'⟩
end
end Mc

namespace Mc
open PySem PySem.Spec PyProof.Rows L2
open AutoSeq1 (wpAny_loadPart')

/-! ### a tuple times nought or one -/
theorem mul_nought (l : Addr) (y : Value) (n : Nat) (dd : Option Addr) (sl : Array (Option Value)) (u : Tok) :
    Meets (Builtin.«tuple.__mul__» ⟨[.ref l, .int 0 u], []⟩) (fun _ R s => s.heap.get? l = some { cls := .type "tuple", dict := dd, data := .seq #[y] n, slots := sl } ∧
      R (.ok (.ret (Value.ref s.heap.objs.size))) { s with heap := s.heap.push { cls := Value.type "tuple", data := Data.seq #[] }, toks := s.toks }) := by
  refine .of_wp ?_
  rintro prog w A R ⟨hp, g, d, tk, os⟩ ⟨hl, h⟩
  have f1 := AutoSeq1.idx_int
  wp_walk using wpAny_loadPart' hl
  exact ⟨_, rfl, h⟩
theorem mul_single (l : Addr) (y : Value) (n : Nat) (dd : Option Addr) (sl : Array (Option Value)) (u : Tok) :
    Meets (Builtin.«tuple.__mul__» ⟨[.ref l, .int 1 u], []⟩) (fun _ R s => s.heap.get? l = some { cls := .type "tuple", dict := dd, data := .seq #[y] n, slots := sl } ∧
      R (.ok (.ret (Value.ref l))) s) := by
  refine .of_wp ?_
  rintro prog w A R ⟨hp, g, d, tk, os⟩ ⟨hl, h⟩
  have f1 := AutoSeq1.idx_int
  wp_walk using wpAny_loadPart' hl
  exact ⟨_, rfl, h⟩

/-- (v,) * k, k of 0, 1, 2 -/
def rRepS (K : PySem.W.Frag) : R2 := fun x y H Q => ∃ (l : Addr) (k : Int) (v : V), x = .ref l ∧ y = .int k ∧ SqT K H l [v] ∧ 0 ≤ k ∧ k ≤ 1000 ∧
  (k = 1 → Q (.ref l) H) ∧ (k ≠ 1 → ∀ p, H p = none → Q (.ref p) (upd H p (.tup (List.replicate k.toNat v))))

theorem op_repS {X : Cx} : OpR X (binaryOp .Mult) (rRepS X.K) := by
  intro pins s σ H x y v u Q I rx ry h
  obtain ⟨l, k, z, rfl, rfl, hT, k0, k1, q1, q2⟩ := h
  by_cases hk : 2 ≤ k
  · refine op_repT pins s σ H (.ref l) (.int k) v u Q I rx ry ⟨l, k, [z], rfl, rfl, hT, by simp, hk, k1, (by show 1 ≤ 1000; decide), fun p hp => ?_⟩
    have e : (List.replicate k.toNat [z]).flatten = List.replicate k.toNat z := by
      generalize k.toNat = n
      induction n with
      | zero => rfl
      | succ n ih => rw [List.replicate_succ, List.flatten_cons, ih, List.replicate_succ]; rfl
    rw [e]
    exact q2 (by omega) p hp
  · cases rx
    obtain ⟨t, rfl⟩ := ry
    obtain ⟨its, r, ⟨⟨cls, dd, data, sl⟩, ho, hc, n, hd⟩, hs⟩ := I.tuple hT
    simp only at hc hd
    subst hc hd
    match its, r with
    | [y], .cons ry .nil =>
      have hk' : k = 0 ∨ k = 1 := by omega
      rcases hk' with rfl | rfl
      · refine wpAny_binaryOp_repeat_ref (T := "tuple") (U := "int") (by decide) ⟨_, ho, rfl⟩ (fun s' => typeIs_int s' 0 t) noFill_tuple_mul F.fills_int_mul F.slot_int_rmul repeat_tuple F.slot_int_index.lookup
          (call_meets F.slot_int_rmul (typeIs_int s 0 t) F.entry_int_rmul (F.args_int_rmul_2 _ _) (int_rmul_tuple 0 t l #[y] n dd sl)
            ⟨ho, rfl, ⟨_, ho, rfl⟩, call_meets F.slot_tuple_mul ⟨_, ho, rfl⟩ F.entry_tuple_mul (F.args_tuple_mul_2 _ _) (mul_nought l y n dd sl t) ⟨ho, ?_⟩⟩)
        refine ⟨.ref s.heap.objs.size, _, I.laid (t' := s.toks) (o := .tup []) (fun b ob q => Heap.get?_push_of_some _ q) (Nat.le_refl _) ?_, rfl, q2 (by decide) _ (I.hok.fresh (Nat.le_refl _))⟩
        exact ⟨Nat.zero_le _, _, .nil, IsTup.new _ _⟩
      · refine wpAny_binaryOp_repeat_ref (T := "tuple") (U := "int") (by decide) ⟨_, ho, rfl⟩ (fun s' => typeIs_int s' 1 t) noFill_tuple_mul F.fills_int_mul F.slot_int_rmul repeat_tuple F.slot_int_index.lookup
          (call_meets F.slot_int_rmul (typeIs_int s 1 t) F.entry_int_rmul (F.args_int_rmul_2 _ _) (int_rmul_tuple 1 t l #[y] n dd sl)
            ⟨ho, rfl, ⟨_, ho, rfl⟩, call_meets F.slot_tuple_mul ⟨_, ho, rfl⟩ F.entry_tuple_mul (F.args_tuple_mul_2 _ _) (mul_single l y n dd sl t) ⟨ho, ?_⟩⟩)
        exact ⟨.ref l, H, I, rfl, q1 rfl⟩
end Mc

namespace Mc
open PySem PySem.Spec PyProof.Rows L2

/-- a new tuple, a new list -/
abbrev TupG (Q : VK) (xs : List V) (H1 : Hp) : Prop := xs.length ≤ sizeLine ∧ ∀ p, H1 p = none → Q (.ref p) (upd H1 p (.tup xs))
abbrev LstG (Q : VK) (xs : List V) (H1 : Hp) : Prop := xs.length ≤ sizeLine ∧ ∀ p, H1 p = none → Q (.ref p) (upd H1 p (.lst xs))
section
variable {σ : L2.St} {H : Hp} {Q : VK} {QB : Bool → Hp → Prop} {QA : List V → Hp → Prop} {QS : L2.St → Hp → Prop} {D : Ends} {ta tb te : TE} {tt tu : TT} {t u : TS} {tr tk : TA} {r : R2} {v x y : V} {i : Nat} {K : PySem.W.Frag}
theorem g_var (h : σ[i]? = some (some v)) (q : Q v H) : tVar i σ H Q := ⟨v, h, q⟩
theorem g_c (q : Q v H) : tC v σ H Q := q
theorem g_op (q : ta σ H fun x H1 => tb σ H1 fun y H2 => r x y H2 Q) : tOp r ta tb σ H Q := q
theorem g_un {r : V → Hp → VK → Prop} (q : ta σ H fun x H1 => r x H1 Q) : tUn r ta σ H Q := q
theorem g_test (q : te σ H fun x H' => ∃ k, x = .bl k ∧ QB k H') : tTest te σ H QB := q
theorem g_B (q : te σ H fun x H' => ∃ k, x = .bl k ∧ QB k H') : tB te σ H QB := q
theorem g_bl {b : Bool} (q : QB b H) : ∃ k, V.bl b = .bl k ∧ QB k H := ⟨b, rfl, q⟩
theorem g_blV {b : Bool} {P : Bool → Prop} (q : P b) : ∃ k, V.bl b = .bl k ∧ P k := ⟨b, rfl, q⟩
theorem g_ifS (q : tt σ H fun b H1 => if b = true then t D σ H1 else u D σ H1) : tIfS tt t u D σ H := q
theorem g_if (q : tt σ H fun c H1 => if c = true then ta σ H1 Q else tb σ H1 Q) : tIf tt ta tb σ H Q := q
theorem g_not (q : tt σ H fun c H1 => QB (!c) H1) : tNot tt σ H QB := q
theorem g_and (q : tt σ H fun c H1 => if c = true then tu σ H1 QB else QB false H1) : tAnd tt tu σ H QB := q
theorem g_or (q : tt σ H fun c H1 => if c = true then QB true H1 else tu σ H1 QB) : tOr tt tu σ H QB := q
theorem g_notV (q : ta σ H fun x H1 => ∃ c, x = .bl c ∧ Q (.bl (!c)) H1) : tNotV ta σ H Q := q
theorem g_andV (q : ta σ H fun x H1 => ∃ c, x = .bl c ∧ if c = true then tb σ H1 Q else Q (.bl false) H1) : tAndV ta tb σ H Q := q
theorem g_orV (q : ta σ H fun x H1 => ∃ c, x = .bl c ∧ if c = true then Q (.bl true) H1 else tb σ H1 Q) : tOrV ta tb σ H Q := q
theorem g_seq (q : t { D with nx := u D } σ H) : tSeq t u D σ H := q
theorem g_next (q : D.nx σ H) : tNext D σ H := q
theorem g_asg {g : TG} (q : te σ H fun x H1 => g x σ H1 D.nx) : tAsg te g D σ H := q
theorem g_name (q : QS (σ.set i (some v)) H) : gName i v σ H QS := q
theorem g_drop (q : te σ H fun _ H1 => D.nx σ H1) : tDrop te D σ H := q
theorem g_ret (q : te σ H D.rt) : tRet te D σ H := q
theorem g_retN (q : D.rt .non H) : tRetN D σ H := q
theorem g_brk (q : D.bk σ H) : tBreak D σ H := q
theorem g_cont (q : D.ct σ H) : tCont D σ H := q
theorem g_call {sp : Sp} {dvs : List V} {E : XK} (q : tr σ H fun vs H1 => sp (vs ++ dvs) H1 Q E) : tCall sp dvs E tr σ H Q := q
theorem g_cb {r : List V → Hp → VK → Prop} (q : tr σ H fun vs H1 => r vs H1 Q) : tCB r tr σ H Q := q
theorem g_nil (q : QA [] H) : tNil σ H QA := q
theorem g_cons (q : te σ H fun x H1 => tr σ H1 fun xs H2 => QA (x :: xs) H2) : tCons te tr σ H QA := q
theorem g_tup (q : tr σ H fun xs H1 => TupG Q xs H1) : tTup tr σ H Q := q
theorem g_lst (q : tr σ H fun xs H1 => LstG Q xs H1) : tLst tr σ H Q := q
theorem g_prop {C : Addr} {sp : Sp} {dvs : List V} {E : XK} (q : ta σ H fun x H1 => ∃ a dx fs, x = .ref a ∧ H1 a = some (.ins C dx fs) ∧ sp (.ref a :: dvs) H1 Q E) : tProp C sp dvs E ta σ H Q := q
theorem g_fld {f : Str} (q : ta σ H fun x H1 => ∃ a C dx fs v, x = .ref a ∧ H1 a = some (.ins C dx fs) ∧ Cls K C ∧ NoAttr K C f ∧ fs.lookup f = some v ∧ Q v H1) : tFld K ta f σ H Q := q
theorem g_meth {C : Addr} {m : Str} {sp : Sp} {dvs : List V} {E : XK} (q : ta σ H fun x H1 => ∃ a dx fs, x = .ref a ∧ H1 a = some (.ins C dx fs) ∧ fs.lookup m = none ∧
  tr σ H1 fun vs H2 => sp (x :: (vs ++ dvs)) H2 Q E) : tMeth C m sp dvs E ta tr σ H Q := q
theorem g_eq {x y : V} (h : scal x y = true) (q : Q (.bl (decide (x = y))) H) : rEq x y H Q := ⟨h, q⟩
theorem g_ne {x y : V} (h : scal x y = true) (q : Q (.bl (!decide (x = y))) H) : rNe x y H Q := ⟨h, q⟩
theorem g_I0 {g : Int → Int → V} {a b : Int} (q : Q (g a b) H) : rI0 g (.int a) (.int b) H Q := ⟨a, b, rfl, rfl, q⟩
theorem g_I {C : Int → Int → Prop} {g : Int → Int → V} {a b : Int} (h : C a b) (q : Q (g a b) H) : rI C g (.int a) (.int b) H Q := ⟨a, b, rfl, rfl, h, q⟩
theorem g_iteT {A B : Prop} (h : A) : if true = true then A else B := by rw [if_pos rfl]; exact h
theorem g_iteF {A B : Prop} (h : B) : if false = true then A else B := by rw [if_neg Bool.false_ne_true]; exact h
theorem g_add {a b : Int} (q : Q (.int (a + b)) H) : rAdd (.int a) (.int b) H Q := ⟨a, b, rfl, rfl, q⟩
theorem g_sub {a b : Int} (q : Q (.int (a - b)) H) : rSub (.int a) (.int b) H Q := ⟨a, b, rfl, rfl, q⟩
theorem g_lc {r : List V → Hp → VK → Prop} (q : tr σ H fun vs H1 => r vs H1 Q) : tCB r tr σ H Q := q
theorem g_bm {T : String} {r : V → List V → Hp → VK → Prop} (q : te σ H fun x H1 => tyV K T x H1 ∧ tr σ H1 fun xs H2 => r x xs H2 Q) : tBM K T r te tr σ H Q := q
theorem g_ixL {p : Addr} {xs : List V} {k : Int} (h : SqL K H p xs) (e : atI xs k = some v) (q : Q v H) : rIxL K (.ref p) (.int k) H Q := ⟨p, xs, k, v, rfl, rfl, h, e, q⟩
theorem g_ixT {p : Addr} {xs : List V} {k : Int} (h : SqT K H p xs) (e : atI xs k = some v) (q : Q v H) : rIxT K (.ref p) (.int k) H Q := ⟨p, xs, k, v, rfl, rfl, h, e, q⟩
end

/-- one step of a reading -/
local macro_rules | `(tactic| walk_at "rd1") => `(tactic| first
  | with_reducible refine g_seq ?_
  | with_reducible refine g_asg ?_
  | with_reducible refine g_name ?_
  | with_reducible refine g_c ?_
  | with_reducible refine g_op ?_
  | with_reducible refine g_ifS ?_
  | with_reducible refine g_if ?_
  | with_reducible refine g_test ?_
  | with_reducible refine g_B ?_
  | with_reducible refine g_bl ?_
  | with_reducible refine g_blV ?_
  | with_reducible refine g_not ?_
  | with_reducible refine g_and ?_
  | with_reducible refine g_or ?_
  | with_reducible refine g_notV ?_
  | with_reducible refine g_andV ?_
  | with_reducible refine g_orV ?_
  | with_reducible refine g_ret ?_
  | with_reducible refine g_drop ?_
  | with_reducible refine g_next ?_
  | with_reducible refine g_retN ?_
  | with_reducible refine g_call ?_
  | with_reducible refine g_cb ?_
  | with_reducible refine g_cons ?_
  | with_reducible refine g_nil ?_
  | with_reducible refine g_tup ?_
  | with_reducible refine g_lst ?_
  | with_reducible refine g_prop ?_
  | with_reducible refine g_fld ?_
  | with_reducible refine g_meth ?_
  | with_reducible refine g_un ?_
  | with_reducible refine g_bm ?_
  | with_reducible refine g_iteT ?_
  | with_reducible refine g_iteF ?_
  | with_reducible refine g_I0 ?_
  | with_reducible refine g_add ?_
  | with_reducible refine g_sub ?_
  | ((with_reducible refine' g_var ?hv ?_); (case hv => rfl))
  | ((with_reducible refine g_eq ?hv ?_); (case hv => rfl))
  | ((with_reducible refine g_ne ?hv ?_); (case hv => rfl)))
local macro_rules | `(tactic| walk_at "rd") => `(tactic| repeat (walk_at "rd1"))

example {X : Cx} {Q : VK} {H : Hp} (q : Q (.int 5) H) : (tSeq (tAsg (tOp rAdd (tC (.int 2)) (tC (.int 3))) (gName 0)) (tRet (tVar 0))) { nx := fun _ _ => False, rt := Q } [none] H := by
  walk_at "rd"
  exact q
end Mc

namespace Mc
open PySem PySem.Spec PyProof.Rows L2

/-! ### defs and their calls -/
structure Def (K : PySem.W.Frag) (mg : Str → Option Value) (x : Str) (st : Stmt) (ps : List Str) : Prop where
  ex : ∃ (f : Addr) (fd : FuncData), Fun K x x st f fd ∧ mg x = some (.ref f) ∧ Binds K fd ps []
structure Cal (P : Program) (w : World) (K : PySem.W.Frag) (mg : Str → Option Value) (base : Heap) (k : Nat) (x : Str) (sp : Sp) : Prop where
  ex : ∃ (f : Addr) (fd : FuncData) (ps : List Str), FnOk P w K mg base CX0 k f fd ps sp ∧ mg x = some (.ref f) ∧ PySem.W.keepIn K (.ref f) = true ∧ Binds K fd ps []
section
variable {P : Program} {w : World} {K : PySem.W.Frag} {mg : Str → Option Value} {base : Heap}
theorem cal_of {x : Str} {st : Stmt} {N ps : List Str} {k : Nat} {sp : Sp} (D : Def K mg x st ps) (S : FnScope N ps (defScope st)) (len : ∀ vs H Q E, sp vs H Q E → vs.length = ps.length)
    (hbody : ∀ (f : Addr) (cdv : Value) (A : Around) (outer : List Env) (s : Shared) (H : Hp) (vs : List V) (Q : VK) (E : XK), Room k (A.deeper (envOfC x (defScope st) s.heap.objs.size f cdv)) → sp vs H Q E →
      ∃ t, PSs (cxOf CX0 P w K mg base N x (defScope st) f cdv A outer s H E).nox (defBody st) t ∧ t { nx := fun _ H' => Q .non H', rt := Q } (start N vs) H) : Cal P w K mg base (k + 1) x sp := by
  obtain ⟨f, fd, F, hm, b⟩ := D.ex
  exact ⟨f, fd, ps, F.ok S len (hbody f), hm, F.kp, b⟩
end
section
variable {X : Cx} {k j : Nat} {x : Str} {sp : Sp} {p pos : Pos} {e : Expr} {es : List Expr} {t : TA}
theorem pe_f (c : Cal X.prog X.w X.K X.mg X.base k x sp) (hr : Room j X.A) (hk : k ≤ j) (hg : Gl X x) (ha : PA X (e :: es) t)
    (hdb : (x == ("__debug__" : Str)) = false := by decide) (he : starEach (e :: es) X.env = (false, eval e X.env) :: starEach es X.env := by rfl) (hpl : (backTo pos (starEach es X.env)).any (·.1) = false := by rfl) :
    PE X (.Call (.Name x p) (e :: es) [] pos) (tCall sp [] E0 t) := by
  obtain ⟨f, fd, ps, G, hm, kp, b⟩ := c.ex
  exact pe_call G (hr.mono hk) hg hm kp b .nil pass0 ha hdb he hpl
theorem pe_gx {v : V} (hg : Gl X x) (h : ∃ u, X.mg x = some u ∧ RelV v u) (hd : (x == ("__debug__" : Str)) = false := by decide) : PE X (.Name x pos) (tC v) :=
  h.elim fun u hu => pe_glob hg hu.1 hu.2 hd
theorem pe_ty (n : String) (hg : Gl X x) (hm : X.mg x = none) (hv : bootBuiltins x = some (.type n)) (hn : x ≠ "__name__" := by decide) (hd : (x == ("__debug__" : Str)) = false := by decide) : PE X (.Name x pos) (tC (.ty n)) :=
  pe_bltn (v := .ty n) (u := .type n) hg hm hv rfl hn hd
end

/-! ### kinds of values -/
inductive TyQ (K : PySem.W.Frag) (H : Hp) : V → String → Prop where
  | non : TyQ K H .non "NoneType"
  | bl (b : Bool) : TyQ K H (.bl b) "bool"
  | int (i : Int) : TyQ K H (.int i) "int"
  | str (z : Str) : TyQ K H (.str z) "str"
  | lst {a : Addr} {xs : List V} (e : H a = some (.lst xs)) : TyQ K H (.ref a) "list"
  | tup {a : Addr} {xs : List V} (e : H a = some (.tup xs)) : TyQ K H (.ref a) "tuple"
  | dK {a : Addr} {xs : List (Key × V)} (e : H a = some (.dK xs)) : TyQ K H (.ref a) "dict"
  | kTup {a : Addr} {o : Obj} (e : K.lookup a = some o) (c : o.cls = .type "tuple") : TyQ K H (.ref a) "tuple"
theorem TyQ.x {K : PySem.W.Frag} {H : Hp} {v : V} {n : String} (h : TyQ K H v n) : TyX K H v (.type n) := by
  cases h with
  | non => exact .base .non
  | bl b => exact .base (.bl b)
  | int i => exact .base (.int i)
  | str z => exact .base (.str z)
  | lst e => exact .base (.lst e)
  | tup e => exact .base (.tup e)
  | dK e => exact .base (.dK e)
  | kTup e c => exact .kTuple e c
theorem g_isi {K : PySem.W.Frag} {H : Hp} {Q : VK} {v : V} {n m : String} {b : Bool} (h : TyQ K H v n) (e : kitB n m = some b) (q : Q (.bl b) H) : rIsi K [v, .ty m] H Q :=
  ⟨v, .ty m, .type n, .type m, b, rfl, .ty m, h.x, kit_ty e, q⟩
theorem g_chain {σ : L2.St} {H : Hp} {Q : VK} {r r' : R2} {ta tb tc : TE} (q : ta σ H fun x H1 => tb σ H1 fun y H2 => r x y H2 fun z H3 => ∃ k, z = .bl k ∧ (if k = true then tc σ H3 fun w' H4 => r' y w' H4 Q else Q (.bl false) H3)) : tChain r r' ta tb tc σ H Q := q
theorem g_sfld {K : PySem.W.Frag} {σ : L2.St} {H : Hp} {D : Ends} {ta tv : TE} {f : Str} (q : tv σ H fun y H1 => ta σ H1 fun x H2 => ∃ a C dx fs, x = .ref a ∧ H2 a = some (.ins C dx fs) ∧ Cls K C ∧ NoAttr K C f ∧ fs.length < 1000 ∧ D.nx σ (upd H2 a (.ins C dx (putF f y fs)))) : sFld K ta tv f D σ H := q
theorem g_gsub {σ : L2.St} {H : Hp} {Q : L2.St → Hp → Prop} {to ti : TE} {t : TSet} {v : V} (q : to σ H fun o H1 => ti σ H1 fun i H2 => t o i v H2 fun H3 => Q σ H3) : gSub to ti t v σ H Q := q
theorem g_make {σ : L2.St} {H : Hp} {Q : VK} {C : Addr} {sp : Sp} {dvs : List V} {E : XK} {t : TA} (q : t σ H fun vs H1 => ∀ x dx, H1 x = none → H1 dx = none → dx ≠ x →
  sp (.ref x :: (vs ++ dvs)) (upd (upd H1 dx (.own x)) x (.ins C dx [])) (fun v H2 => v = .non ∧ Q (.ref x) H2) E) : tMake C sp dvs E t σ H Q := q
theorem g_makeK {σ : L2.St} {H : Hp} {Q : VK} {C : Addr} {n m : Nat} {sp : Sp} {gV : List V → List V → List V} {E : XK} {t tk : TA} (q : t σ H fun vs H1 => tk σ H1 fun zs H2 => vs.length = n ∧ zs.length = m ∧ ∀ x dx, H2 x = none → H2 dx = none → dx ≠ x →
  sp (gV (.ref x :: vs) zs) (upd (upd H2 dx (.own x)) x (.ins C dx [])) (fun v H3 => v = .non ∧ Q (.ref x) H3) E) : tMakeK C n m sp gV E t tk σ H Q := q
theorem g_yes {σ : L2.St} {H : Hp} {Q : Bool → Hp → Prop} (q : Q true H) : tYes σ H Q := q
theorem g_ite {c : Bool} {A B : Prop} (h1 : c = true → A) (h2 : c = false → B) : if c = true then A else B := by
  cases c
  · exact g_iteF (h2 rfl)
  · exact g_iteT (h1 rfl)
theorem kb_int {n : String} (h : n ∈ ["NoneType", "bool", "int", "str", "list", "tuple", "dict"]) : kitB n "int" = some (n == "int" || n == "bool") := by
  simp only [List.mem_cons, List.not_mem_nil, or_false] at h
  rcases h with rfl | rfl | rfl | rfl | rfl | rfl | rfl <;> decide +kernel
theorem kb_bool {n : String} (h : n ∈ ["NoneType", "bool", "int", "str", "list", "tuple", "dict"]) : kitB n "bool" = some (n == "bool") := by
  simp only [List.mem_cons, List.not_mem_nil, or_false] at h
  rcases h with rfl | rfl | rfl | rfl | rfl | rfl | rfl <;> decide +kernel
theorem kb_str {n : String} (h : n ∈ ["NoneType", "bool", "int", "str", "list", "tuple", "dict"]) : kitB n "str" = some (n == "str") := by
  simp only [List.mem_cons, List.not_mem_nil, or_false] at h
  rcases h with rfl | rfl | rfl | rfl | rfl | rfl | rfl <;> decide +kernel
theorem kb_tuple {n : String} (h : n ∈ ["NoneType", "bool", "int", "str", "list", "tuple", "dict"]) : kitB n "tuple" = some (n == "tuple") := by
  simp only [List.mem_cons, List.not_mem_nil, or_false] at h
  rcases h with rfl | rfl | rfl | rfl | rfl | rfl | rfl <;> decide +kernel
theorem TyQ.mem {K : PySem.W.Frag} {H : Hp} {v : V} {n : String} (h : TyQ K H v n) : n ∈ ["NoneType", "bool", "int", "str", "list", "tuple", "dict"] := by
  cases h <;> decide

def isI : V → Bool
  | .int _ => true
  | _ => false
def btw (v : V) (a b : Int) : Bool := match v with
  | .int i => decide (a ≤ i) && decide (i ≤ b)
  | _ => false

local macro_rules | `(tactic| walk_at "rd1") => `(tactic| first
  | with_reducible refine g_seq ?_
  | with_reducible refine g_asg ?_
  | with_reducible refine g_name ?_
  | with_reducible refine g_c ?_
  | with_reducible refine g_op ?_
  | with_reducible refine g_ifS ?_
  | with_reducible refine g_if ?_
  | with_reducible refine g_test ?_
  | with_reducible refine g_B ?_
  | with_reducible refine g_bl ?_
  | with_reducible refine g_blV ?_
  | with_reducible refine g_not ?_
  | with_reducible refine g_and ?_
  | with_reducible refine g_or ?_
  | with_reducible refine g_notV ?_
  | with_reducible refine g_andV ?_
  | with_reducible refine g_orV ?_
  | with_reducible refine g_ret ?_
  | with_reducible refine g_drop ?_
  | with_reducible refine g_next ?_
  | with_reducible refine g_retN ?_
  | with_reducible refine g_call ?_
  | with_reducible refine g_cb ?_
  | with_reducible refine g_cons ?_
  | with_reducible refine g_nil ?_
  | with_reducible refine g_tup ?_
  | with_reducible refine g_lst ?_
  | with_reducible refine g_prop ?_
  | with_reducible refine g_fld ?_
  | with_reducible refine g_meth ?_
  | with_reducible refine g_chain ?_
  | with_reducible refine g_yes ?_
  | with_reducible refine g_make ?_
  | with_reducible refine g_makeK ?_
  | with_reducible refine g_gsub ?_
  | with_reducible refine g_sfld ?_
  | with_reducible refine g_un ?_
  | with_reducible refine g_bm ?_
  | with_reducible refine g_iteT ?_
  | with_reducible refine g_iteF ?_
  | with_reducible refine g_I0 ?_
  | with_reducible refine g_add ?_
  | with_reducible refine g_sub ?_
  | ((with_reducible refine' g_var ?hv ?_); (case hv => rfl))
  | ((with_reducible refine g_eq ?hv ?_); (case hv => rfl))
  | ((with_reducible refine g_ne ?hv ?_); (case hv => rfl)))
local macro_rules | `(tactic| walk_at "rd") => `(tactic| repeat (walk_at "rd1"))

/-! ### is_integer, is_between -/
def spIsInt (K : PySem.W.Frag) : Sp := fun vs H Q _ => ∃ v n, vs = [v] ∧ TyQ K H v n ∧ Q (.bl (isI v)) H
def spBtw (K : PySem.W.Frag) : Sp := fun vs H Q _ => ∃ v n a b, vs = [v, .int a, .int b] ∧ TyQ K H v n ∧ Q (.bl (btw v a b)) H
end Mc

namespace Mx
open PySem PySem.Spec PyProof.Rows L2
open PySem.W (KxsFacts kxs_mw ks_superIn)
section
variable {prog : Program} {w : World} {A : Around} {E : Value → Shared → Prop} {h : Heap} {g : Array GenState} {d : Drawn} {t : Nat} {os : OsState}
theorem call_mw {B nI iI : String} {bmB : List Value} (FB : ExcBaseFacts B nI iI bmB) {nm q : Str} {C N : Addr} {bs bm : List Value} {hdct : Bool} {sn : List Str} {sub : List Value} {ab : Bool} {col : Option Bool} {dd : Option Addr} {k0 k1 k2 k3 k5 : Option Value}
    {mw x t0 : Addr} {us : List Value} {R : Value → Shared → Prop} (atC : h.get? C = some (excClassObj nm q C N bs bm hdct sn sub ab col dd k0 k1 k2 k3 k5 nI)) (atX : h.get? x = some (HandSPX.excO C t0)) (atW : h.get? mw = some (kxs_mw iI x)) (lim : us.length ≤ sizeLine)
    (then_ : ∀ g' t1, (∀ b o, b ≠ x → h.get? b = some o → g'.get? b = some o) → g'.get? x = some (HandSPX.excO C t1) → R .none ⟨g', g, d, t, os⟩) : wpAny (model prog w) A (call (.ref mw) us) R E ⟨h, g, d, t, os⟩ := by
  have three : (Value.type "method-wrapper" == Value.type "method" || Value.type "method-wrapper" == Value.type "builtin_function_or_method" || Value.type "method-wrapper" == Value.type "method-wrapper") = true := by decide
  refine wpAny_call (codeAny_of_tree (show wpAny _ A.in1 (callAny (.ref mw) ⟨us, []⟩) _ _ _ from ?_))
  · simp only [callAny]
    refine wpAny_bind (wpAny_load atW ?_)
    simp only [kxs_mw, three, if_true]
    refine PySem.W.KFB.if_so (by decide) (wpAny_bind (PySem.W.check_bound_init FB.toExcCallFacts atC atX rfl (wpAny_bind (wpAny_pure (wpAny_pure ⟨plainId_quiet FB.init.plain _, codeAny_builtin FB.initEntry ?_⟩)))))
    exact PySem.W.exc_init_tree (cls := .ref C) (t0 := t0) (dv := none) (c2 := .none) (c3 := .none) (b4 := .bool false) atX lim fun g' keep at_ _ => then_ g' _ keep at_
end
section
variable {X : Cx} {pins : List (Addr × Obj)} {σ : L2.St} {H : Hp} {s : Shared}
/-- super().__init__("..") in an own exception's __init__, as the first statement of the body -/
theorem super_at {body : List Stmt} {qual file z : Str} {scope : Scope} {L f cda cc x C : Addr} {fd : FuncData} {ar : Arg} {vs : Array Value} {tf : Tok} {oc ccl cl : Value} {od cdd cld : Option Addr} {osl ccs csl : Array (Option Value)} {j : Nat} {p0 p1 p2 p3 p4 p5 : Pos} {pl : Sem Bool} {Q : Flow → Shared → Prop} {E : Value → Shared → Prop}
    (I : Inv X pins σ H s) (hE : X.env = PySem.W.ksEnv qual scope L f (.ref cda) cc) (lf : X.K.lookup f = some ⟨oc, od, .func fd, osl⟩) (hp : (fd.params.posonlyargs ++ fd.params.args).head? = some ar)
    (hN : X.N[0]? = some ar.arg) (hσ : σ[0]? = some (some (.ref x))) (hcode : X.K.lookup cda = some ⟨ccl, cdd, .fields vs, ccs⟩) (hvs : vs[2]? = some (.str file tf)) (hfile : ((X.prog.main.file : Str) == file) = true)
    (hcell : X.K.lookup cc = some ⟨cl, cld, .cell (some (.ref C)), csl⟩) (T : OexC X.K C) (hs : ks_superIn X.K C C "__init__" = some (some (.builtin "ValueError.__init__"))) (hB : PySem.W.subIn X.K (.ref C) (.type "ValueError") = some true)
    (ho : PySem.W.nsIn X.K cStatics "thirdparty.any" = some none) (hsup : X.mg "super" = none) (hks : scope.names.lookup ("super" : Str) = some .globalImplicit) (hkc : scope.names.lookup ("__class__" : Str) = some .free) (hka : scope.names.lookup ar.arg = some .local) (hk : scope.kind = .function)
    (htop : (X.prog.main.scope.names.lookup ("super" : Str)).isSome = false) (hboot : bootBuiltins "super" = some (.type "super")) (ea : H x = some (exo x C none)) (q : ∀ s', Inv X pins σ H s' → Q .next s')
    (hc : eval (.Call (.Attribute (.Call (.Name "super" p0) [] [] p1) "__init__" p2) [.Constant (.str z) j p3] [] p4) (PySem.W.ksEnv qual scope L f (.ref cda) cc) = (do
      let ov ← attributeBase (.Call (.Name "super" p0) [] [] p1) "__init__" (PySem.W.ksEnv qual scope L f (.ref cda) cc) (eval (.Call (.Name "super" p0) [] [] p1) (PySem.W.ksEnv qual scope L f (.ref cda) cc))
      standAt p2.atName
      let (fv, first) ← holding [ov] (getMethod ov "__init__" pl)
      callWith p4 fv first (backTo p4 (starEach [.Constant (.str z) j p3] (PySem.W.ksEnv qual scope L f (.ref cda) cc))) []) := by rfl) :
    _root_.PySem.wpAt (model X.prog X.w) X.A (.func body X.env) (exec (.Expr (.Call (.Attribute (.Call (.Name "super" p0) [] [] p1) "__init__" p2) [.Constant (.str z) j p3] [] p4) p5) X.env) Q E s := by
  obtain ⟨nm, qn, N', bs, bm, sn, sub, ab, col, dd, k0, k1, k2, k3, k5, hC, hbm⟩ := T.cls
  have hcl : PySem.W.clsIn X.K C = some { name := nm, bases := bs, mro := .ref C :: bm, ns := N', qualname := qn, hasDict := true, slotNames := sn, subclasses := sub, abstract := ab, collection := col, hasDel := false } := by unfold PySem.W.clsIn; rw [hC] <;> rfl
  have KX := I.kIn
  obtain ⟨m, hns, hloc⟩ := id I.loc
  have hv : m ar.arg = some (.ref x) := by
    obtain ⟨u, ru, lk⟩ := hloc 0 ar.arg (.ref x) hN hσ (.inl (by rw [hE]; exact hka))
    obtain rfl : u = Value.ref x := ru
    rcases lk with ⟨_, h⟩ | ⟨h, _⟩
    · exact h
    · exfalso
      have e : X.env.kindOf ar.arg = some .local := by rw [hE]; exact hka
      rw [e] at h
      rcases h with h | h <;> cases h
  obtain ⟨t1, hx⟩ := exo_at I.hok ea
  have hmro : PySem.W.mroIn X.K C (.ref C) = some true := by
    unfold PySem.W.mroIn
    rw [hcl, Option.bind_some, if_neg (show ¬ (List.isEmpty (Value.ref C :: bm) = true) from Bool.false_ne_true), show ((Value.ref C :: bm).contains (.ref C)) = true by rw [List.contains_cons]; simp]
  have hglob := I.mod.glob
  obtain ⟨mb, hblt, hmb⟩ := I.mod.blt
  have bk := I.bk
  have IA : PySem.W.InstAt s.heap x { cls := .ref C, dict := none, data := .fields #[.ref t1, .none, .none, .none, .bool false, .none] } C none := ⟨hx, rfl, rfl, trivial⟩
  have hxC : x ≠ C := PySem.W.ks_ne KX IA hcl
  have hkk : X.env.scope.kind = .function := I.ok.kind
  obtain ⟨hh, g, d, t, os⟩ := s
  rw [hE]
  have hi : interactive (PySem.W.ksEnv qual scope L f (.ref cda) cc) = false := by
    unfold interactive
    rw [show (PySem.W.ksEnv qual scope L f (.ref cda) cc).scope.kind = .function from hk]
    rfl
  refine PySem.ks_wpAt_Expr_any (PySem.ks_wpAt_MethodCall ?_ hc) hi
  refine PySem.ks_wpAt_super_base (env := PySem.W.ksEnv qual scope L f (.ref cda) cc) hks hkc (by decide) rfl (KX _ _ lf) rfl hp rfl (KX _ _ hcode) rfl hvs hfile htop ?_
  refine PySem.W.ks_loadName_global hk hks (PySem.Calls.loadGlobal_builtin (env := PySem.W.ksEnv qual scope L f (.ref cda) cc) (hglob.keeps bk) hsup (hblt.keeps bk) ((hmb _ (by decide +kernel)).trans hboot) ⟨rfl, ?_⟩)
  refine wpAny_loadName_free hk hkc rfl ⟨_, KX _ _ hcell, rfl⟩ ?_
  refine wpAny_loadName_local hk hka (by have e : X.env.locals = L := by rw [hE]
                                         rw [← e]; exact hns) hv ?_
  refine ks_wpAny_isType_cls (KX _ _ hC) rfl ⟨rfl, ?_⟩
  refine ks_wpAny_call_super (KX _ _ hC) rfl hx rfl (fun c e => by cases e) (PySem.W.looks_mroIn KX hmro) (fun h1 e1 k1 => ?_)
  have I1 : Inv X pins σ H ⟨h1, g, d, t, os⟩ := I.kept (t' := t) k1
  have KX1 := I1.kIn
  have IA1 : PySem.W.InstAt h1 x { cls := .ref C, dict := none, data := .fields #[.ref t1, .none, .none, .none, .bool false, .none] } C none := ⟨k1 _ _ hx, rfl, rfl, trivial⟩
  have hs' : PySem.W.alongIn X.K "__init__" (((Value.ref C :: bm).dropWhile (· != .ref C)).drop 1) = some (some (.builtin "ValueError.__init__")) := by
    unfold ks_superIn at hs
    rw [hcl] at hs
    exact hs
  refine PySem.W.kxs_getMethod PySem.W.kxs_ValueError e1 (PySem.W.looks_opaque KX1 ho) (l₀ := .ref C :: bm) (fun A Q E s k q => wpAny_bind ((PySem.W.looks_clsIn KX1 hcl) A _ E s k (wpAny_pure q))) rfl KX1 hs' (IA1.type.andThen (PySem.W.looks_subIn KX1 hB)) hxC (by decide) ?_
  have I2 : Inv X pins σ H ⟨h1.push (kxs_mw "ValueError.__init__" x), g, d, t + 1, os⟩ := I1.kept (t' := t + 1) fun b o e => Heap.get?_push_of_some _ e
  refine PySem.W.kxs_callWith (i := "ValueError.__init__") (x := x) rfl (PySem.Calls.evalArgs_plain ?_)
  refine Calls.spliced_cons (Calls.Constant_str (k := j) (pos := p3) ?_)
  refine Calls.spliced_nil ?_
  have hmw : (h1.push (kxs_mw "ValueError.__init__" x)).get? h1.objs.size = some (kxs_mw "ValueError.__init__" x) := Heap.get?_push_size _ rfl
  refine ⟨hmw, ?_⟩
  refine call_mw F.excBase_ValueError (I2.kIn _ _ hC) (Heap.get?_push_of_some _ (k1 _ _ hx)) hmw (by show 1 ≤ sizeLine; decide) fun h' t2 k hx' => ?_
  have J := I2.write (t' := t + 1 + 1) (x := x) (e := x) (o := exo x C none) (by rw [ea]; exact True.intro) (.inl rfl) k ⟨_, hx'⟩ (exo_ok hx')
  have eu : upd H x (exo x C none) = H := by
    funext b
    by_cases hb : b = x
    · rw [hb, upd_same, ea]
    · rw [upd_ne hb]
  rw [eu] at J
  exact q _ J
end
open NdefX (NF ncx envF startF NScope CellsAt inv_startN)
/-- an own exception's __init__ whose first statement is super().__init__("..") -/
structure SupD (P : Program) (K : PySem.W.Frag) (x qual : Str) (params : Arguments) (body : List Stmt) (scope : Scope) (C f : Addr) (fd : FuncData) (cda cc : Addr) : Prop where
  ex : ∃ (oc : Value) (od : Option Addr) (dV kV doc pm : Value) (an : Option Addr) (ct : Value) (osl : Array (Option Value)) (ccl : Value) (cdd : Option Addr) (vs : Array Value) (ccs : Array (Option Value)) (cl : Value) (cld : Option Addr) (csl : Array (Option Value)) (file : Str) (tf : Tok),
    fd = PySem.W.ksFn x qual params body scope dV kV doc pm an (.ref cda) ct cc ∧ K.lookup f = some ⟨oc, od, .func fd, osl⟩ ∧ PySem.W.codeIn K (.ref cda) qual = true ∧ K.lookup cda = some ⟨ccl, cdd, .fields vs, ccs⟩ ∧ vs[2]? = some (.str file tf) ∧ ((P.main.file : Str) == file) = true ∧
    K.lookup cc = some ⟨cl, cld, .cell (some (.ref C)), csl⟩
/-- the class's facts -/
structure SupC (P : Program) (K : PySem.W.Frag) (mg : Str → Option Value) (C : Addr) : Prop where
  ox : OexC K C
  su : ks_superIn K C C "__init__" = some (some (.builtin "ValueError.__init__"))
  ve : PySem.W.subIn K (.ref C) (.type "ValueError") = some true
  tp : PySem.W.nsIn K cStatics "thirdparty.any" = some none
  sm : mg "super" = none
  top : (P.main.scope.names.lookup ("super" : Str)).isSome = false
theorem look_one {α : Type} (f g : Str) (y : α) : [(f, y)].lookup g = if g = f then some y else none := by
  by_cases h : g = f
  · subst h
    simp [List.lookup]
  · have e : (g == f) = false := by simpa using h
    rw [if_neg h]
    simp [List.lookup, e]
theorem boot_super : bootBuiltins "super" = some (.type "super") := by first | rfl | kernel_rfl
theorem fn_sup {CX : CXT} {P : Program} {w : World} {K : PySem.W.Frag} {mg : Str → Option Value} {base : Heap} {k : Nat} {C f cda cc : Addr} {fd : FuncData} {x qual z : Str} {params : Arguments} {rest : List Stmt} {scope : Scope} {N ps : List Str} {sp : Sp} {ar : Arg} {j : Nat} {p0 p1 p2 p3 p4 p5 : Pos}
    (D : SupD P K x qual params (.Expr (.Call (.Attribute (.Call (.Name "super" p0) [] [] p1) "__init__" p2) [.Constant (.str z) j p3] [] p4) p5 :: rest) scope C f fd cda cc) (T : SupC P K mg C) (S : NScope N ps ["__class__"] scope)
    (hp : (params.posonlyargs ++ params.args).head? = some ar) (hN : N[0]? = some ar.arg) (hks : scope.names.lookup ("super" : Str) = some .globalImplicit) (hka : scope.names.lookup ar.arg = some .local)
    (len : ∀ vs H Q E, sp vs H Q E → vs.length = ps.length)
    (hc : ∀ L : Addr, ∃ pl : Sem Bool, eval (.Call (.Attribute (.Call (.Name "super" p0) [] [] p1) "__init__" p2) [.Constant (.str z) j p3] [] p4) (PySem.W.ksEnv qual scope L f (.ref cda) cc) = (do
      let ov ← attributeBase (.Call (.Name "super" p0) [] [] p1) "__init__" (PySem.W.ksEnv qual scope L f (.ref cda) cc) (eval (.Call (.Name "super" p0) [] [] p1) (PySem.W.ksEnv qual scope L f (.ref cda) cc))
      standAt p2.atName
      let (fv, first) ← holding [ov] (getMethod ov "__init__" pl)
      callWith p4 fv first (backTo p4 (starEach [.Constant (.str z) j p3] (PySem.W.ksEnv qual scope L f (.ref cda) cc))) []))
    (hbody : ∀ (A : Around) (outer : List Env) (s : Shared) (H : Hp) (vs : List V) (Q : VK) (E : XK), sp vs H Q E →
      ∃ a, vs[0]? = some (.ref a) ∧ H a = some (exo a C none) ∧ ∃ t, PSs (ncx CX P w K mg base N ⟨x, qual, params, .Expr (.Call (.Attribute (.Call (.Name "super" p0) [] [] p1) "__init__" p2) [.Constant (.str z) j p3] [] p4) p5 :: rest, scope, [("__class__", cc)], cda⟩ f A outer s H E) rest t ∧
        t { nx := fun _ H' => Q .non H', rt := Q } (startF N vs [none]) H) : FnOk P w K mg base CX (k + 1) f fd ps sp := by
  obtain ⟨oc, od, dV, kV, doc, pm, an, ct, osl, ccl, cdd, vs', ccs, cl, cld, csl, file, tf, rfl, lf, hcd, hcode, hvs, hfile, hcell⟩ := D.ex
  refine ⟨len, fun A outer s H args us vs Q E hr e0 hb r hsp => ?_⟩
  have hl := len _ _ _ _ hsp
  have lim : s.heap.NoLimit := e0.mod.nolimit.keeps fun b o e => (e0.bs b o e).1
  have KX : K.In s.heap := e0.mod.kin.keeps fun b o e => (e0.bs b o e).1
  obtain ⟨FF, hFF⟩ : ∃ FF : NF, FF = ⟨x, qual, params, .Expr (.Call (.Attribute (.Call (.Name "super" p0) [] [] p1) "__init__" p2) [.Constant (.str z) j p3] [] p4) p5 :: rest, scope, [("__class__", cc)], cda⟩ := ⟨_, rfl⟩
  have hcl : FF.cl = [(("__class__" : Str), cc)] := by rw [hFF]
  have CA : CellsAt FF.cl ["__class__"] [none] s.heap H := by
    have key : ∀ y c, FF.cl.lookup y = some c → y = "__class__" ∧ c = cc := fun y c e => by
      rw [hcl, look_one] at e
      by_cases h : y = "__class__"
      · rw [if_pos h] at e
        cases e
        exact ⟨h, rfl⟩
      · rw [if_neg h] at e
        cases e
    refine ⟨rfl, fun y c e => ?_, fun y1 y2 c e1 e2 => (key _ _ e1).1.trans (key _ _ e2).1.symm, fun i y e => ?_⟩
    · obtain ⟨_, rfl⟩ := key _ _ e
      exact ⟨(e0.bs _ _ (e0.mod.kin _ _ hcell)).2, some (.ref C), _, KX _ _ hcell, rfl⟩
    · cases i with
      | zero =>
        have e : some ("__class__" : Str) = some y := e
        cases e
        exact ⟨cc, by rw [hcl, look_one, if_pos rfl], fun v hv => by
          have hv : some (none : Option V) = some (some v) := hv
          cases hv⟩
      | succ i =>
        have e : (none : Option Str) = some y := e
        cases e
  have hscope : FF.scope = scope := by rw [hFF]
  refine codeAny_call_function hr.depth (KX _ _ lf) rfl S.co S.gen rfl (PySem.W.codeRec_of KX hcd) (hb _ _ _ _ ?_)
  refine wpAny_newFunctionEnv S.nocell (fun ⟨n, _⟩ hy => S.par n (List.of_mem_zip hy).1) (fun h₁ hns hsb => ⟨lim.fresh _ hsb, ?_⟩) S.kind
  have kp : ∀ b o, s.heap.get? b = some o → h₁.get? b = some o := fun b o e => hsb.extBut b o (Nat.ne_of_lt (Heap.lt_size e)) (Heap.get?_push_of_some _ e)
  obtain ⟨a, ha, hea, t, ht, hq⟩ := hbody A outer s H vs Q E hsp
  rw [← hFF] at ht
  have I : Inv (ncx CX P w K mg base N FF f A outer s H E) [] (startF N vs [none]) H { s with heap := h₁, toks := s.toks + (ps.zip us).length } := inv_startN (hscope ▸ S) hr.hd e0 hl r CA hns kp
  subst hFF
  show codeAny _ _ (.func (.Expr (.Call (.Attribute (.Call (.Name "super" p0) [] [] p1) "__init__" p2) [.Constant (.str z) j p3] [] p4) p5 :: rest) (PySem.W.ksEnv qual scope s.heap.objs.size f (.ref cda) cc)) _ _
  refine ks_codeAny_funcAt (ks_wpAt_execs_cons ?_)
  obtain ⟨pl, hpl⟩ := hc s.heap.objs.size
  have hσ : (startF N vs [none])[0]? = some (some (.ref a)) := by
    unfold startF
    cases vs with
    | nil => cases ha
    | cons v vs =>
      have ha : some v = some (V.ref a) := ha
      cases ha
      rfl
  refine super_at (X := ncx CX P w K mg base N ⟨x, qual, params, .Expr (.Call (.Attribute (.Call (.Name "super" p0) [] [] p1) "__init__" p2) [.Constant (.str z) j p3] [] p4) p5 :: rest, scope, [("__class__", cc)], cda⟩ f A outer s H E) (pl := pl) I rfl lf hp hN hσ hcode hvs hfile hcell T.ox T.su T.ve T.tp T.sm hks (S.frk _ (List.mem_singleton.mpr rfl)) hka S.kind T.top boot_super hea (fun s2 I2 => ?_) hpl
  refine wpAt_of_wpAny ?_
  refine wpAny_mono (ht.run [] _ (startF N vs [none]) H _ I2 hq) (fun fl s' hs => ?_) fun e s' hs => hs
  have fin : ∀ {σ' : L2.St} {H' : Hp} {v : V} {u : Value}, Inv (ncx CX P w K mg base N ⟨x, qual, params, .Expr (.Call (.Attribute (.Call (.Name "super" p0) [] [] p1) "__init__" p2) [.Constant (.str z) j p3] [] p4) p5 :: rest, scope, [("__class__", cc)], cda⟩ f A outer s H E) [] σ' H' s' → L2.RelV v u → Q v H' → CE outer P w H s Q u s' :=
    fun {σ' H' v u} J rv q => ⟨v, H', J.os, J.bare, J.base, J.hok, rv, q⟩
  cases fl with
  | ret u =>
    obtain ⟨v, σ', H', J, rv, q⟩ := hs
    exact fin J rv q
  | next =>
    obtain ⟨σ', H', J, q⟩ := hs
    exact fin (v := V.non) (u := Value.none) J rfl q
  | brk =>
    obtain ⟨_, _, _, q⟩ := hs
    exact False.elim q
  | cont =>
    obtain ⟨_, _, _, q⟩ := hs
    exact False.elim q

/-- the class in a raise -/
structure ExK (P : Program) (w : World) (K : PySem.W.Frag) (mg : Str → Option Value) (base : Heap) (n : Str) (C f : Addr) (fd : FuncData) (ps : List Str) (sp : Sp) : Prop where
  iC : PySem.W.findIn K (.ref C) "__init__" = some (some (.ref f))
  tI : PySem.W.typeIn K (.ref f) = some (.type "function")
  ok : FnOk P w K mg base CX0 1 f fd ps sp
  bi : Binds K fd ps []
  gl : mg n = some (.ref C)
def spEx (C : Addr) (fld : Str) : Sp := fun vs H Q _ => ∃ a v, vs = [.ref a, v] ∧ H a = some (exo a C none) ∧ ∀ dx, H dx = none → dx ≠ a → Q .non (upd (upd H dx (exd dx [(fld, v)])) a (exo a C (some dx)))
def ExAs (C : Addr) (fld : Str) (W : XK) (vs : List V) (H1 : Hp) : Prop := vs.length ≤ 1000 ∧ ∀ a, H1 a = none → spEx C fld (.ref a :: (vs ++ [])) (upd H1 a (exo a C none))
  (fun v H2 => v = .non ∧ ∃ (d : Addr) (fs : List (Str × V)), H2 a = some (exo a C (some d)) ∧ H2 d = some (exd d fs) ∧ H1 d = none ∧ W (.ref C) (some d) (upd (del H2 a) d (.xd fs))) (fun _ _ _ => False)
theorem g_mko {C : Addr} {fld : Str} {ta : TA} {σ : L2.St} {H : Hp} {W : XK} (q : ta σ H fun vs H1 => ExAs C fld W vs H1) : tMkO C (spEx C fld) [] ta σ H W := q
theorem ex_as {C : Addr} {fld : Str} {H1 : Hp} {W : XK} {v : V} (h : ∀ d H', (∀ b o, H1 b = some o → H' b = some o) → H' d = some (.xd [(fld, v)]) → W (.ref C) (some d) H') : ExAs C fld W [v] H1 := by
  refine ⟨by show 1 ≤ 1000; decide, fun a ha => ⟨a, v, rfl, upd_same, fun dx hdx hne => ⟨rfl, dx, [(fld, v)], upd_same, ?_, ?_, ?_⟩⟩⟩
  · rw [upd_ne hne, upd_same]
  · rw [upd_ne hne] at hdx
    exact hdx
  · rw [upd_ne hne] at hdx
    refine h dx _ (fun b o hb => ?_) upd_same
    have b1 : b ≠ a := fun z => by rw [z, ha] at hb; cases hb
    have b2 : b ≠ dx := fun z => by rw [z, hdx] at hb; cases hb
    rw [upd_ne b2, del_ne b1, upd_ne b1, upd_ne b2, upd_ne b1]
    exact hb
/-- two promises of one def -/
theorem fn_or {P : Program} {w : World} {K : PySem.W.Frag} {mg : Str → Option Value} {base : Heap} {CX : CXT} {k : Nat} {f : Addr} {fd : FuncData} {ps : List Str} {sp1 sp2 : Sp} (F1 : FnOk P w K mg base CX0 k f fd ps sp1) (F2 : FnOk P w K mg base CX k f fd ps sp2) :
    FnOk P w K mg base CX k f fd ps (fun vs H Q E => sp1 vs H Q E ∨ sp2 vs H Q E) := by
  refine ⟨fun vs H Q E h => h.elim (F1.len _ _ _ _) (F2.len _ _ _ _), fun A outer s H args us vs Q E hr e0 hb r h => ?_⟩
  rcases h with h | h
  · refine codeAny_mono (F1.run A outer s H args us vs Q E hr e0 hb r h) fun r s' q => ?_
    cases r with
    | error e => exact False.elim q
    | ok fl => cases fl <;> exact q
  · exact F2.run A outer s H args us vs Q E hr e0 hb r h
/-! ### C(e, .., k = v, ..) in a try -/
section
variable {X : Cx} {CX : CXT} {k n : Nat} {f C : Addr} {fd : FuncData} {ps ks : List Str} {sp : Sp} {E : L2.St → XK} {x : Str} {p pos : Pos} {e : Expr} {es : List Expr} {kws : List Keyword} {t tk : TA} {g : List Value → List Value → List Value} {gV : List V → List V → List V}
def tMakeKS (C : Addr) (n m : Nat) (sp : Sp) (gV : List V → List V → List V) (E : L2.St → XK) (t tk : TA) : TE := fun σ H Q => tMakeK C n m sp gV (E σ) t tk σ H Q
theorem run_makeKS {pl : List (Addr × Obj)} {τ : L2.St} {G : Hp} {z : Shared} {R : VK} {EE : XK} {ua uk : List Value} {va vk : List V} (M : Mk X.K C f) (F : FnOk X.prog X.w X.K X.mg X.base CX k f fd ps sp) (room : Room (k + 1) X.A) (kb : KBn X.K fd ps (n + 1) ks g gV) (pass : PassesAt CX X τ EE)
    (I : Inv X pl τ G z) (ra : Vals va ua) (rk : Vals vk uk) (la : va.length = n) (lk : vk.length = ks.length)
    (want : ∀ a da, G a = none → G da = none → da ≠ a → sp (gV (.ref a :: va) vk) (upd (upd G da (.own a)) a (.ins C da [])) (fun v G2 => v = .non ∧ R (.ref a) G2) EE) : wpAny (model X.prog X.w) X.A (call (.ref C) ua (ks.zip uk)) (EP X pl τ R) X.xe z := by
  obtain ⟨top, htop⟩ : ∃ top, top = z.heap.objs.size := ⟨_, rfl⟩
  have q := want (z.heap.objs.size + 1) _ (I.hok.fresh (Nat.le_succ _)) (I.hok.fresh (Nat.le_refl _)) (Nat.ne_of_lt (Nat.lt_succ_self _))
  have J := Inv.made (C := C) I
  have rs : Vals (V.ref (z.heap.objs.size + 1) :: va) (Value.ref (z.heap.objs.size + 1) :: ua) := .cons rfl ra
  have len1 : (Value.ref (z.heap.objs.size + 1) :: ua).length = n + 1 := by simp [← ra.length, la]
  have runs := F.run _ X.stack _ _ ⟨Value.ref (z.heap.objs.size + 1) :: ua, ks.zip uk⟩ _ _ _ EE (room.make C ua (ks.zip uk)) (J.env0.make C ua (ks.zip uk)) (kb.to _ _ uk J.kIn len1 (rk.length ▸ lk)) (kb.rel rs rk) q
  refine wpAny_call (make_map (f := f) I.kIn M.makes M.init (beq_iff_eq.mp M.fn) (codeAny_mono runs fun res z2 hz => ?_))
  match res, hz with
  | .error e, hz => exact pass pl _ _ e z2 J hz
  | .ok (.ret u), hz =>
    obtain ⟨v, G2, J2, rv, ev, qq⟩ := J.after hz
    rw [ev] at rv
    exact ⟨rv, V.ref (z.heap.objs.size + 1), G2, J2, rfl, qq⟩
theorem pe_makeKS (M : Mk X.K C f) (F : FnOk X.prog X.w X.K X.mg X.base CX k f fd ps sp) (room : Room (k + 1) X.A) (hg : Gl X x) (hm : X.mg x = some (.ref C)) (kb : KBn X.K fd ps (n + 1) ks g gV) (pass : ∀ σ, PassesAt CX X σ (E σ)) (pa : PA X (e :: es) t) (pk : PK X kws tk)
    (h1 : (backToKw pos (keywordEach kws X.env)).all (·.1.isSome) = true := by rfl) (h2 : (backToKw pos (keywordEach kws X.env)).filterMap (·.1) = ks := by rfl) (h3 : (x == ("__debug__" : Str)) = false := by decide)
    (h4 : starEach (e :: es) X.env = (false, eval e X.env) :: starEach es X.env := by rfl) (h5 : ((backTo pos (starEach (e :: es) X.env)).any (·.1) || (backToKw pos (keywordEach kws X.env)).any (·.1.isNone)) = false := by rfl) :
    PE X (.Call (.Name x p) (e :: es) kws pos) (tMakeKS C n ks.length sp gV E t tk) :=
  ⟨fun pl z τ G R I q => wpAny_Call_Name_kw (ld_glob I hg hm (PySem.W.callWith_KW (h₀ := X.base) I.ok.mod.kin M.kp h1 (thn (pa.run pos pl z τ G _ I q) fun ua z1 ⟨va, G1, I1, ra, q1⟩ =>
    thn (pk.run pos pl z1 τ G1 _ I1 q1) fun uk z2 ⟨vk, G2, I2, rk, la, lk, q2⟩ => ⟨I2.kIn, by rw [h2]; exact run_makeKS M F room kb (pass τ) I2 ra rk la lk q2⟩) h5 h4) h3)⟩
end
end Mx

namespace Mx
open PySem PySem.Spec PyProof.Rows L2
/-! several clauses 'except x as n' -/
def endAs (i : Nat) (D : Ends) : Ends := { nx := fun σ' H' => D.nx (σ'.set i none) H', rt := D.rt, bk := fun σ' H' => D.bk (σ'.set i none) H', ct := fun σ' H' => D.ct (σ'.set i none) H' }
abbrev Clause := Value × Nat × (Addr → Value → Option Addr → TS)
def wMas (K : PySem.W.Frag) (Wout : WX) (D : Ends) : List Clause → WX
  | [] => Wout
  | (c, i, ts) :: l => fun cls d σ H => ∃ b, PySem.W.exmOne K cls c = some b ∧ (b = true → ∀ a, H a = none → ts a cls d (endAs i D) (σ.set i (some (.ref a))) H) ∧ (b = false → wMas K Wout D l cls d σ H)
inductive HdsAs (X : Cx) : List ExceptHandler → List Clause → Prop
  | nil : HdsAs X [] []
  | cons {x n : Str} {c : Value} {i : Nat} {ts : Addr → Value → Option Addr → TS} {b₀ : Stmt} {suite : List Stmt} {np pos' : Pos} {hds : List ExceptHandler} {l : List Clause} (hi : X.N[i]? = some n) (hl : X.env.kindOf n = some .local) (hc : Names X x c)
      (hsu : ∀ (a : Addr) (oe : Obj) (cls : Value) (d : Option Addr) (pn : List (Addr × Obj)), Zc cls d oe → (∃ vs, oe.data = .fields vs) → PSs (X.suite a ((a, oe) :: pn)) (b₀ :: suite) (ts a cls d)) (r : HdsAs X hds l) :
      HdsAs X (.ExceptHandler (some (.Name x np)) (some n) (b₀ :: suite) pos' :: hds) ((c, i, ts) :: l)
section
variable {X : Cx} {body : List Stmt} {g₀ : ExceptHandler} {gs : List ExceptHandler} {l : List Clause} {pos : Pos} {tb : WX → TS} {Wout : WX}
theorem ps_try_mas (hs : X.stack = X.env :: X.outer) (hf : X.env.frame = some X.env.locals) (nd : X.N.Nodup) (tk : Takes X Wout)
    (hb : ∀ (W : WX) (pn : List (Addr × Obj)) (xe : Value → Shared → Prop), Takes (X.tr pn xe) W → PassesOwn (model X.prog X.w) X.A X.env xe → PSs (X.tr pn xe) body (tb W))
    (hh : HdsAs X (g₀ :: gs) l) : PS X (.Try body (g₀ :: gs) [] [] pos) (fun D σ H => tb (wMas X.K Wout D l) D σ H) := by
  refine ⟨fun pins s σ H D I h => wpAny_Try_except ?_⟩
  have okX := I.ok
  have frX : X.A.frames = some (X.env :: X.outer) := okX.frames.trans (congrArg some hs)
  let xeT : Value → Shared → Prop := fun e s₁ => wpAny (model X.prog X.w) X.A (noteFrame e X.env) (fun _ s₂ => wpAny (model X.prog X.w) X.A (setFlight e none) (fun _ s₃ => wpAny (model X.prog X.w) X.A (handleBy e X.env (g₀ :: gs)) (SP X pins D) X.xe s₃) X.xe s₂) X.xe s₁
  refine wpAny_mono ((hb (wMas X.K Wout D l) (X.pn ++ pins) xeT (fun u s' z => ?_) PassesOwn.looking).run [] s σ H D (I.toTry _) h) (fun fl s1 z => ?_) fun _ _ z => z
  · obtain ⟨a, B, sI, pn1, σ1, H1, cls, d, rfl, JT, nb, up, sky, na, os, ag, w⟩ := z
    have J0 : Inv X pins σ1 H1 sI := JT.ofTry okX
    show wpAny _ X.A (noteFrame (.ref a) X.env) _ _ _
    refine Sky.land Zc.steady frX hf (by rw [← hs]; exact sky) fun hA flA upA => ?_
    have JA : Inv X pins σ1 H1 { s' with heap := hA } := J0.landed nb flA.1 (up.trans upA) os ag
    obtain ⟨oA, vA, eA, zA, dA⟩ := flA.there
    have nfr : a ∉ frs (X.env :: X.outer) := fun hm => by
      obtain ⟨_, o', e', hnf⟩ := flA.2.2.1.mem hm
      rw [eA] at e'
      cases e'
      exact hnf _ dA
    have nL : a ≠ X.env.locals := fun z => nfr (List.mem_filterMap.mpr ⟨X.env, List.mem_cons_self, hf.trans (congrArg some z.symm)⟩)
    have nF : a ∉ X.fs := fun hm => (List.mem_filterMap.mp hm).elim fun e he => nfr (List.mem_filterMap.mpr ⟨e, List.mem_cons_of_mem _ he.1, he.2⟩)
    have SA := JA.suite eA dA na nL nF
    have go : ∀ {hds : List ExceptHandler} {lc : List Clause}, HdsAs X hds lc → wMas X.K Wout D lc cls d σ1 H1 → wpAny (model X.prog X.w) X.A (handleBy (.ref a) X.env hds) (SP X pins D) X.xe { s' with heap := hA } := by
      intro hds lc hk
      induction hk with
      | nil =>
        intro w
        refine wpAny_handleBy_nil ?_
        obtain ⟨k1, k2, k3, oe, vs, T, oT, ts', he, hz, hd, h1, hr⟩ := flA
        have fin : wpAny (model X.prog X.w) X.A (setFlight (.ref a) X.env.frame) (fun _ s4 => wpAny (model X.prog X.w) X.A (throw (.ref a) : Sem Flow) (SP X pins D) X.xe s4) X.xe { s' with heap := hA } := by
          rw [hf]
          refine HandSPX.setFlight_upZ ⟨k1, k2, k3, oe, vs, T, oT, ts', he, hz, hd, h1, hr⟩ fun h4 hh4 up4 => wpAny_throw (tk _ _ ⟨a, B, sI, pins, σ1, H1, cls, d, rfl, J0, nb, (up.trans upA).trans up4, .inr (.inr (by rw [hs]; exact hh4)), na, os, ag, w⟩)
        unfold PySem.passOn
        refine wpAny_bind (wpAny_field he hd h1 ?_)
        rw [if_neg (by simp : ¬ ((Value.ref T == Value.none) = true))]
        first
          | exact wpAny_bind (wpAny_pure (wpAny_bind fin))
          | exact wpAny_bind fin
      | @cons x n c i ts b₀ suite np pos' hds2 l2 hi hl hc hsu r ih =>
        rintro ⟨b, hb1, hyes, hno⟩
        refine wpAny_handleBy_cons (codeAny_handlers_test ?_) (fun q => by cases q)
        have LM := PySem.W.exm_one (M := model X.prog X.w) (K := X.K) JA.kIn (fun A Q E s k q => wpAny_typeOf_ref (k _ _ eA) (by rw [zA.1]; exact q)) hb1
        have test : ∀ {Q E : Value → Shared → Prop}, Q c { s' with heap := hA } → wpAny (model X.prog X.w) (X.A.mark (some (.ref a))) (eval (.Name x np) X.env) Q E { s' with heap := hA } := by
          intro Q E q
          rcases hc with ⟨hg, hdbg, hm | ⟨hm, hv, hnn⟩⟩
          · exact ld_glob (X := X.suite a ((a, oA) :: (X.pn ++ pins))) SA hg hm q hdbg
          · exact ld_blt (X := X.suite a ((a, oA) :: (X.pn ++ pins))) SA hg hm hv q hnn hdbg
        refine test (LM.here ?_)
        cases b with
        | false => exact ih (hno rfl)
        | true =>
          refine codeAny_handlers_suite_as (HandSPX.lands_againZ flA fun hB flB upB => ?_)
          have JB : Inv X pins σ1 H1 { s' with heap := hB } := J0.landed nb flB.1 ((up.trans upA).trans upB) os ag
          obtain ⟨oB, vB, eB, zB, dB⟩ := flB.there
          refine store_ok (X := X.suite a ((a, oB) :: (X.pn ++ pins))) (v := .ref a) (JB.suite eB dB na nL nF) nd hi (.inl hl) rfl (fun s5 S5 => ?_) (.inr hl)
          refine wpAny_mono ((hsu a oB cls d (X.pn ++ pins) zB ⟨_, dB⟩).run [] s5 _ H1 _ S5 (hyes rfl a na)) (fun fl s6 z => ?_) fun _ _ z => z.elim
          have close : ∀ {σ6 : L2.St} {H6 : Hp} {Q : Shared → Prop}, Inv (X.suite a ((a, oB) :: (X.pn ++ pins))) [] σ6 H6 s6 → (∀ s7, Inv X pins (σ6.set i none) H6 s7 → Q s7) → wpAny (model X.prog X.w) X.A (do bindName X.env n .none; unbindBehindTheSuite X.env n pos') (fun _ s7 => Q s7) X.xe s6 :=
            fun S6 hq => gone_ok (S6.unsuite okX) nd hi hl hq
          cases fl with
          | ret u => exact z.elim fun v6 z => z.elim fun σ6 z => z.elim fun H6 z => close z.1 fun s7 J7 => ⟨_, _, _, J7, z.2.1, z.2.2⟩
          | next => exact z.elim fun σ6 z => z.elim fun H6 z => close z.1 fun s7 J7 => ⟨_, _, J7, z.2⟩
          | brk => exact z.elim fun σ6 z => z.elim fun H6 z => close z.1 fun s7 J7 => ⟨_, _, J7, z.2⟩
          | cont => exact z.elim fun σ6 z => z.elim fun H6 z => close z.1 fun s7 J7 => ⟨_, _, J7, z.2⟩
    exact go hh w
  · cases fl with
    | next => exact z.elim fun σ2 z => z.elim fun H2 z => wpAny_execs_nil ⟨σ2, H2, z.1.ofTry okX, z.2⟩
    | brk => exact z.elim fun σ2 z => z.elim fun H2 z => ⟨σ2, H2, z.1.ofTry okX, z.2⟩
    | cont => exact z.elim fun σ2 z => z.elim fun H2 z => ⟨σ2, H2, z.1.ofTry okX, z.2⟩
    | ret u => exact z.elim fun v z => z.elim fun σ2 z => z.elim fun H2 z => ⟨v, σ2, H2, z.1.ofTry okX, z.2.1, z.2.2⟩
end
end Mx

namespace Mx
open PySem PySem.Spec PyProof.Rows L2 Mc
/-! repr of any data, and calls of defs that show something -/
inductive ShowsV (K : PySem.W.Frag) (H : Hp) : V → Str → Prop
  | non : ShowsV K H .non "None"
  | bl (b : Bool) : ShowsV K H (.bl b) (if b then "True" else "False")
  | int {i : Int} (h : i.natAbs.log2 < 1920) : ShowsV K H (.int i) (toString i)
  | str {x : Str} (h : (reprText x).length ≤ sizeLine) : ShowsV K H (.str x) (reprText x)
  | ref {a : Addr} {d : PyData} (hd : Dp K H (.ref a) d) (hs : d.showable = true) (hx : d.hasDict = false) (hp : d.depth ≤ 40) (hz : d.shown.length ≤ sizeLine) : ShowsV K H (.ref a) d.shown
theorem dp_ext {K : PySem.W.Frag} {H H' : Hp} (e : ∀ b o, H b = some o → H' b = some o) {v : V} {d : PyData} (h : Dp K H v d) : Dp K H' v d := Dp.rec (motive_1 := fun v d _ => Dp K H' v d) (motive_2 := fun vs ds _ => DpAll K H' vs ds) .non .bl .int .str
  (fun s _ ih => .lst (s.imp (fun q => q.imp (e _ _) (fun ⟨o, q⟩ => ⟨o, e _ _ q⟩)) id) ih) (fun s _ ih => .tup (s.imp (fun q => q.imp (e _ _) (fun ⟨o, q⟩ => ⟨o, e _ _ q⟩)) id) ih) .nil (fun _ _ h1 h2 => .cons h1 h2) h
theorem ShowsV.ext {K : PySem.W.Frag} {H H' : Hp} (e : ∀ b o, H b = some o → H' b = some o) {v : V} {z : Str} (h : ShowsV K H v z) : ShowsV K H' v z := by
  cases h with
  | non => exact .non
  | bl b => exact .bl b
  | int h => exact .int h
  | str h => exact .str h
  | ref hd hs hx hp hz => exact .ref (dp_ext e hd) hs hx hp hz
def rReprA (K : PySem.W.Frag) : List V → Hp → VK → Prop := fun xs H Q => ∃ (v : V) (z : Str), xs = [v] ∧ ShowsV K H v z ∧ Q (.str z) H
theorem call_reprA {X : Cx} {K : PySem.W.Frag} (hg : X.A.guards = some []) (hu : X.A.units + 64 < cLine) (hK : X.K = K) : CallR X (.builtin "repr") (rReprA K) := by
  subst hK
  intro pins s σ H xs us Q I r h
  obtain ⟨v, z, rfl, hs, q⟩ := h
  cases r with
  | cons ru rn =>
    cases rn
    cases hs with
    | non =>
      cases ru
      exact PySem.P.repr_of_none ⟨.str _, H, I.tok _, ⟨_, rfl⟩, q⟩
    | bl b =>
      cases ru
      exact PySem.P.repr_of_bool ⟨.str _, H, I.tok _, ⟨_, rfl⟩, q⟩
    | int h =>
      obtain ⟨t, rfl⟩ := ru
      exact PySem.P.repr_of_int h ⟨.str _, H, I.tok _, ⟨_, rfl⟩, q⟩
    | str h =>
      obtain ⟨t, rfl⟩ := ru
      exact PySem.P.repr_of_str ⟨.str _, H, I.tok _, ⟨_, rfl⟩, q⟩ h
    | ref hd hs hx hp hz =>
      cases ru
      obtain ⟨as, R⟩ := Dp.reads I _ _ _ hd rfl
      exact repr_of_reads' R hs (fun e => by rw [hx] at e; cases e) hg (by omega) (fun b o e => e) (fun h' u tk hk => ⟨.str _, H, I.kept hk, ⟨u, rfl⟩, q⟩) hz
theorem ix_listK {X : Cx} {K : PySem.W.Frag} (hK : X.K = K) : IxR X (rIxL K) := hK ▸ ix_list
structure CalG (P : Program) (w : World) (K : PySem.W.Frag) (mg : Str → Option Value) (base : Heap) (k : Nat) (x : Str) (sp : Sp) : Prop where
  ex : ∃ (f : Addr) (fd : FuncData) (ps : List Str), FnG P w K mg base CX0 k f fd ps sp ∧ mg x = some (.ref f) ∧ PySem.W.keepIn K (.ref f) = true ∧ Binds K fd ps []
theorem calG_of {P : Program} {w : World} {K : PySem.W.Frag} {mg : Str → Option Value} {base : Heap} {x : Str} {st : Stmt} {N ps : List Str} {k : Nat} {sp : Sp} (D : Def K mg x st ps) (S : FnScope N ps (defScope st)) (len : ∀ vs H Q E, sp vs H Q E → vs.length = ps.length)
    (hbody : ∀ (f : Addr) (cdv : Value) (A : Around) (outer : List Env) (s : Shared) (H : Hp) (vs : List V) (Q : VK) (E : XK), A.guards = some [] → Room k (A.deeper (envOfC x (defScope st) s.heap.objs.size f cdv)) → sp vs H Q E →
      ∃ t, PSs (cxOf CX0 P w K mg base N x (defScope st) f cdv A outer s H E).nox (defBody st) t ∧ t { nx := fun _ H' => Q .non H', rt := Q } (start N vs) H) : CalG P w K mg base (k + 1) x sp := by
  obtain ⟨f, fd, F, hm, b⟩ := D.ex
  exact ⟨f, fd, ps, fnG_of F S len (hbody f), hm, F.kp, b⟩
section
variable {X : Cx} {k j : Nat} {x : Str} {sp : Sp} {p pos : Pos} {e : Expr} {es : List Expr} {t : TA}
theorem pe_fG (c : CalG X.prog X.w X.K X.mg X.base k x sp) (hgd : X.A.guards = some []) (hr : Room j X.A) (hk : k ≤ j) (hg : Gl X x) (ha : PA X (e :: es) t)
    (hdb : (x == ("__debug__" : Str)) = false := by decide) (he : starEach (e :: es) X.env = (false, eval e X.env) :: starEach es X.env := by rfl) (hpl : (backTo pos (starEach es X.env)).any (·.1) = false := by rfl) :
    PE X (.Call (.Name x p) (e :: es) [] pos) (tCall sp [] E0 t) := by
  obtain ⟨f, fd, ps, G, hm, kp, b⟩ := c.ex
  refine ⟨fun pins s σ H Q I h => wpAny_Call_Name_kw (ld_glob I hg hm (PySem.W.callWith_K (h₀ := X.base) I.ok.mod.kin kp (thn (ha.run pos pins s σ H _ I h) fun us s1 ⟨vs, H1, I1, r, q⟩ => ⟨I1.kIn, ?_⟩) he hpl) hdb)⟩
  have q : sp vs H1 Q E0 := by
    have q : sp (vs ++ []) H1 Q E0 := q
    rw [List.append_nil] at q
    exact q
  have hl : us.length = ps.length := by
    rw [← r.length]
    exact G.len _ _ _ _ q
  have bb := b s1 us I1.kIn (by rw [List.append_nil]; exact hl)
  rw [List.append_nil] at bb
  refine wpAny_call (codeAny_mono (G.run X.A X.stack s1 H1 ⟨us, []⟩ us vs Q E0 hgd (hr.mono hk) I1.env0 bb r q) fun r s' z => ?_)
  cases r with
  | error e => exact False.elim z
  | ok fl =>
    cases fl with
    | ret u => exact I1.after z
    | next => exact z.elim
    | brk => exact z.elim
    | cont => exact z.elim
theorem pe_f0 (c : Cal X.prog X.w X.K X.mg X.base k x sp) (hr : Room j X.A) (hk : k ≤ j) (hg : Gl X x) (hdb : (x == ("__debug__" : Str)) = false := by decide) : PE X (.Call (.Name x p) [] [] pos) (tCall sp [] E0 tNil) := by
  obtain ⟨f, fd, ps, G, hm, kp, b⟩ := c.ex
  exact pe_call0 G (hr.mono hk) hg hm kp b .nil pass0 hdb
end
end Mx

namespace K2
open PySem PySem.Spec PyProof.Rows L2 Mc
def top (i : Nat) : Stmt := PySem.Challenge.pw_mostcalls_k04_policies_changed.main.body.getD i (.Pass ⟨0, 0, 0, 0⟩)
abbrev s_is_integer : Stmt := top 2
abbrev N_is_integer : List Str := ["value"]
theorem sc_is_integer : FnScope N_is_integer ["value"] (defScope s_is_integer) := ⟨rfl, rfl, rfl, by decide +kernel, rfl, by decide +kernel, by decide +kernel⟩
abbrev s_is_between : Stmt := top 3
abbrev N_is_between : List Str := ["value", "least", "most"]
theorem sc_is_between : FnScope N_is_between ["value", "least", "most"] (defScope s_is_between) := ⟨rfl, rfl, rfl, by decide +kernel, rfl, by decide +kernel, by decide +kernel⟩
abbrev s_is_name : Stmt := top 4
abbrev N_is_name : List Str := ["value", "sign"]
theorem sc_is_name : FnScope N_is_name ["value"] (defScope s_is_name) := ⟨rfl, rfl, rfl, by decide +kernel, rfl, by decide +kernel, by decide +kernel⟩
abbrev s_Policyinit : Stmt := inClass (top 12) 0
abbrev N_Policyinit : List Str := ["self", "name", "limit", "tries", "pauses", "early", "lossy", "ending", "field"]
theorem sc_Policyinit : FnScope N_Policyinit ["self", "name", "limit", "tries", "pauses", "early", "lossy", "ending"] (defScope s_Policyinit) := ⟨rfl, rfl, rfl, by decide +kernel, rfl, by decide +kernel, by decide +kernel⟩
abbrev s_Policy_name : Stmt := inClass (top 12) 1
abbrev N_Policy_name : List Str := ["self"]
theorem sc_Policy_name : FnScope N_Policy_name ["self"] (defScope s_Policy_name) := ⟨rfl, rfl, rfl, by decide +kernel, rfl, by decide +kernel, by decide +kernel⟩
abbrev s_Policy_limit : Stmt := inClass (top 12) 2
abbrev N_Policy_limit : List Str := ["self"]
theorem sc_Policy_limit : FnScope N_Policy_limit ["self"] (defScope s_Policy_limit) := ⟨rfl, rfl, rfl, by decide +kernel, rfl, by decide +kernel, by decide +kernel⟩
abbrev s_Policy_tries : Stmt := inClass (top 12) 3
abbrev N_Policy_tries : List Str := ["self"]
theorem sc_Policy_tries : FnScope N_Policy_tries ["self"] (defScope s_Policy_tries) := ⟨rfl, rfl, rfl, by decide +kernel, rfl, by decide +kernel, by decide +kernel⟩
abbrev s_Policy_pauses : Stmt := inClass (top 12) 4
abbrev N_Policy_pauses : List Str := ["self"]
theorem sc_Policy_pauses : FnScope N_Policy_pauses ["self"] (defScope s_Policy_pauses) := ⟨rfl, rfl, rfl, by decide +kernel, rfl, by decide +kernel, by decide +kernel⟩
abbrev s_Policy_early : Stmt := inClass (top 12) 5
abbrev N_Policy_early : List Str := ["self"]
theorem sc_Policy_early : FnScope N_Policy_early ["self"] (defScope s_Policy_early) := ⟨rfl, rfl, rfl, by decide +kernel, rfl, by decide +kernel, by decide +kernel⟩
abbrev s_Policy_lossy : Stmt := inClass (top 12) 6
abbrev N_Policy_lossy : List Str := ["self"]
theorem sc_Policy_lossy : FnScope N_Policy_lossy ["self"] (defScope s_Policy_lossy) := ⟨rfl, rfl, rfl, by decide +kernel, rfl, by decide +kernel, by decide +kernel⟩
abbrev s_Policy_ending : Stmt := inClass (top 12) 7
abbrev N_Policy_ending : List Str := ["self"]
theorem sc_Policy_ending : FnScope N_Policy_ending ["self"] (defScope s_Policy_ending) := ⟨rfl, rfl, rfl, by decide +kernel, rfl, by decide +kernel, by decide +kernel⟩
abbrev s_Policy_changed : Stmt := inClass (top 12) 9
abbrev N_Policy_changed : List Str := ["self", "fields", "word", "told"]
theorem sc_Policy_changed : FnScope N_Policy_changed ["self", "fields"] (defScope s_Policy_changed) := ⟨rfl, rfl, rfl, by decide +kernel, rfl, by decide +kernel, by decide +kernel⟩
abbrev s_accepts : Stmt := top 13
abbrev N_accepts : List Str := ["field", "value"]
theorem sc_accepts : FnScope N_accepts ["field", "value"] (defScope s_accepts) := ⟨rfl, rfl, rfl, by decide +kernel, rfl, by decide +kernel, by decide +kernel⟩
abbrev s_wrong_field : Stmt := top 14
abbrev N_wrong_field : List Str := ["limit", "tries", "pauses", "early", "lossy", "ending"]
theorem sc_wrong_field : FnScope N_wrong_field ["limit", "tries", "pauses", "early", "lossy", "ending"] (defScope s_wrong_field) := ⟨rfl, rfl, rfl, by decide +kernel, rfl, by decide +kernel, by decide +kernel⟩
abbrev s_are_pauses : Stmt := top 15
abbrev N_are_pauses : List Str := ["value", "tries", "ticks"]
theorem sc_are_pauses : FnScope N_are_pauses ["value", "tries"] (defScope s_are_pauses) := ⟨rfl, rfl, rfl, by decide +kernel, rfl, by decide +kernel, by decide +kernel⟩
abbrev s_is_ending : Stmt := top 16
abbrev N_is_ending : List Str := ["value"]
theorem sc_is_ending : FnScope N_is_ending ["value"] (defScope s_is_ending) := ⟨rfl, rfl, rfl, by decide +kernel, rfl, by decide +kernel, by decide +kernel⟩
abbrev s_all_pauses : Stmt := top 17
abbrev N_all_pauses : List Str := ["tries", "pauses", "early"]
theorem sc_all_pauses : FnScope N_all_pauses ["tries", "pauses", "early"] (defScope s_all_pauses) := ⟨rfl, rfl, rfl, by decide +kernel, rfl, by decide +kernel, by decide +kernel⟩
abbrev s_InvalidNameinit : Stmt := inClass (top 6) 0
abbrev N_InvalidNameinit : List Str := ["self", "value", "__class__"]
theorem sc_InvalidNameinit : NdefX.NScope N_InvalidNameinit ["self", "value"] ["__class__"] (defScope s_InvalidNameinit) := NdefX.nscope_by (by decide +kernel)
abbrev s_InvalidPolicyinit : Stmt := inClass (top 7) 0
abbrev N_InvalidPolicyinit : List Str := ["self", "field", "__class__"]
theorem sc_InvalidPolicyinit : NdefX.NScope N_InvalidPolicyinit ["self", "field"] ["__class__"] (defScope s_InvalidPolicyinit) := NdefX.nscope_by (by decide +kernel)
abbrev s_law_pool : Stmt := top 19
abbrev N_law_pool : List Str := ["_law_script", "_law_k", "_law_cell", "_law_seed"]
theorem sc_law_pool : FnScope N_law_pool ["_law_script", "_law_k"] (defScope s_law_pool) := ⟨rfl, rfl, rfl, by decide +kernel, rfl, by decide +kernel, by decide +kernel⟩
abbrev s_law_draw : Stmt := top 20
abbrev N_law_draw : List Str := ["_law_pool_here", "_law_many", "_law_digit"]
theorem sc_law_draw : FnScope N_law_draw ["_law_pool_here", "_law_many"] (defScope s_law_draw) := ⟨rfl, rfl, rfl, by decide +kernel, rfl, by decide +kernel, by decide +kernel⟩
abbrev s_law_choose : Stmt := top 21
abbrev N_law_choose : List Str := ["_law_pool_here", "_law_items"]
theorem sc_law_choose : FnScope N_law_choose ["_law_pool_here", "_law_items"] (defScope s_law_choose) := ⟨rfl, rfl, rfl, by decide +kernel, rfl, by decide +kernel, by decide +kernel⟩
abbrev s_law_policy : Stmt := top 22
abbrev N_law_policy : List Str := ["_law_pool_here", "_law_label", "_law_most", "_law_wait", "_law_many", "_law_soon", "_law_delays", "_law_turn", "_law_last"]
theorem sc_law_policy : FnScope N_law_policy ["_law_pool_here", "_law_label", "_law_most"] (defScope s_law_policy) := ⟨rfl, rfl, rfl, by decide +kernel, rfl, by decide +kernel, by decide +kernel⟩
abbrev s_law_fields_of : Stmt := top 23
abbrev N_law_fields_of : List Str := ["_law_one"]
theorem sc_law_fields_of : FnScope N_law_fields_of ["_law_one"] (defScope s_law_fields_of) := ⟨rfl, rfl, rfl, by decide +kernel, rfl, by decide +kernel, by decide +kernel⟩
abbrev s_law_told : Stmt := top 24
abbrev N_law_told : List Str := ["_law_call", "e"]
theorem sc_law_told : FnScope N_law_told ["_law_call"] (defScope s_law_told) := ⟨rfl, rfl, rfl, by decide +kernel, rfl, by decide +kernel, by decide +kernel⟩
abbrev s_law_pauses_right : Stmt := top 25
abbrev N_law_pauses_right : List Str := ["_law_one", "_law_kept", "_law_due"]
theorem sc_law_pauses_right : FnScope N_law_pauses_right ["_law_one", "_law_kept"] (defScope s_law_pauses_right) := ⟨rfl, rfl, rfl, by decide +kernel, rfl, by decide +kernel, by decide +kernel⟩
abbrev s_law : Stmt := top 26
abbrev N_law : List Str := ["_law_script", "_law_k", "_law_pool_here", "_law_one", "_law_kept", "_law_due"]
theorem sc_law : FnScope N_law ["_law_script"] (defScope s_law) := ⟨rfl, rfl, rfl, by decide +kernel, rfl, by decide +kernel, by decide +kernel⟩

def letters : Str := "abcdefghijklmnopqrstuvwxyz"
/-- what the top has left -/
structure Txt (K : PySem.W.Frag) (mg : Str → Option Value) : Prop where
  n_isinstance : mg "isinstance" = none
  n_int : mg "int" = none
  n_bool : mg "bool" = none
  n_str : mg "str" = none
  n_tuple : mg "tuple" = none
  n_len : mg "len" = none
  n_all : mg "all" = none
  n_range : mg "range" = none
  n_repr : mg "repr" = none
  n_max : mg "max" = none
  n_min : mg "min" = none
  g_LETTERS : ∃ u, mg "LETTERS" = some u ∧ RelV (.str letters) u
  g_MOST_LIMIT : ∃ u, mg "MOST_LIMIT" = some u ∧ RelV (.int 20) u
  g_MOST_TRIES : ∃ u, mg "MOST_TRIES" = some u ∧ RelV (.int 3) u
section
variable {P : Program} {w : World} {K : PySem.W.Frag} {mg : Str → Option Value} {base : Heap}
local macro_rules | `(tactic| walk_at "rd1") => `(tactic| first
  | with_reducible refine g_seq ?_
  | with_reducible refine g_asg ?_
  | with_reducible refine g_name ?_
  | with_reducible refine g_c ?_
  | with_reducible refine g_op ?_
  | with_reducible refine g_ifS ?_
  | with_reducible refine g_if ?_
  | with_reducible refine g_test ?_
  | with_reducible refine g_B ?_
  | with_reducible refine g_bl ?_
  | with_reducible refine g_blV ?_
  | with_reducible refine g_not ?_
  | with_reducible refine g_and ?_
  | with_reducible refine g_or ?_
  | with_reducible refine g_notV ?_
  | with_reducible refine g_andV ?_
  | with_reducible refine g_orV ?_
  | with_reducible refine g_ret ?_
  | with_reducible refine g_drop ?_
  | with_reducible refine g_next ?_
  | with_reducible refine g_retN ?_
  | with_reducible refine g_call ?_
  | with_reducible refine g_cb ?_
  | with_reducible refine g_cons ?_
  | with_reducible refine g_nil ?_
  | with_reducible refine g_tup ?_
  | with_reducible refine g_lst ?_
  | with_reducible refine g_prop ?_
  | with_reducible refine g_fld ?_
  | with_reducible refine g_meth ?_
  | with_reducible refine g_chain ?_
  | with_reducible refine g_yes ?_
  | with_reducible refine g_make ?_
  | with_reducible refine g_makeK ?_
  | with_reducible refine g_gsub ?_
  | with_reducible refine g_sfld ?_
  | with_reducible refine g_un ?_
  | with_reducible refine g_bm ?_
  | with_reducible refine g_iteT ?_
  | with_reducible refine g_iteF ?_
  | with_reducible refine g_I0 ?_
  | with_reducible refine g_add ?_
  | with_reducible refine g_sub ?_
  | ((with_reducible refine' g_var ?hv ?_); (case hv => rfl))
  | ((with_reducible refine g_eq ?hv ?_); (case hv => rfl))
  | ((with_reducible refine g_ne ?hv ?_); (case hv => rfl)))
local macro_rules | `(tactic| walk_at "rd") => `(tactic| repeat (walk_at "rd1"))

local macro_rules | `(tactic| walk_at "ty") => `(tactic| first | exact .non | exact .bl _ | exact .int _ | exact .str _ | exact .lst (by assumption) | exact .tup (by assumption) | exact .dK (by assumption) | exact .kTup (by assumption) (by assumption))
local macro_rules | `(tactic| walk_at "isiF") => `(tactic| refine g_isi (by walk_at "ty") (b := false) (by decide +kernel) ?_)
local macro_rules | `(tactic| walk_at "isiT") => `(tactic| refine g_isi (by walk_at "ty") (b := true) (by decide +kernel) ?_)

theorem ok_is_integer (T : Txt K mg) (D : Def K mg "is_integer" s_is_integer ["value"]) : Cal P w K mg base 1 "is_integer" (spIsInt K) := by
  refine cal_of D sc_is_integer (fun vs H Q E h => ?_) (fun f cdv A outer s H vs Q E hr h => ?_)
  · obtain ⟨v, n, rfl, _⟩ := h
    rfl
  · obtain ⟨v, n, rfl, ty, q⟩ := h
    refine ⟨_, (pss_one (ps_ret (pe_and (pe_callB call_isi (by rfl) T.n_isinstance (by decide +kernel) (pa_cons (pv 0) (pa_cons (pe_ty "int" (by rfl) T.n_int (by decide +kernel)) pa_nil))) (pe_one (pe_not (pe_callB call_isi (by rfl) T.n_isinstance (by decide +kernel) (pa_cons (pv 0) (pa_cons (pe_ty "bool" (by rfl) T.n_bool (by decide +kernel)) pa_nil)))))))), ?_⟩
    walk_at "rd"
    refine g_isi ty (kb_int ty.mem) ?_
    walk_at "rd"
    have e : ∀ b, Q (.bl b) H → b = isI v → Q (.bl (isI v)) H := fun b q e => e ▸ q
    cases ty with
    | int i => simp; walk_at "rd"; refine g_isi (.int i) (kb_bool (by decide)) ?_; walk_at "rd"; exact q
    | bl i => simp; walk_at "rd"; refine g_isi (.bl i) (kb_bool (by decide)) ?_; walk_at "rd"; exact q
    | non => simp; exact q
    | str z => simp; exact q
    | lst z => simp; exact q
    | tup z => simp; exact q
    | dK z => simp; exact q
    | kTup z c => simp; exact q
theorem ok_is_between (T : Txt K mg) (D : Def K mg "is_between" s_is_between ["value", "least", "most"]) (c_is_integer : Cal P w K mg base 1 "is_integer" (spIsInt K)) : Cal P w K mg base 2 "is_between" (spBtw K) := by
  refine cal_of D sc_is_between (fun vs H Q E h => ?_) (fun f cdv A outer s H vs Q E hr h => ?_)
  · obtain ⟨v, n, a, b, rfl, _⟩ := h
    rfl
  · obtain ⟨v, n, a, b, rfl, ty, q⟩ := h
    refine ⟨_, (pss_one (ps_ret (pe_and (pe_f c_is_integer hr (by decide) (by rfl) (pa_cons (pv 0) pa_nil)) (pe_one (pe_chain op_le op_le (pv 1) (pv 0) (pv 2)))))), ?_⟩
    walk_at "rd"
    refine ⟨v, n, rfl, ty, ?_⟩
    walk_at "rd"
    cases ty with
    | int i =>
      show (if true = true then _ else _)
      walk_at "rd"
      refine g_ite (fun e => ?_) (fun e => ?_)
      · walk_at "rd"
        have z : btw (.int i) a b = decide (i ≤ b) := by show (decide (a ≤ i) && decide (i ≤ b)) = _; rw [e]; rfl
        rw [z] at q
        exact q
      · have z : btw (.int i) a b = false := by show (decide (a ≤ i) && decide (i ≤ b)) = _; rw [e]; rfl
        rw [z] at q
        exact q
    | bl i => exact q
    | non => exact q
    | str z => exact q
    | lst z => exact q
    | tup z => exact q
    | dK z => exact q
    | kTup z c => exact q
end
end K2

namespace K2
open PySem PySem.Spec PyProof.Rows L2 Mc
section
variable {P : Program} {w : World} {K : PySem.W.Frag} {mg : Str → Option Value} {base : Heap}
local macro_rules | `(tactic| walk_at "rd1") => `(tactic| first
  | with_reducible refine g_seq ?_
  | with_reducible refine g_asg ?_
  | with_reducible refine g_name ?_
  | with_reducible refine g_c ?_
  | with_reducible refine g_op ?_
  | with_reducible refine g_ifS ?_
  | with_reducible refine g_if ?_
  | with_reducible refine g_test ?_
  | with_reducible refine g_B ?_
  | with_reducible refine g_bl ?_
  | with_reducible refine g_blV ?_
  | with_reducible refine g_not ?_
  | with_reducible refine g_and ?_
  | with_reducible refine g_or ?_
  | with_reducible refine g_notV ?_
  | with_reducible refine g_andV ?_
  | with_reducible refine g_orV ?_
  | with_reducible refine g_ret ?_
  | with_reducible refine g_drop ?_
  | with_reducible refine g_next ?_
  | with_reducible refine g_retN ?_
  | with_reducible refine g_call ?_
  | with_reducible refine g_cb ?_
  | with_reducible refine g_cons ?_
  | with_reducible refine g_nil ?_
  | with_reducible refine g_tup ?_
  | with_reducible refine g_lst ?_
  | with_reducible refine g_prop ?_
  | with_reducible refine g_fld ?_
  | with_reducible refine g_meth ?_
  | with_reducible refine g_chain ?_
  | with_reducible refine g_yes ?_
  | with_reducible refine g_make ?_
  | with_reducible refine g_makeK ?_
  | with_reducible refine g_gsub ?_
  | with_reducible refine g_sfld ?_
  | with_reducible refine g_un ?_
  | with_reducible refine g_bm ?_
  | with_reducible refine g_iteT ?_
  | with_reducible refine g_iteF ?_
  | with_reducible refine g_I0 ?_
  | with_reducible refine g_add ?_
  | with_reducible refine g_sub ?_
  | ((with_reducible refine' g_var ?hv ?_); (case hv => rfl))
  | ((with_reducible refine g_eq ?hv ?_); (case hv => rfl))
  | ((with_reducible refine g_ne ?hv ?_); (case hv => rfl)))
local macro_rules | `(tactic| walk_at "rd") => `(tactic| repeat (walk_at "rd1"))

local macro_rules | `(tactic| walk_at "ty") => `(tactic| first | exact .non | exact .bl _ | exact .int _ | exact .str _ | exact .lst (by assumption) | exact .tup (by assumption) | exact .dK (by assumption) | exact .kTup (by assumption) (by assumption))
local macro_rules | `(tactic| walk_at "isiF") => `(tactic| refine g_isi (by walk_at "ty") (b := false) (by decide +kernel) ?_)
local macro_rules | `(tactic| walk_at "isiT") => `(tactic| refine g_isi (by walk_at "ty") (b := true) (by decide +kernel) ?_)

def sgn (c : Nat) : Bool := decide (c ∈ letters.cps.toList)
def isNm (z : Str) : Bool := decide ((1 : Int) ≤ z.length) && (decide ((z.length : Int) ≤ 8) && z.cps.toList.all sgn)
def nmV : V → Bool
  | .str z => isNm z
  | _ => false
def spName (K : PySem.W.Frag) : Sp := fun vs H Q _ => ∃ v n, vs = [v] ∧ TyQ K H v n ∧ (∀ z, v = .str z → z.length ≤ 1000) ∧ ∀ H', Same H H' → Q (.bl (nmV v)) H'
theorem same_new {H : Hp} {p : Addr} {o : HO} (h : H p = none) : Same H (upd H p o) := fun b u e => by rw [upd_ne (ne_of_none e h)]; exact e
theorem sz_le {n : Nat} (h : n ≤ 1000) : n ≤ sizeLine := Nat.le_trans h (by decide)
theorem take_map {α : Type} {xs : List α} {i : Nat} {x : α} (f : α → V) (h : xs[i]? = some x) : (xs.take i).map f ++ [f x] = (xs.take (i + 1)).map f := by
  rw [List.take_add_one, h, List.map_append]
  rfl
theorem all_id {α : Type} (xs : List α) (f : α → Bool) : ((xs.map f).all id) = xs.all f := by rw [List.all_map]; rfl

theorem ok_is_name (T : Txt K mg) (D : Def K mg "is_name" s_is_name ["value"]) : Cal P w K mg base 1 "is_name" (spName K) := by
  refine cal_of D sc_is_name (fun vs H Q E h => ?_) (fun f cdv A outer s H vs Q E hr h => ?_)
  · obtain ⟨v, n, rfl, _⟩ := h
    rfl
  · obtain ⟨v, n, rfl, ty, hz, q⟩ := h
    refine ⟨_, (pss_one (ps_ret (pe_and (pe_callB call_isi (by rfl) T.n_isinstance (by decide +kernel) (pa_cons (pv 0) (pa_cons (pe_ty "str" (by rfl) T.n_str (by decide +kernel)) pa_nil))) (pe_and (pe_chain op_le op_le pe_int (pe_callB call_len_str (by rfl) T.n_len (by decide +kernel) (pa_cons (pv 0) pa_nil)) pe_int) (pe_one (pe_callB (cr_all rfl) (by rfl) T.n_all (by decide +kernel) (pa_cons (pe_lc (own := [("sign", 1)]) (g := gName 1) (by rfl) sc_is_name.nd (pi_str (pv 0)) (blkOk_by (own := [("sign", 1)]) (N := N_is_name) (sc := defScope s_is_name) (by decide +kernel)) (fun _ _ _ _ _ => pg_name (i := 1) sc_is_name.nd rfl (Or.inl rfl)) (fun _ _ _ _ _ => pts_nil) (fun _ _ _ _ _ => (pe_cmpR op_in_sign (pv 1) (pe_gx rfl T.g_LETTERS) (by rfl)))) pa_nil))))))), ?_⟩
    walk_at "rd"
    have q0 := q H (Same.refl H)
    cases ty
    case str z =>
      have hl := hz z rfl
      refine g_isi (.str z) (b := true) (by decide +kernel) ?_
      walk_at "rd"
      refine ⟨z, rfl, sz_le hl, ?_⟩
      walk_at "rd"
      refine g_ite (fun e1 => ?_) (fun e1 => ?_)
      · walk_at "rd"
        refine g_ite (fun e2 => ?_) (fun e2 => ?_)
        · walk_at "rd"
          refine ⟨_, rfl, _, rfl, fun L hL => ?_⟩
          refine lc_it walk_str (fun i H' => H' = upd H L (.lst ((z.cps.toList.take i).map fun c => .bl (sgn c)))) rfl (fun _ _ _ _ => trivial) ?_ ?_
          · rintro i x H0 H1 hi rfl ⟨rfl, c, hc, rfl⟩
            walk_at "rd"
            refine ⟨rfl, ?_⟩
            walk_at "rd"
            refine ⟨c, letters, rfl, rfl, _, upd_same, ?_, ?_⟩
            · rw [List.length_map, List.length_take]
              exact small1000 (Nat.le_trans (Nat.min_le_right _ _) (by simpa [Str.length] using hl))
            · have hc' : z.cps.toList[i]? = some c := by rw [Array.getElem?_toList]; exact hc
              rw [upd_upd]
              exact congrArg (fun l => upd H L (.lst l)) (take_map (fun c => V.bl (sgn c)) hc')
          · rintro H1 rfl
            refine ⟨L, z.cps.toList.map sgn, rfl, SqL.of ?_, ?_⟩
            · rw [upd_same, List.take_of_length_le (by simp), List.map_map]
              rfl
            · have e : nmV (.str z) = ((z.cps.toList.map sgn).all id) := by
                show (decide ((1 : Int) ≤ z.length) && (decide ((z.length : Int) ≤ 8) && z.cps.toList.all sgn)) = _
                rw [e1, e2, all_id]
                rfl
              rw [← e]
              exact q _ (same_new hL)
        · have e : nmV (.str z) = false := by
            show (decide ((1 : Int) ≤ z.length) && (decide ((z.length : Int) ≤ 8) && z.cps.toList.all sgn)) = _
            rw [e1, e2]
            rfl
          rw [e] at q0
          exact q0
      · walk_at "rd"
        have e : nmV (.str z) = false := by
          show (decide ((1 : Int) ≤ z.length) && (decide ((z.length : Int) ≤ 8) && z.cps.toList.all sgn)) = _
          rw [e1]
          rfl
        rw [e] at q0
        exact q0
    all_goals (walk_at "isiF"; walk_at "rd"; exact q0)
end
end K2

namespace K2
open PySem PySem.Spec PyProof.Rows L2 Mc
section
variable {P : Program} {w : World} {K : PySem.W.Frag} {mg : Str → Option Value} {base : Heap}
local macro_rules | `(tactic| walk_at "rd1") => `(tactic| first
  | with_reducible refine g_seq ?_
  | with_reducible refine g_asg ?_
  | with_reducible refine g_name ?_
  | with_reducible refine g_c ?_
  | with_reducible refine g_op ?_
  | with_reducible refine g_ifS ?_
  | with_reducible refine g_if ?_
  | with_reducible refine g_test ?_
  | with_reducible refine g_B ?_
  | with_reducible refine g_bl ?_
  | with_reducible refine g_blV ?_
  | with_reducible refine g_not ?_
  | with_reducible refine g_and ?_
  | with_reducible refine g_or ?_
  | with_reducible refine g_notV ?_
  | with_reducible refine g_andV ?_
  | with_reducible refine g_orV ?_
  | with_reducible refine g_ret ?_
  | with_reducible refine g_drop ?_
  | with_reducible refine g_next ?_
  | with_reducible refine g_retN ?_
  | with_reducible refine g_call ?_
  | with_reducible refine g_cb ?_
  | with_reducible refine g_cons ?_
  | with_reducible refine g_nil ?_
  | with_reducible refine g_tup ?_
  | with_reducible refine g_lst ?_
  | with_reducible refine g_prop ?_
  | with_reducible refine g_fld ?_
  | with_reducible refine g_meth ?_
  | with_reducible refine g_chain ?_
  | with_reducible refine g_yes ?_
  | with_reducible refine g_make ?_
  | with_reducible refine g_makeK ?_
  | with_reducible refine g_gsub ?_
  | with_reducible refine g_sfld ?_
  | with_reducible refine g_un ?_
  | with_reducible refine g_bm ?_
  | with_reducible refine g_iteT ?_
  | with_reducible refine g_iteF ?_
  | with_reducible refine g_I0 ?_
  | with_reducible refine g_add ?_
  | with_reducible refine g_sub ?_
  | ((with_reducible refine' g_var ?hv ?_); (case hv => rfl))
  | ((with_reducible refine g_eq ?hv ?_); (case hv => rfl))
  | ((with_reducible refine g_ne ?hv ?_); (case hv => rfl)))
local macro_rules | `(tactic| walk_at "rd") => `(tactic| repeat (walk_at "rd1"))

local macro_rules | `(tactic| walk_at "ty") => `(tactic| first | exact .non | exact .bl _ | exact .int _ | exact .str _ | exact .lst (by assumption) | exact .tup (by assumption) | exact .dK (by assumption) | exact .kTup (by assumption) (by assumption))
local macro_rules | `(tactic| walk_at "isiF") => `(tactic| refine g_isi (by walk_at "ty") (b := false) (by decide +kernel) ?_)
local macro_rules | `(tactic| walk_at "isiT") => `(tactic| refine g_isi (by walk_at "ty") (b := true) (by decide +kernel) ?_)

/-- a tuple's value: its kind, its items -/
structure TupV (K : PySem.W.Frag) (H : Hp) (a : Addr) (xs : List V) : Prop where
  ty : TyQ K H (.ref a) "tuple"
  sq : SqT K H a xs
theorem TyQ.ext {H H' : Hp} {v : V} {n : String} (e : Same H H') (h : TyQ K H v n) : TyQ K H' v n := by
  cases h with
  | non => exact .non
  | bl b => exact .bl b
  | int i => exact .int i
  | str z => exact .str z
  | lst z => exact .lst (e _ _ z)
  | tup z => exact .tup (e _ _ z)
  | dK z => exact .dK (e _ _ z)
  | kTup z c => exact .kTup z c
theorem sqT_ext {H H' : Hp} {a : Addr} {xs : List V} (e : Same H H') (h : SqT K H a xs) : SqT K H' a xs := by
  rcases h with (h | ⟨o, h⟩) | h
  · exact .inl (.inl (e _ _ h))
  · exact .inl (.inr ⟨o, e _ _ h⟩)
  · exact .inr h
theorem TupV.ext {H H' : Hp} {a : Addr} {xs : List V} (e : Same H H') (h : TupV K H a xs) : TupV K H' a xs := ⟨TyQ.ext e h.ty, sqT_ext e h.sq⟩
def Typed (K : PySem.W.Frag) (H : Hp) (xs : List V) : Prop := ∀ x ∈ xs, ∃ n, TyQ K H x n

def arePz (xs : List V) (t : Int) : Bool := decide (V.int (xs.length : Int) = V.int (t - 1)) && xs.all fun x => btw x 0 8
def spAre (K : PySem.W.Frag) : Sp := fun vs H Q _ => ∃ v t, vs = [v, .int t] ∧
  ((∃ n, TyQ K H v n ∧ n ≠ "tuple" ∧ Q (.bl false) H) ∨ (∃ a xs, v = .ref a ∧ TupV K H a xs ∧ Typed K H xs ∧ xs.length ≤ 1000 ∧ ∀ H', Same H H' → Q (.bl (arePz xs t)) H'))

theorem ok_are_pauses (T : Txt K mg) (D : Def K mg "_are_pauses" s_are_pauses ["value", "tries"]) (c_is_between : Cal P w K mg base 2 "is_between" (spBtw K)) : Cal P w K mg base 3 "_are_pauses" (spAre K) := by
  refine cal_of D sc_are_pauses (fun vs H Q E h => ?_) (fun f cdv A outer s H vs Q E hr h => ?_)
  · obtain ⟨v, t, rfl, _⟩ := h
    rfl
  · obtain ⟨v, t, rfl, h⟩ := h
    refine ⟨_, (pss_one (ps_ret (pe_and (pe_callB call_isi (by rfl) T.n_isinstance (by decide +kernel) (pa_cons (pv 0) (pa_cons (pe_ty "tuple" (by rfl) T.n_tuple (by decide +kernel)) pa_nil))) (pe_and (pe_cmpR op_eq (pe_callB call_len_seq (by rfl) T.n_len (by decide +kernel) (pa_cons (pv 0) pa_nil)) (pe_op op_sub (pv 1) pe_int) (nomark _)) (pe_one (pe_callB (cr_all rfl) (by rfl) T.n_all (by decide +kernel) (pa_cons (pe_lc (own := [("ticks", 2)]) (g := gName 2) (by rfl) sc_are_pauses.nd (pi_tup (pv 0)) (blkOk_by (own := [("ticks", 2)]) (N := N_are_pauses) (sc := defScope s_are_pauses) (by decide +kernel)) (fun _ _ _ _ _ => pg_name (i := 2) sc_are_pauses.nd rfl (Or.inl rfl)) (fun _ _ _ _ _ => pts_nil) (fun _ _ _ _ _ => (pe_f c_is_between hr (by decide) (by rfl) (pa_cons (pv 2) (pa_cons pe_int (pa_cons pe_int pa_nil)))))) pa_nil))))))), ?_⟩
    walk_at "rd"
    rcases h with ⟨n, ty, hn, q⟩ | ⟨a, xs, rfl, tv, typ, hl, q⟩
    · refine g_isi ty (kb_tuple ty.mem) ?_
      have e : (n == "tuple") = false := by simpa using hn
      rw [e]
      walk_at "rd"
      exact q
    · refine g_isi tv.ty (b := true) (by decide +kernel) ?_
      walk_at "rd"
      refine ⟨a, xs, rfl, .inr tv.sq, ?_⟩
      walk_at "rd"
      have e0 : arePz xs t = (decide (V.int (xs.length : Int) = V.int (t - 1)) && xs.all fun x => btw x 0 8) := rfl
      refine g_ite (fun e1 => ?_) (fun e1 => ?_)
      · walk_at "rd"
        refine ⟨_, rfl, _, rfl, ⟨_, tv.sq⟩, fun L hL => ?_⟩
        refine lc_tup (K := K) (a := a) (xs := xs) (fun i H' => H' = upd H L (.lst ((xs.take i).map fun x => .bl (btw x 0 8)))) rfl (fun i H' _ e => by subst e; exact sqT_ext (same_new hL) tv.sq) ?_ ?_
        · rintro i x H0 hx rfl
          walk_at "rd"
          refine ⟨rfl, ?_⟩
          walk_at "rd"
          obtain ⟨n, tx⟩ := typ x (List.mem_of_getElem? hx)
          refine ⟨x, n, 0, 8, rfl, TyQ.ext (same_new hL) tx, _, upd_same, ?_, ?_⟩
          · rw [List.length_map, List.length_take]
            exact small1000 (Nat.le_trans (Nat.min_le_right _ _) hl)
          · rw [upd_upd]
            exact congrArg (fun l => upd H L (.lst l)) (take_map (fun x => V.bl (btw x 0 8)) hx)
        · rintro H1 rfl
          refine ⟨L, xs.map fun x => btw x 0 8, rfl, SqL.of ?_, ?_⟩
          · rw [upd_same, List.take_of_length_le (Nat.le_refl _), List.map_map]
            rfl
          · have e : arePz xs t = ((xs.map fun x => btw x 0 8).all id) := by rw [e0, e1, all_id]; rfl
            rw [← e]
            exact q _ (same_new hL)
      · walk_at "rd"
        have e : arePz xs t = false := by rw [e0, e1]; rfl
        have q0 := q H (Same.refl H)
        rw [e] at q0
        exact q0

def sStop : Str := "stop"
def sGo : Str := "go"
def sDeadline : Str := "deadline"
def endOk : List V → Bool
  | .str z :: r => if z = sStop then decide (r.length = 1) && r.all (fun x => btw x 0 20) else decide (r.length = 0) && inV (.str z) [.str sGo, .str sDeadline]
  | _ => false
def spEnd (K : PySem.W.Frag) : Sp := fun vs H Q _ => ∃ v, vs = [v] ∧
  ((∃ n, TyQ K H v n ∧ n ≠ "tuple" ∧ Q (.bl false) H) ∨ (∃ a xs, v = .ref a ∧ TupV K H a xs ∧ Typed K H xs ∧ xs.length ≤ 1000 ∧ ∀ H', Same H H' → Q (.bl (endOk xs)) H'))
theorem ok_is_ending (T : Txt K mg) (D : Def K mg "_is_ending" s_is_ending ["value"]) (c_is_between : Cal P w K mg base 2 "is_between" (spBtw K)) : Cal P w K mg base 3 "_is_ending" (spEnd K) := by
  refine cal_of D sc_is_ending (fun vs H Q E h => ?_) (fun f cdv A outer s H vs Q E hr h => ?_)
  · obtain ⟨v, rfl, _⟩ := h
    rfl
  · obtain ⟨v, rfl, h⟩ := h
    refine ⟨_, (pss_cons (ps_if (PW.pt (pw_or (pt_not (pt_val (pe_callB call_isi (by rfl) T.n_isinstance (by decide +kernel) (pa_cons (pv 0) (pa_cons (pe_ty "tuple" (by rfl) T.n_tuple (by decide +kernel)) pa_nil))))) (pw_or (pt_cmpR op_eq (pe_callB call_len_seq (by rfl) T.n_len (by decide +kernel) (pa_cons (pv 0) pa_nil)) pe_int (nomark _)) (pw_or1 (pt_not (pt_val (pe_callB call_isi (by rfl) T.n_isinstance (by decide +kernel) (pa_cons (pe_ix ix_tup (pv 0) pe_int (fun _ _ => rfl)) (pa_cons (pe_ty "str" (by rfl) T.n_str (by decide +kernel)) pa_nil))))))))) (pss_one (ps_ret pe_bl)) pss_nil)
      (pss_cons (ps_if (pt_cmpR op_eq (pe_ix ix_tup (pv 0) pe_int (fun _ _ => rfl)) pe_str (nomark _)) (pss_one (ps_ret (pe_and (pe_cmpR op_eq (pe_callB call_len_seq (by rfl) T.n_len (by decide +kernel) (pa_cons (pv 0) pa_nil)) pe_int (nomark _)) (pe_one (pe_f c_is_between hr (by decide) (by rfl) (pa_cons (pe_ix ix_tup (pv 0) pe_int (fun _ _ => rfl)) (pa_cons pe_int (pa_cons pe_int pa_nil)))))))) pss_nil)
      (pss_one (ps_ret (pe_and (pe_cmpR op_eq (pe_callB call_len_seq (by rfl) T.n_len (by decide +kernel) (pa_cons (pv 0) pa_nil)) pe_int (nomark _)) (pe_one (pe_cmpR op_in_seq (pe_ix ix_tup (pv 0) pe_int (fun _ _ => rfl)) (pe_tup (pa_cons pe_str (pa_cons pe_str pa_nil))) (by rfl)))))))), ?_⟩
    walk_at "rd"
    rcases h with ⟨n, ty, hn, q⟩ | ⟨a, xs, rfl, tv, typ, hl, q⟩
    · refine g_isi ty (kb_tuple ty.mem) ?_
      have e : (n == "tuple") = false := by simpa using hn
      rw [e]
      walk_at "rd"
      exact q
    · refine g_isi tv.ty (b := true) (by decide +kernel) ?_
      walk_at "rd"
      show (if false = true then _ else _)
      walk_at "rd"
      refine ⟨a, xs, rfl, .inr tv.sq, ?_⟩
      walk_at "rd"
      have q0 := q H (Same.refl H)
      match xs, q, tv, typ, hl, q0 with
      | [], q, tv, typ, hl, q0 =>
        show (if true = true then _ else _)
        walk_at "rd"
        exact q0
      | x :: r, q, tv, typ, hl, q0 =>
        have e1 : decide (V.int (((x :: r).length : Nat) : Int) = V.int 0) = false := decide_eq_false (by intro z; injection z with z; simp at z; omega)
        rw [e1]
        walk_at "rd"
        refine g_ixT tv.sq (v := x) (atI_nat (j := 0) rfl) ?_
        walk_at "rd"
        obtain ⟨n, tx⟩ := typ x (List.mem_cons_self ..)
        refine g_isi tx (kb_str tx.mem) ?_
        walk_at "rd"
        cases tx
        case str z =>
          show (if false = true then _ else _)
          walk_at "rd"
          refine g_ixT tv.sq (v := .str z) (atI_nat (j := 0) rfl) ?_
          walk_at "rd"
          refine g_ite (fun e => ?_) (fun e => ?_)
          · have ez : z = sStop := by injection (of_decide_eq_true e)
            have eq : endOk (.str z :: r) = (decide (r.length = 1) && r.all (fun x => btw x 0 20)) := by
              show (if z = sStop then _ else _) = _
              rw [if_pos ez]
            walk_at "rd"
            refine ⟨a, _, rfl, .inr tv.sq, ?_⟩
            walk_at "rd"
            match r, q, tv, typ, eq, q0 with
            | [], q, tv, typ, eq, q0 =>
              show (if false = true then _ else _)
              walk_at "rd"
              rw [eq] at q0
              exact q0
            | [y], q, tv, typ, eq, q0 =>
              show (if true = true then _ else _)
              walk_at "rd"
              refine g_ixT tv.sq (v := y) (atI_nat (j := 1) rfl) ?_
              walk_at "rd"
              obtain ⟨m, ty⟩ := typ y (List.mem_cons_of_mem _ (List.mem_cons_self ..))
              refine ⟨y, m, 0, 20, rfl, ty, ?_⟩
              have e3 : endOk [.str z, y] = btw y 0 20 := by
                rw [eq]
                show (true && (btw y 0 20 && true)) = _
                rw [Bool.and_true]
                rfl
              rw [e3] at q0
              exact q0
            | y :: y2 :: r, q, tv, typ, eq, q0 =>
              have e4 : decide (V.int (((V.str z :: y :: y2 :: r).length : Nat) : Int) = V.int 2) = false := decide_eq_false (by intro k; injection k with k; simp at k; omega)
              rw [e4]
              walk_at "rd"
              have e5 : endOk (.str z :: y :: y2 :: r) = false := by
                rw [eq, decide_eq_false (by simp)]
                rfl
              rw [e5] at q0
              exact q0
          · have ez : z ≠ sStop := fun k => absurd e (by rw [k]; decide)
            have eq : endOk (.str z :: r) = (decide (r.length = 0) && inV (.str z) [.str sGo, .str sDeadline]) := by
              show (if z = sStop then _ else _) = _
              rw [if_neg ez]
            walk_at "rd"
            refine ⟨a, _, rfl, .inr tv.sq, ?_⟩
            walk_at "rd"
            refine g_ite (fun e6 => ?_) (fun e6 => ?_)
            · walk_at "rd"
              refine g_ixT tv.sq (v := .str z) (atI_nat (j := 0) rfl) ?_
              walk_at "rd"
              refine ⟨(by show 2 ≤ sizeLine; decide), fun p hp => ?_⟩
              refine ⟨p, _, rfl, .inr (SqT.of upd_same), rfl, rfl, ?_⟩
              have e7 : decide (r.length = 0) = true := by
                have k := of_decide_eq_true e6
                injection k with k
                simp at k
                exact decide_eq_true (by omega)
              rw [e7, Bool.true_and] at eq
              rw [eq] at q
              exact q _ (same_new hp)
            · have e7 : decide (r.length = 0) = false := decide_eq_false (fun k => absurd e6 (by simp [k]))
              rw [eq, e7] at q0
              walk_at "rd"
              exact q0
        all_goals
          show (if true = true then _ else _)
          walk_at "rd"
          exact q0
end
end K2

namespace K2
open PySem PySem.Spec PyProof.Rows L2 Mc
section
variable {P : Program} {w : World} {K : PySem.W.Frag} {mg : Str → Option Value} {base : Heap}
local macro_rules | `(tactic| walk_at "rd1") => `(tactic| first
  | with_reducible refine g_seq ?_
  | with_reducible refine g_asg ?_
  | with_reducible refine g_name ?_
  | with_reducible refine g_c ?_
  | with_reducible refine g_op ?_
  | with_reducible refine g_ifS ?_
  | with_reducible refine g_if ?_
  | with_reducible refine g_test ?_
  | with_reducible refine g_B ?_
  | with_reducible refine g_bl ?_
  | with_reducible refine g_blV ?_
  | with_reducible refine g_not ?_
  | with_reducible refine g_and ?_
  | with_reducible refine g_or ?_
  | with_reducible refine g_notV ?_
  | with_reducible refine g_andV ?_
  | with_reducible refine g_orV ?_
  | with_reducible refine g_ret ?_
  | with_reducible refine g_drop ?_
  | with_reducible refine g_next ?_
  | with_reducible refine g_retN ?_
  | with_reducible refine g_call ?_
  | with_reducible refine g_cb ?_
  | with_reducible refine g_cons ?_
  | with_reducible refine g_nil ?_
  | with_reducible refine g_tup ?_
  | with_reducible refine g_lst ?_
  | with_reducible refine g_prop ?_
  | with_reducible refine g_fld ?_
  | with_reducible refine g_meth ?_
  | with_reducible refine g_chain ?_
  | with_reducible refine g_yes ?_
  | with_reducible refine g_make ?_
  | with_reducible refine g_makeK ?_
  | with_reducible refine g_gsub ?_
  | with_reducible refine g_sfld ?_
  | with_reducible refine g_un ?_
  | with_reducible refine g_bm ?_
  | with_reducible refine g_iteT ?_
  | with_reducible refine g_iteF ?_
  | with_reducible refine g_I0 ?_
  | with_reducible refine g_add ?_
  | with_reducible refine g_sub ?_
  | ((with_reducible refine' g_var ?hv ?_); (case hv => rfl))
  | ((with_reducible refine g_eq ?hv ?_); (case hv => rfl))
  | ((with_reducible refine g_ne ?hv ?_); (case hv => rfl)))
local macro_rules | `(tactic| walk_at "rd") => `(tactic| repeat (walk_at "rd1"))

local macro_rules | `(tactic| walk_at "ty") => `(tactic| first | exact .non | exact .bl _ | exact .int _ | exact .str _ | exact .lst (by assumption) | exact .tup (by assumption) | exact .dK (by assumption) | exact .kTup (by assumption) (by assumption))
local macro_rules | `(tactic| walk_at "isiF") => `(tactic| refine g_isi (by walk_at "ty") (b := false) (by decide +kernel) ?_)
local macro_rules | `(tactic| walk_at "isiT") => `(tactic| refine g_isi (by walk_at "ty") (b := true) (by decide +kernel) ?_)

def spAll (K : PySem.W.Frag) : Sp := fun vs H Q _ => ∃ t p e, vs = [.int t, p, e] ∧ 1 ≤ t ∧ t ≤ 1000 ∧
  (e ≠ .non → ∀ q H', Same H H' → H' q = some (.tup []) → Q (.ref q) H') ∧
  (e = .non → p = .non → ∀ q H', Same H H' → H' q = some (.tup (List.replicate (t - 1).toNat (.int 0))) → Q (.ref q) H') ∧
  (e = .non → p ≠ .non → Q p H)
theorem ok_all_pauses (T : Txt K mg) (D : Def K mg "_all_pauses" s_all_pauses ["tries", "pauses", "early"]) : Cal P w K mg base 1 "_all_pauses" (spAll K) := by
  refine cal_of D sc_all_pauses (fun vs H Q E h => ?_) (fun f cdv A outer s H vs Q E hr h => ?_)
  · obtain ⟨t, p, e, rfl, _⟩ := h
    rfl
  · obtain ⟨t, p, e, rfl, t1, t2, q1, q2, q3⟩ := h
    refine ⟨_, (pss_cons (ps_if (pt_cmpR op_notN (pv 2) pe_non (nomark _)) (pss_one (ps_ret (pe_tup pa_nil))) pss_nil)
      (pss_cons (ps_if (pt_cmpR op_isN (pv 1) pe_non (nomark _)) (pss_one (ps_ret (pe_op op_repS (pe_tup (pa_cons pe_int pa_nil)) (pe_op op_sub (pv 0) pe_int)))) pss_nil)
      (pss_one (ps_ret (pv 1))))), ?_⟩
    walk_at "rd"
    refine ⟨rfl, ?_⟩
    walk_at "rd"
    by_cases he : e = .non
    · subst he
      show (if false = true then _ else _)
      walk_at "rd"
      refine ⟨rfl, ?_⟩
      walk_at "rd"
      by_cases hp : p = .non
      · subst hp
        show (if true = true then _ else _)
        walk_at "rd"
        refine ⟨(by show 1 ≤ sizeLine; decide), fun a ha => ?_⟩
        walk_at "rd"
        refine ⟨a, t - 1, .int 0, rfl, rfl, SqT.of upd_same, by omega, by omega, fun e => ?_, fun e b hb => ?_⟩
        · refine q2 rfl rfl _ _ (same_new ha) ?_
          rw [upd_same, e]
          rfl
        · refine q2 rfl rfl _ _ (Same.trans (same_new ha) (same_new hb)) ?_
          rw [upd_same]
      · rw [decide_eq_false hp]
        walk_at "rd"
        exact q3 rfl hp
    · rw [decide_eq_false he]
      show (if true = true then _ else _)
      walk_at "rd"
      refine ⟨(by show 0 ≤ sizeLine; decide), fun a ha => ?_⟩
      exact q1 he _ _ (same_new ha) upd_same

def isB : V → Bool
  | .bl _ => true
  | _ => false
def gt1 : V → Bool
  | .int i => decide (1 < i)
  | _ => false
def wfV (l t p e y : V) (pb gb : Bool) : V :=
  if btw l 1 20 then if btw t 1 3 then
    if !decide (p = .non) && !(decide (e = .non) && pb) then .str "pauses" else
    if !decide (e = .non) && !(gt1 t && btw e 1 20) then .str "early" else
    if isB y then (if gb then .non else .str "ending") else .str "lossy"
  else .str "tries" else .str "limit"
def SeqR (K : PySem.W.Frag) (H : Hp) (v : V) (f : List V → Bool) (b : Bool) : Prop :=
  (∃ n, TyQ K H v n ∧ n ≠ "tuple" ∧ b = false) ∨ (∃ a xs, v = .ref a ∧ TupV K H a xs ∧ Typed K H xs ∧ xs.length ≤ 1000 ∧ b = f xs)
theorem Typed.ext {H H' : Hp} {xs : List V} (e : Same H H') (h : Typed K H xs) : Typed K H' xs := fun x hx => (h x hx).elim fun n t => ⟨n, TyQ.ext e t⟩
theorem SeqR.ext {H H' : Hp} {v : V} {f : List V → Bool} {b : Bool} (e : Same H H') (h : SeqR K H v f b) : SeqR K H' v f b := by
  rcases h with ⟨n, t, hn, hb⟩ | ⟨a, xs, ev, tv, ty, hl, hb⟩
  · exact .inl ⟨n, TyQ.ext e t, hn, hb⟩
  · exact .inr ⟨a, xs, ev, TupV.ext e tv, Typed.ext e ty, hl, hb⟩
theorem SeqR.are {H : Hp} {Q : VK} {E : XK} {v : V} {t : Int} {b : Bool} (h : SeqR K H v (fun xs => arePz xs t) b) (q : ∀ H', Same H H' → Q (.bl b) H') : spAre K [v, .int t] H Q E := by
  refine ⟨v, t, rfl, ?_⟩
  rcases h with ⟨n, ty, hn, rfl⟩ | ⟨a, xs, ev, tv, ty, hl, rfl⟩
  · exact .inl ⟨n, ty, hn, q H (Same.refl H)⟩
  · exact .inr ⟨a, xs, ev, tv, ty, hl, q⟩
theorem SeqR.en {H : Hp} {Q : VK} {E : XK} {v : V} {b : Bool} (h : SeqR K H v endOk b) (q : ∀ H', Same H H' → Q (.bl b) H') : spEnd K [v] H Q E := by
  refine ⟨v, rfl, ?_⟩
  rcases h with ⟨n, ty, hn, rfl⟩ | ⟨a, xs, ev, tv, ty, hl, rfl⟩
  · exact .inl ⟨n, ty, hn, q H (Same.refl H)⟩
  · exact .inr ⟨a, xs, ev, tv, ty, hl, q⟩
def spWrong (K : PySem.W.Frag) : Sp := fun vs H Q _ => ∃ l t p e y g n1 n2 n3 n4 pb gb, vs = [l, t, p, e, y, g] ∧ TyQ K H l n1 ∧ TyQ K H t n2 ∧ TyQ K H e n3 ∧ TyQ K H y n4 ∧
  (∀ i, t = .int i → SeqR K H p (fun xs => arePz xs i) pb) ∧ SeqR K H g endOk gb ∧ ∀ H', Same H H' → Q (wfV l t p e y pb gb) H'
theorem btw_int {v : V} {a b : Int} (h : btw v a b = true) : ∃ i, v = .int i := by
  cases v <;> first | exact ⟨_, rfl⟩ | exact Bool.noConfusion h
theorem isB_ty {H : Hp} {v : V} {n : String} (h : TyQ K H v n) : isB v = (n == "bool") := by
  cases h <;> rfl

def spAcc (K : PySem.W.Frag) : Sp := fun vs H Q _ => ∃ f v, vs = [.str f, v] ∧ ((f = "limit" ∧ ∃ n, TyQ K H v n ∧ Q (.bl (btw v 1 20)) H) ∨ (f = "tries" ∧ ∃ n, TyQ K H v n ∧ Q (.bl (btw v 1 3)) H) ∨
  (f = "ending" ∧ ∃ gb, SeqR K H v endOk gb ∧ ∀ H', Same H H' → Q (.bl gb) H'))
theorem ok_accepts (T : Txt K mg) (D : Def K mg "accepts" s_accepts ["field", "value"]) (c_is_between : Cal P w K mg base 2 "is_between" (spBtw K))
    (c_is_ending : Cal P w K mg base 3 "_is_ending" (spEnd K)) : Cal P w K mg base 4 "accepts" (spAcc K) := by
  refine cal_of D sc_accepts (fun vs H Q E h => ?_) (fun f cdv A outer s H vs Q E hr h => ?_)
  · obtain ⟨f, v, rfl, _⟩ := h
    rfl
  · obtain ⟨f, v, rfl, h⟩ := h
    refine ⟨_, (pss_cons (ps_if (pt_cmpR op_eq (pv 0) pe_str (nomark _)) (pss_one (ps_ret (pe_f c_is_between hr (by decide) (by rfl) (pa_cons (pv 1) (pa_cons pe_int (pa_cons (pe_gx rfl T.g_MOST_LIMIT) pa_nil)))))) pss_nil)
      (pss_cons (ps_if (pt_cmpR op_eq (pv 0) pe_str (nomark _)) (pss_one (ps_ret (pe_f c_is_between hr (by decide) (by rfl) (pa_cons (pv 1) (pa_cons pe_int (pa_cons (pe_gx rfl T.g_MOST_TRIES) pa_nil)))))) pss_nil)
      (pss_one (ps_ret (pe_and (pe_cmpR op_eq (pv 0) pe_str (nomark _)) (pe_one (pe_f c_is_ending hr (by decide) (by rfl) (pa_cons (pv 1) pa_nil)))))))), ?_⟩
    have n1 : decide (V.str "tries" = V.str "limit") = false := decide_eq_false (fun z => absurd (V.str.inj z) (by decide))
    have n2 : decide (V.str "ending" = V.str "limit") = false := decide_eq_false (fun z => absurd (V.str.inj z) (by decide))
    have n3 : decide (V.str "ending" = V.str "tries") = false := decide_eq_false (fun z => absurd (V.str.inj z) (by decide))
    rcases h with ⟨rfl, n, ty, q⟩ | ⟨rfl, n, ty, q⟩ | ⟨rfl, gb, sq, q⟩
    · walk_at "rd"
      rw [decide_eq_true (Eq.refl (V.str "limit"))]
      walk_at "rd"
      refine ⟨v, n, 1, 20, rfl, ty, ?_⟩
      walk_at "rd"
      exact q
    · walk_at "rd"
      rw [n1]
      walk_at "rd"
      rw [decide_eq_true (Eq.refl (V.str "tries"))]
      walk_at "rd"
      refine ⟨v, n, 1, 3, rfl, ty, ?_⟩
      walk_at "rd"
      exact q
    · walk_at "rd"
      rw [n2]
      walk_at "rd"
      rw [n3]
      walk_at "rd"
      rw [decide_eq_true (Eq.refl (V.str "ending"))]
      walk_at "rd"
      refine SeqR.en sq fun H2 S2 => ?_
      walk_at "rd"
      exact q _ S2
theorem ok_wrong_field (T : Txt K mg) (D : Def K mg "_wrong_field" s_wrong_field ["limit", "tries", "pauses", "early", "lossy", "ending"]) (c_is_between : Cal P w K mg base 2 "is_between" (spBtw K))
    (c_are_pauses : Cal P w K mg base 3 "_are_pauses" (spAre K)) (c_accepts : Cal P w K mg base 4 "accepts" (spAcc K)) : Cal P w K mg base 5 "_wrong_field" (spWrong K) := by
  refine cal_of D sc_wrong_field (fun vs H Q E h => ?_) (fun f cdv A outer s H vs Q E hr h => ?_)
  · obtain ⟨l, t, p, e, y, g, _, _, _, _, _, _, rfl, _⟩ := h
    rfl
  · obtain ⟨l, t, p, e, y, g, n1, n2, n3, n4, pb, gb, rfl, t1, t2, t3, t4, hp, hg, q⟩ := h
    refine ⟨_, (pss_cons (ps_if (pt_not (pt_val (pe_f c_accepts hr (by decide) (by rfl) (pa_cons pe_str (pa_cons (pv 0) pa_nil))))) (pss_one (ps_ret pe_str)) pss_nil)
      (pss_cons (ps_if (pt_not (pt_val (pe_f c_accepts hr (by decide) (by rfl) (pa_cons pe_str (pa_cons (pv 1) pa_nil))))) (pss_one (ps_ret pe_str)) pss_nil)
      (pss_cons (ps_if (PW.pt (pw_and (pt_cmpR op_notN (pv 2) pe_non (nomark _)) (pw_and1 (pt_not (PW.pt (pw_and (pt_cmpR op_isN (pv 3) pe_non (nomark _)) (pw_and1 (pt_val (pe_f c_are_pauses hr (by decide) (by rfl) (pa_cons (pv 2) (pa_cons (pv 1) pa_nil))))))))))) (pss_one (ps_ret pe_str)) pss_nil)
      (pss_cons (ps_if (PW.pt (pw_and (pt_cmpR op_notN (pv 3) pe_non (nomark _)) (pw_and1 (pt_not (PW.pt (pw_and (pt_cmpR op_gt (pv 1) pe_int (nomark _)) (pw_and1 (pt_val (pe_f c_is_between hr (by decide) (by rfl) (pa_cons (pv 3) (pa_cons pe_int (pa_cons pe_int pa_nil)))))))))))) (pss_one (ps_ret pe_str)) pss_nil)
      (pss_cons (ps_if (pt_not (pt_val (pe_callB call_isi (by rfl) T.n_isinstance (by decide +kernel) (pa_cons (pv 4) (pa_cons (pe_ty "bool" (by rfl) T.n_bool (by decide +kernel)) pa_nil))))) (pss_one (ps_ret pe_str)) pss_nil)
      (pss_cons (ps_if (pt_not (pt_val (pe_f c_accepts hr (by decide) (by rfl) (pa_cons pe_str (pa_cons (pv 5) pa_nil))))) (pss_one (ps_ret pe_str)) pss_nil)
      (pss_one (ps_ret pe_non)))))))), ?_⟩
    walk_at "rd"
    refine ⟨_, l, rfl, .inl ⟨rfl, n1, t1, ?_⟩⟩
    walk_at "rd"
    unfold wfV at q
    cases e1 : btw l 1 20
    · rw [e1] at q
      show (if true = true then _ else _)
      walk_at "rd"
      exact q H (Same.refl H)
    rw [e1] at q
    show (if false = true then _ else _)
    walk_at "rd"
    refine ⟨_, t, rfl, .inr (.inl ⟨rfl, n2, t2, ?_⟩)⟩
    walk_at "rd"
    cases e2 : btw t 1 3
    · rw [e2] at q
      show (if true = true then _ else _)
      walk_at "rd"
      exact q H (Same.refl H)
    rw [e2] at q
    obtain ⟨i, rfl⟩ := btw_int e2
    have hp := hp i rfl
    show (if false = true then _ else _)
    walk_at "rd"
    refine ⟨rfl, ?_⟩
    walk_at "rd"
    have S := Same.refl H
    by_cases hen : e = .non
    · subst hen
      by_cases hpn : p = .non
      · subst hpn
        show (if false = true then _ else _)
        walk_at "rd"
        refine ⟨rfl, ?_⟩
        walk_at "rd"
        show (if false = true then _ else _)
        walk_at "rd"
        refine g_isi (TyQ.ext S t4) (kb_bool t4.mem) ?_
        rw [isB_ty t4] at q
        walk_at "rd"
        cases ey : (n4 == "bool")
        · rw [ey] at q
          show (if true = true then _ else _)
          walk_at "rd"
          exact q _ S
        · rw [ey] at q
          show (if false = true then _ else _)
          walk_at "rd"
          refine ⟨_, g, rfl, .inr (.inr ⟨rfl, gb, SeqR.ext S hg, fun H2 S2 => ?_⟩)⟩
          walk_at "rd"
          cases gb
          · show (if true = true then _ else _)
            walk_at "rd"
            exact q _ (Same.trans S S2)
          · show (if false = true then _ else _)
            walk_at "rd"
            exact q _ (Same.trans S S2)
      · rw [decide_eq_false hpn]
        rw [decide_eq_false hpn] at q
        show (if true = true then _ else _)
        walk_at "rd"
        refine ⟨rfl, ?_⟩
        walk_at "rd"
        show (if true = true then _ else _)
        walk_at "rd"
        refine hp.are fun H1 S1 => ?_
        walk_at "rd"
        cases pb
        · show (if true = true then _ else _)
          walk_at "rd"
          exact q H1 S1
        · show (if false = true then _ else _)
          walk_at "rd"
          refine ⟨rfl, ?_⟩
          walk_at "rd"
          show (if false = true then _ else _)
          walk_at "rd"
          have S := S1
          refine g_isi (TyQ.ext S t4) (kb_bool t4.mem) ?_
          rw [isB_ty t4] at q
          walk_at "rd"
          cases ey : (n4 == "bool")
          · rw [ey] at q
            show (if true = true then _ else _)
            walk_at "rd"
            exact q _ S
          · rw [ey] at q
            show (if false = true then _ else _)
            walk_at "rd"
            refine ⟨_, g, rfl, .inr (.inr ⟨rfl, gb, SeqR.ext S hg, fun H2 S2 => ?_⟩)⟩
            walk_at "rd"
            cases gb
            · show (if true = true then _ else _)
              walk_at "rd"
              exact q _ (Same.trans S S2)
            · show (if false = true then _ else _)
              walk_at "rd"
              exact q _ (Same.trans S S2)
    · rw [decide_eq_false hen] at q
      by_cases hpn : p = .non
      · subst hpn
        show (if false = true then _ else _)
        walk_at "rd"
        refine ⟨rfl, ?_⟩
        walk_at "rd"
        rw [decide_eq_false hen]
        show (if true = true then _ else _)
        walk_at "rd"
        have eg : gt1 (.int i) = decide (1 < i) := rfl
        rw [eg] at q
        refine g_ite (fun e3 => ?_) (fun e3 => ?_)
        · walk_at "rd"
          refine ⟨e, n3, 1, 20, rfl, t3, ?_⟩
          walk_at "rd"
          rw [e3] at q
          cases e4 : btw e 1 20
          · rw [e4] at q
            show (if true = true then _ else _)
            walk_at "rd"
            exact q H S
          · rw [e4] at q
            show (if false = true then _ else _)
            walk_at "rd"
            refine g_isi (TyQ.ext S t4) (kb_bool t4.mem) ?_
            rw [isB_ty t4] at q
            walk_at "rd"
            cases ey : (n4 == "bool")
            · rw [ey] at q
              show (if true = true then _ else _)
              walk_at "rd"
              exact q _ S
            · rw [ey] at q
              show (if false = true then _ else _)
              walk_at "rd"
              refine ⟨_, g, rfl, .inr (.inr ⟨rfl, gb, SeqR.ext S hg, fun H2 S2 => ?_⟩)⟩
              walk_at "rd"
              cases gb
              · show (if true = true then _ else _)
                walk_at "rd"
                exact q _ (Same.trans S S2)
              · show (if false = true then _ else _)
                walk_at "rd"
                exact q _ (Same.trans S S2)
        · rw [e3] at q
          walk_at "rd"
          show (if true = true then _ else _)
          walk_at "rd"
          exact q H S
      · rw [decide_eq_false hpn]
        rw [decide_eq_false hpn] at q
        show (if true = true then _ else _)
        walk_at "rd"
        refine ⟨rfl, ?_⟩
        walk_at "rd"
        rw [decide_eq_false hen]
        show (if false = true then _ else _)
        walk_at "rd"
        show (if true = true then _ else _)
        walk_at "rd"
        exact q H S
end
end K2

namespace K2
open PySem PySem.Spec PyProof.Rows L2 Mc
/-! ### a policy as data -/
inductive En where
  | go | deadline | stop (d : Int)
def En.vs : En → List V
  | .go => [.str sGo]
  | .deadline => [.str sDeadline]
  | .stop d => [.str sStop, .int d]
def En.ds : En → List PyData
  | .go => [.str sGo]
  | .deadline => [.str sDeadline]
  | .stop d => [.str sStop, .int d]
def En.ok : En → Prop
  | .stop d => 0 ≤ d ∧ d ≤ 20
  | _ => True
structure Pol where
  z : Str
  l : Int
  t : Int
  ps : List Int
  e : Option Int
  b : Bool
  g : En
def eV : Option Int → V
  | none => .non
  | some i => .int i
def eD : Option Int → PyData
  | none => .none
  | some i => .int i
def Pol.ds (q : Pol) : List PyData := [.str q.z, .int q.l, .int q.t, .tuple (q.ps.map .int), eD q.e, .bool q.b, .tuple q.g.ds]
def Pol.vs (q : Pol) (pa ga : Addr) : List V := [.str q.z, .int q.l, .int q.t, .ref pa, eV q.e, .bl q.b, .ref ga]
structure Pol.ok (q : Pol) : Prop where
  nm : isNm q.z = true
  nl : q.z.length ≤ 1000
  l1 : 1 ≤ q.l
  l2 : q.l ≤ 20
  t1 : 1 ≤ q.t
  t2 : q.t ≤ 3
  e1 : ∀ i, q.e = some i → 2 ≤ q.t ∧ 1 ≤ i ∧ i ≤ 20 ∧ q.ps = []
  e0 : q.e = none → (q.ps.length : Int) = q.t - 1 ∧ ∀ i ∈ q.ps, 0 ≤ i ∧ i ≤ 8
  g1 : q.g.ok
def pfs (n l t p e y g : V) : List (Str × V) := [("_name", n), ("_limit", l), ("_tries", t), ("_pauses", p), ("_early", e), ("_lossy", y), ("_ending", g)]
def Pol.fs (q : Pol) (pa ga : Addr) : List (Str × V) := pfs (.str q.z) (.int q.l) (.int q.t) (.ref pa) (eV q.e) (.bl q.b) (.ref ga)
structure Tups (K : PySem.W.Frag) (H : Hp) (q : Pol) (pa ga : Addr) : Prop where
  p : TupV K H pa (q.ps.map V.int)
  g : TupV K H ga q.g.vs
theorem Tups.ext {K : PySem.W.Frag} {H H' : Hp} {q : Pol} {pa ga : Addr} (e : Same H H') (h : Tups K H q pa ga) : Tups K H' q pa ga := ⟨TupV.ext e h.p, TupV.ext e h.g⟩
def PolAt (K : PySem.W.Frag) (C : Addr) (H : Hp) (a : Addr) (q : Pol) : Prop := ∃ dx pa ga, H a = some (.ins C dx (q.fs pa ga)) ∧ Tups K H q pa ga
theorem PolAt.ext {K : PySem.W.Frag} {C : Addr} {H H' : Hp} {a : Addr} {q : Pol} (e : Same H H') (h : PolAt K C H a q) : PolAt K C H' a q := by
  obtain ⟨dx, pa, ga, h1, h2⟩ := h
  exact ⟨dx, pa, ga, e _ _ h1, h2.ext e⟩

theorem endOk_ok {g : En} (h : g.ok) : endOk g.vs = true := by
  cases g with
  | go => decide +kernel
  | deadline => decide +kernel
  | stop d =>
    have h1 : 0 ≤ d := h.1
    have h2 : d ≤ 20 := h.2
    simp [En.vs, endOk, btw, h1, h2]
theorem typed_en {K : PySem.W.Frag} {H : Hp} {g : En} : Typed K H g.vs := by
  intro x hx
  cases g <;> simp [En.vs] at hx
  · subst hx; exact ⟨_, .str _⟩
  · subst hx; exact ⟨_, .str _⟩
  · rcases hx with rfl | rfl
    · exact ⟨_, .str _⟩
    · exact ⟨_, .int _⟩
theorem en_len {g : En} : g.vs.length ≤ 1000 := by cases g <;> simp [En.vs]
theorem typed_ints {K : PySem.W.Frag} {H : Hp} {ns : List Int} : Typed K H (ns.map V.int) := by
  intro x hx
  obtain ⟨i, _, rfl⟩ := List.mem_map.mp hx
  exact ⟨_, .int i⟩
theorem dp_ints {K : PySem.W.Frag} {H : Hp} : ∀ ns : List Int, DpAll K H (ns.map V.int) (ns.map PyData.int)
  | [] => .nil
  | i :: r => .cons (.int i) (dp_ints r)
theorem dp_en {K : PySem.W.Frag} {H : Hp} {g : En} : DpAll K H g.vs g.ds := by
  cases g with
  | go => exact .cons (.str _) .nil
  | deadline => exact .cons (.str _) .nil
  | stop d => exact .cons (.str _) (.cons (.int _) .nil)
theorem dp_e {K : PySem.W.Frag} {H : Hp} {e : Option Int} : Dp K H (eV e) (eD e) := by
  cases e with
  | none => exact .non
  | some i => exact .int i
theorem dp_pol {K : PySem.W.Frag} {H : Hp} {q : Pol} {pa ga : Addr} (h : Tups K H q pa ga) : DpAll K H (q.vs pa ga) q.ds :=
  .cons (.str _) (.cons (.int _) (.cons (.int _) (.cons (.tup h.p.sq (dp_ints _)) (.cons dp_e (.cons (.bl _) (.cons (.tup h.g.sq dp_en) .nil))))))

section
variable {P : Program} {w : World} {K : PySem.W.Frag} {mg : Str → Option Value} {base : Heap}
local macro_rules | `(tactic| walk_at "rd1") => `(tactic| first
  | with_reducible refine g_seq ?_
  | with_reducible refine g_asg ?_
  | with_reducible refine g_name ?_
  | with_reducible refine g_c ?_
  | with_reducible refine g_op ?_
  | with_reducible refine g_ifS ?_
  | with_reducible refine g_if ?_
  | with_reducible refine g_test ?_
  | with_reducible refine g_B ?_
  | with_reducible refine g_bl ?_
  | with_reducible refine g_blV ?_
  | with_reducible refine g_not ?_
  | with_reducible refine g_and ?_
  | with_reducible refine g_or ?_
  | with_reducible refine g_notV ?_
  | with_reducible refine g_andV ?_
  | with_reducible refine g_orV ?_
  | with_reducible refine g_ret ?_
  | with_reducible refine g_drop ?_
  | with_reducible refine g_next ?_
  | with_reducible refine g_retN ?_
  | with_reducible refine g_call ?_
  | with_reducible refine g_cb ?_
  | with_reducible refine g_cons ?_
  | with_reducible refine g_nil ?_
  | with_reducible refine g_tup ?_
  | with_reducible refine g_lst ?_
  | with_reducible refine g_prop ?_
  | with_reducible refine g_fld ?_
  | with_reducible refine g_meth ?_
  | with_reducible refine g_chain ?_
  | with_reducible refine g_yes ?_
  | with_reducible refine g_make ?_
  | with_reducible refine g_makeK ?_
  | with_reducible refine g_gsub ?_
  | with_reducible refine g_sfld ?_
  | with_reducible refine g_un ?_
  | with_reducible refine g_bm ?_
  | with_reducible refine g_iteT ?_
  | with_reducible refine g_iteF ?_
  | with_reducible refine g_I0 ?_
  | with_reducible refine g_add ?_
  | with_reducible refine g_sub ?_
  | ((with_reducible refine' g_var ?hv ?_); (case hv => rfl))
  | ((with_reducible refine g_eq ?hv ?_); (case hv => rfl))
  | ((with_reducible refine g_ne ?hv ?_); (case hv => rfl)))
local macro_rules | `(tactic| walk_at "rd") => `(tactic| repeat (walk_at "rd1"))

local macro_rules | `(tactic| walk_at "ty") => `(tactic| first | exact .non | exact .bl _ | exact .int _ | exact .str _ | exact .lst (by assumption) | exact .tup (by assumption) | exact .dK (by assumption) | exact .kTup (by assumption) (by assumption))
local macro_rules | `(tactic| walk_at "isiF") => `(tactic| refine g_isi (by walk_at "ty") (b := false) (by decide +kernel) ?_)
local macro_rules | `(tactic| walk_at "isiT") => `(tactic| refine g_isi (by walk_at "ty") (b := true) (by decide +kernel) ?_)

structure CTxt (K : PySem.W.Frag) (C : Addr) : Prop where
  cl : Cls K C
  n1 : NoAttr K C "_name"
  n2 : NoAttr K C "_limit"
  n3 : NoAttr K C "_tries"
  n4 : NoAttr K C "_pauses"
  n5 : NoAttr K C "_early"
  n6 : NoAttr K C "_lossy"
  n7 : NoAttr K C "_ending"
theorem pf_skip {f h : Str} {v x : V} {r : List (Str × V)} (n : ¬ h = f) : putF f v ((h, x) :: r) = (h, x) :: putF f v r := if_neg n
theorem pf_nil {f : Str} {v : V} : putF f v [] = [(f, v)] := rfl
theorem pf_all {n l t p e y g : V} : putF "_ending" g (putF "_lossy" y (putF "_early" e (putF "_pauses" p (putF "_tries" t (putF "_limit" l (putF "_name" n [])))))) = pfs n l t p e y g := by
  unfold pfs
  rw [pf_nil]
  rw [pf_skip (f := "_limit") (h := "_name") (by decide +kernel)]
  rw [pf_nil]
  rw [pf_skip (f := "_tries") (h := "_name") (by decide +kernel)]
  rw [pf_skip (f := "_tries") (h := "_limit") (by decide +kernel)]
  rw [pf_nil]
  rw [pf_skip (f := "_pauses") (h := "_name") (by decide +kernel)]
  rw [pf_skip (f := "_pauses") (h := "_limit") (by decide +kernel)]
  rw [pf_skip (f := "_pauses") (h := "_tries") (by decide +kernel)]
  rw [pf_nil]
  rw [pf_skip (f := "_early") (h := "_name") (by decide +kernel)]
  rw [pf_skip (f := "_early") (h := "_limit") (by decide +kernel)]
  rw [pf_skip (f := "_early") (h := "_tries") (by decide +kernel)]
  rw [pf_skip (f := "_early") (h := "_pauses") (by decide +kernel)]
  rw [pf_nil]
  rw [pf_skip (f := "_lossy") (h := "_name") (by decide +kernel)]
  rw [pf_skip (f := "_lossy") (h := "_limit") (by decide +kernel)]
  rw [pf_skip (f := "_lossy") (h := "_tries") (by decide +kernel)]
  rw [pf_skip (f := "_lossy") (h := "_pauses") (by decide +kernel)]
  rw [pf_skip (f := "_lossy") (h := "_early") (by decide +kernel)]
  rw [pf_nil]
  rw [pf_skip (f := "_ending") (h := "_name") (by decide +kernel)]
  rw [pf_skip (f := "_ending") (h := "_limit") (by decide +kernel)]
  rw [pf_skip (f := "_ending") (h := "_tries") (by decide +kernel)]
  rw [pf_skip (f := "_ending") (h := "_pauses") (by decide +kernel)]
  rw [pf_skip (f := "_ending") (h := "_early") (by decide +kernel)]
  rw [pf_skip (f := "_ending") (h := "_lossy") (by decide +kernel)]
  rw [pf_nil]
def spInit (K : PySem.W.Frag) (C : Addr) : Sp := fun vs H Q _ => ∃ x dx q p ga, vs = [.ref x, .str q.z, .int q.l, .int q.t, p, eV q.e, .bl q.b, .ref ga] ∧ q.ok ∧ H x = some (.ins C dx []) ∧ TupV K H ga q.g.vs ∧
  ((p = .non ∧ (q.e = none → q.ps = List.replicate (q.t - 1).toNat 0)) ∨ (q.e = none ∧ ∃ pa, p = .ref pa ∧ TupV K H pa (q.ps.map V.int))) ∧
  ∀ H', PolAt K C H' x q → (∀ b o, H b = some o → b ≠ x → H' b = some o) → Q .non H'
theorem all_btw {ns : List Int} (h : ∀ i ∈ ns, 0 ≤ i ∧ i ≤ 8) : (ns.map V.int).all (fun x => btw x 0 8) = true := by
  rw [List.all_map, List.all_eq_true]
  intro i hi
  show (decide (0 ≤ i) && decide (i ≤ 8)) = true
  rw [decide_eq_true (h i hi).1, decide_eq_true (h i hi).2]
  rfl
theorem wf_ok {q : Pol} {p : V} (ok : q.ok) (hp : p = .non ∨ q.e = none) : wfV (.int q.l) (.int q.t) p (eV q.e) (.bl q.b) true true = .non := by
  unfold wfV
  have a1 : btw (.int q.l) 1 20 = true := by show (decide _ && decide _) = true; rw [decide_eq_true ok.l1, decide_eq_true ok.l2]; rfl
  have a2 : btw (.int q.t) 1 3 = true := by show (decide _ && decide _) = true; rw [decide_eq_true ok.t1, decide_eq_true ok.t2]; rfl
  rw [a1, a2, if_pos rfl, if_pos rfl]
  have a3 : (!decide (p = .non) && !(decide (eV q.e = .non) && true)) = false := by
    rcases hp with rfl | h
    · simp
    · rw [h]
      simp [eV]
  have a4 : (!decide (eV q.e = .non) && !(gt1 (.int q.t) && btw (eV q.e) 1 20)) = false := by
    cases he : q.e with
    | none => simp [eV]
    | some i =>
      obtain ⟨h1, h2, h3, _⟩ := ok.e1 i he
      have b1 : gt1 (.int q.t) = true := decide_eq_true (by omega)
      have b2 : btw (eV (some i)) 1 20 = true := by show (decide _ && decide _) = true; rw [decide_eq_true h2, decide_eq_true h3]; rfl
      rw [b1, b2]
      simp
  rw [a3, a4]
  rfl
theorem lenP {k : Nat} {f : Str} {v : V} : ∀ {fs : List (Str × V)}, fs.length ≤ k → (putF f v fs).length ≤ k + 1
  | [], _ => by show 1 ≤ k + 1; omega
  | (h, x) :: r, hk => by
    by_cases e : h = f
    · have q : putF f v ((h, x) :: r) = (h, v) :: r := if_pos e
      rw [q]
      simp at hk ⊢
      omega
    · rw [pf_skip e]
      cases k with
      | zero => simp at hk
      | succ k =>
        have := lenP (k := k) (f := f) (v := v) (fs := r) (by simpa using hk)
        simp
        exact this
theorem ltP (k : Nat) {fs : List (Str × V)} (h : fs.length ≤ k) (hk : k < 1000) : fs.length < 1000 := Nat.lt_of_le_of_lt h hk
theorem TupV.put {H : Hp} {x C dx a : Addr} {fs : List (Str × V)} {xs : List V} {o : HO} (hx : H x = some (.ins C dx fs)) (h : TupV K H a xs) : TupV K (upd H x o) a xs := by
  have off : ∀ {b : Addr} {u : HO}, H b = some u → (∀ C' d' f', u ≠ .ins C' d' f') → upd H x o b = some u := fun {b u} hb hu => by
    rw [upd_ne (fun e => by rw [e, hx] at hb; exact hu _ _ _ (Option.some.inj hb).symm)]
    exact hb
  obtain ⟨ty, sq⟩ := h
  constructor
  · generalize hn : "tuple" = n at ty
    cases ty with
    | tup e => exact .tup (off e (by intro _ _ _ z; cases z))
    | kTup e c => exact .kTup e c
    | lst e => exact absurd hn (by decide)
    | dK e => exact absurd hn (by decide)
  · rcases sq with (h | ⟨ob, h⟩) | h
    · exact .inl (.inl (off h (by intro _ _ _ z; cases z)))
    · exact .inl (.inr ⟨ob, off h (by intro _ _ _ z; cases z)⟩)
    · exact .inr h

abbrev kwsP (go : Addr) : List (Str × V) := [("tries", .int 1), ("pauses", .non), ("early", .non), ("lossy", .bl false), ("ending", .ref go)]
abbrev psP : List Str := ["self", "name", "limit", "tries", "pauses", "early", "lossy", "ending"]
theorem ok_init {f C go : Addr} {fd : FuncData} (F : FunD K "__init__" "Policy.__init__" (defArgs s_Policyinit) (defBody s_Policyinit) (defScope s_Policyinit) [] (kwsP go) f fd) (T : Txt K mg) (TC : CTxt K C)
    (c_is_name : Cal P w K mg base 1 "is_name" (spName K)) (c_wrong_field : Cal P w K mg base 5 "_wrong_field" (spWrong K)) (c_all_pauses : Cal P w K mg base 1 "_all_pauses" (spAll K)) :
    FnOk P w K mg base CX0 6 f fd psP (spInit K C) := by
  refine F.ok sc_Policyinit (fun vs H Q E h => ?_) (fun cdv A outer s H vs Q E hr h => ?_)
  · obtain ⟨x, dx, q, p, ga, rfl, _⟩ := h
    rfl
  · obtain ⟨x, dx, q, p, ga, rfl, ok, hx, tg, hp, k⟩ := h
    refine ⟨_, (pss_cons (ps_if (pt_not (pt_val (pe_f c_is_name hr (by decide) (by rfl) (pa_cons (pv 1) pa_nil)))) (pss_one ps_never) pss_nil)
      (pss_cons (ps_set (i := 8) sc_Policyinit.nd rfl (Or.inl rfl) (pe_f c_wrong_field hr (by decide) (by rfl) (pa_cons (pv 2) (pa_cons (pv 3) (pa_cons (pv 4) (pa_cons (pv 5) (pa_cons (pv 6) (pa_cons (pv 7) pa_nil))))))))
      (pss_cons (ps_if (pt_cmpR op_notN (pv 8) pe_non (nomark _)) (pss_one ps_never) pss_nil)
      (pss_cons (ps_fld (pv 0) (pv 1) rfl)
      (pss_cons (ps_fld (pv 0) (pv 2) rfl)
      (pss_cons (ps_fld (pv 0) (pv 3) rfl)
      (pss_cons (ps_fld (pv 0) (pe_f c_all_pauses hr (by decide) (by rfl) (pa_cons (pv 3) (pa_cons (pv 4) (pa_cons (pv 5) pa_nil)))) rfl)
      (pss_cons (ps_fld (pv 0) (pv 5) rfl)
      (pss_cons (ps_fld (pv 0) (pv 6) rfl)
      (pss_one (ps_fld (pv 0) (pv 7) rfl))))))))))), ?_⟩
    walk_at "rd"
    refine ⟨.str q.z, _, rfl, .str _, fun z e => by injection e with e; rw [← e]; exact ok.nl, fun H1 S1 => ?_⟩
    walk_at "rd"
    have e1 : nmV (.str q.z) = true := ok.nm
    rw [e1]
    show (if false = true then _ else _)
    walk_at "rd"
    have te : ∃ n, TyQ K H1 (eV q.e) n := by
      cases q.e with
      | none => exact ⟨_, .non⟩
      | some i => exact ⟨_, .int i⟩
    obtain ⟨ne, te⟩ := te
    have hpp : p = .non ∨ q.e = none := hp.elim (fun h => .inl h.1) (fun h => .inr h.1)
    -- what the pauses are
    have sp : ∃ pb, (∀ i, V.int q.t = V.int i → SeqR K H1 p (fun xs => arePz xs i) pb) ∧ wfV (.int q.l) (.int q.t) p (eV q.e) (.bl q.b) pb true = .non := by
      rcases hp with ⟨rfl, _⟩ | ⟨he, pa, rfl, tp⟩
      · refine ⟨false, fun i _ => .inl ⟨_, .non, by decide, rfl⟩, ?_⟩
        have := wf_ok (p := .non) ok (.inl rfl)
        unfold wfV at this ⊢
        simpa using this
      · refine ⟨true, fun i hi => ?_, wf_ok ok (.inr he)⟩
        injection hi with hi
        subst hi
        obtain ⟨hl, hb⟩ := ok.e0 he
        refine .inr ⟨pa, _, rfl, TupV.ext S1 tp, typed_ints, ?_, ?_⟩
        · rw [List.length_map]
          have := ok.t2
          omega
        · show true = (decide (V.int (((q.ps.map V.int).length : Nat) : Int) = V.int (q.t - 1)) && (q.ps.map V.int).all fun x => btw x 0 8)
          rw [all_btw hb, List.length_map, hl]
          simp
    obtain ⟨pb, sp, hw⟩ := sp
    refine ⟨_, _, p, _, _, _, "int", "int", ne, "bool", pb, true, rfl, .int _, .int _, te, .bl _, sp, .inr ⟨ga, _, rfl, TupV.ext S1 tg, typed_en, en_len, (endOk_ok ok.g1).symm⟩, fun H2 S2 => ?_⟩
    rw [hw]
    walk_at "rd"
    refine ⟨rfl, ?_⟩
    walk_at "rd"
    show (if false = true then _ else _)
    walk_at "rd"
    have S := Same.trans S1 S2
    refine ⟨x, C, dx, _, rfl, S _ _ hx, TC.cl, TC.n1, (by show 0 < 1000; decide), ?_⟩
    walk_at "rd"
    refine ⟨x, C, dx, _, rfl, upd_same, TC.cl, TC.n2, (by show 1 < 1000; decide), ?_⟩
    walk_at "rd"
    refine ⟨x, C, dx, _, rfl, upd_same, TC.cl, TC.n3, ltP 2 (lenP (lenP (Nat.zero_le _))) (by decide), ?_⟩
    walk_at "rd"
    have hx2 := S _ _ hx
    refine ⟨q.t, p, eV q.e, rfl, ok.t1, (by have := ok.t2; omega), fun he b H3 S3 hb => ?_, fun he hp0 b H3 S3 hb => ?_, fun he hp0 => ?_⟩
    · have eps : q.ps = [] := by
        cases e : q.e with
        | none => rw [e] at he; exact absurd rfl he
        | some i => exact (ok.e1 i e).2.2.2
      have tb : TupV K H3 b (q.ps.map V.int) := by rw [eps]; exact ⟨.tup hb, SqT.of hb⟩
      have tga : TupV K H3 ga q.g.vs := TupV.ext S3 (TupV.put upd_same (TupV.put upd_same (TupV.put hx2 (TupV.ext S tg))))
      walk_at "rd"
      refine ⟨x, C, dx, _, rfl, S3 _ _ upd_same, TC.cl, TC.n4, ltP 3 (lenP (lenP (lenP (Nat.zero_le _)))) (by decide), ?_⟩
      walk_at "rd"
      refine ⟨x, C, dx, _, rfl, upd_same, TC.cl, TC.n5, ltP 4 (lenP (lenP (lenP (lenP (Nat.zero_le _))))) (by decide), ?_⟩
      walk_at "rd"
      refine ⟨x, C, dx, _, rfl, upd_same, TC.cl, TC.n6, ltP 5 (lenP (lenP (lenP (lenP (lenP (Nat.zero_le _)))))) (by decide), ?_⟩
      walk_at "rd"
      refine ⟨x, C, dx, _, rfl, upd_same, TC.cl, TC.n7, ltP 6 (lenP (lenP (lenP (lenP (lenP (lenP (Nat.zero_le _))))))) (by decide), ?_⟩
      rw [pf_all]
      refine k _ ⟨dx, b, ga, upd_same, ?_⟩ (fun c o hc hn => ?_)
      · exact ⟨TupV.put upd_same (TupV.put upd_same (TupV.put upd_same (TupV.put (S3 _ _ upd_same) tb))), TupV.put upd_same (TupV.put upd_same (TupV.put upd_same (TupV.put (S3 _ _ upd_same) tga)))⟩
      · rw [upd_ne hn, upd_ne hn, upd_ne hn, upd_ne hn]
        refine S3 _ _ ?_
        rw [upd_ne hn, upd_ne hn, upd_ne hn]
        exact S _ _ hc
    · have eps : q.ps = List.replicate (q.t - 1).toNat 0 := by
        rcases hp with ⟨_, h⟩ | ⟨_, pa, h, _⟩
        · refine h ?_
          cases e : q.e with
          | none => rfl
          | some i => rw [e] at he; exact absurd he (by intro z; cases z)
        · rw [hp0] at h
          cases h
      have hb' : H3 b = some (.tup (q.ps.map V.int)) := by rw [hb, eps, List.map_replicate]
      have tb : TupV K H3 b (q.ps.map V.int) := ⟨.tup hb', SqT.of hb'⟩
      have tga : TupV K H3 ga q.g.vs := TupV.ext S3 (TupV.put upd_same (TupV.put upd_same (TupV.put hx2 (TupV.ext S tg))))
      walk_at "rd"
      refine ⟨x, C, dx, _, rfl, S3 _ _ upd_same, TC.cl, TC.n4, ltP 3 (lenP (lenP (lenP (Nat.zero_le _)))) (by decide), ?_⟩
      walk_at "rd"
      refine ⟨x, C, dx, _, rfl, upd_same, TC.cl, TC.n5, ltP 4 (lenP (lenP (lenP (lenP (Nat.zero_le _))))) (by decide), ?_⟩
      walk_at "rd"
      refine ⟨x, C, dx, _, rfl, upd_same, TC.cl, TC.n6, ltP 5 (lenP (lenP (lenP (lenP (lenP (Nat.zero_le _)))))) (by decide), ?_⟩
      walk_at "rd"
      refine ⟨x, C, dx, _, rfl, upd_same, TC.cl, TC.n7, ltP 6 (lenP (lenP (lenP (lenP (lenP (lenP (Nat.zero_le _))))))) (by decide), ?_⟩
      rw [pf_all]
      refine k _ ⟨dx, b, ga, upd_same, ?_⟩ (fun c o hc hn => ?_)
      · exact ⟨TupV.put upd_same (TupV.put upd_same (TupV.put upd_same (TupV.put (S3 _ _ upd_same) tb))), TupV.put upd_same (TupV.put upd_same (TupV.put upd_same (TupV.put (S3 _ _ upd_same) tga)))⟩
      · rw [upd_ne hn, upd_ne hn, upd_ne hn, upd_ne hn]
        refine S3 _ _ ?_
        rw [upd_ne hn, upd_ne hn, upd_ne hn]
        exact S _ _ hc
    · rcases hp with ⟨h, _⟩ | ⟨_, b, h, tp⟩
      · exact absurd h hp0
      · subst h
        have tb0 := (TupV.put (o := (.ins C dx (putF "_tries" (.int q.t) (putF "_limit" (.int q.l) (putF "_name" (.str q.z) []))))) upd_same (TupV.put (o := (.ins C dx (putF "_limit" (.int q.l) (putF "_name" (.str q.z) [])))) upd_same (TupV.put (o := (.ins C dx (putF "_name" (.str q.z) []))) hx2 (TupV.ext S tp))))
        obtain ⟨H3, hH3⟩ : ∃ H3, H3 = (upd (upd (upd H2 x (.ins C dx (putF "_name" (.str q.z) []))) x (.ins C dx (putF "_limit" (.int q.l) (putF "_name" (.str q.z) [])))) x (.ins C dx (putF "_tries" (.int q.t) (putF "_limit" (.int q.l) (putF "_name" (.str q.z) []))))) := ⟨_, rfl⟩
        have S3 : Same (upd (upd (upd H2 x (.ins C dx (putF "_name" (.str q.z) []))) x (.ins C dx (putF "_limit" (.int q.l) (putF "_name" (.str q.z) [])))) x (.ins C dx (putF "_tries" (.int q.t) (putF "_limit" (.int q.l) (putF "_name" (.str q.z) []))))) H3 := by rw [hH3]; exact Same.refl _
        rw [← hH3] at tb0 ⊢
        have tb := tb0
        have tga : TupV K H3 ga q.g.vs := TupV.ext S3 (TupV.put upd_same (TupV.put upd_same (TupV.put hx2 (TupV.ext S tg))))
        walk_at "rd"
        refine ⟨x, C, dx, _, rfl, S3 _ _ upd_same, TC.cl, TC.n4, ltP 3 (lenP (lenP (lenP (Nat.zero_le _)))) (by decide), ?_⟩
        walk_at "rd"
        refine ⟨x, C, dx, _, rfl, upd_same, TC.cl, TC.n5, ltP 4 (lenP (lenP (lenP (lenP (Nat.zero_le _))))) (by decide), ?_⟩
        walk_at "rd"
        refine ⟨x, C, dx, _, rfl, upd_same, TC.cl, TC.n6, ltP 5 (lenP (lenP (lenP (lenP (lenP (Nat.zero_le _)))))) (by decide), ?_⟩
        walk_at "rd"
        refine ⟨x, C, dx, _, rfl, upd_same, TC.cl, TC.n7, ltP 6 (lenP (lenP (lenP (lenP (lenP (lenP (Nat.zero_le _))))))) (by decide), ?_⟩
        rw [pf_all]
        refine k _ ⟨dx, b, ga, upd_same, ?_⟩ (fun c o hc hn => ?_)
        · exact ⟨TupV.put upd_same (TupV.put upd_same (TupV.put upd_same (TupV.put (S3 _ _ upd_same) tb))), TupV.put upd_same (TupV.put upd_same (TupV.put upd_same (TupV.put (S3 _ _ upd_same) tga)))⟩
        · rw [upd_ne hn, upd_ne hn, upd_ne hn, upd_ne hn]
          refine S3 _ _ ?_
          rw [upd_ne hn, upd_ne hn, upd_ne hn]
          exact S _ _ hc
end
end K2

namespace K2
open PySem PySem.Spec PyProof.Rows L2 Mc Mx
section
variable {P : Program} {w : World} {K : PySem.W.Frag} {mg : Str → Option Value} {base : Heap}
local macro_rules | `(tactic| walk_at "rd1") => `(tactic| first
  | with_reducible refine g_seq ?_
  | with_reducible refine g_asg ?_
  | with_reducible refine g_name ?_
  | with_reducible refine g_c ?_
  | with_reducible refine g_op ?_
  | with_reducible refine g_ifS ?_
  | with_reducible refine g_if ?_
  | with_reducible refine g_test ?_
  | with_reducible refine g_B ?_
  | with_reducible refine g_bl ?_
  | with_reducible refine g_blV ?_
  | with_reducible refine g_not ?_
  | with_reducible refine g_and ?_
  | with_reducible refine g_or ?_
  | with_reducible refine g_notV ?_
  | with_reducible refine g_andV ?_
  | with_reducible refine g_orV ?_
  | with_reducible refine g_ret ?_
  | with_reducible refine g_drop ?_
  | with_reducible refine g_next ?_
  | with_reducible refine g_retN ?_
  | with_reducible refine g_call ?_
  | with_reducible refine g_cb ?_
  | with_reducible refine g_cons ?_
  | with_reducible refine g_nil ?_
  | with_reducible refine g_tup ?_
  | with_reducible refine g_lst ?_
  | with_reducible refine g_prop ?_
  | with_reducible refine g_fld ?_
  | with_reducible refine g_meth ?_
  | with_reducible refine g_chain ?_
  | with_reducible refine g_yes ?_
  | with_reducible refine g_make ?_
  | with_reducible refine g_makeK ?_
  | with_reducible refine g_gsub ?_
  | with_reducible refine g_sfld ?_
  | with_reducible refine g_un ?_
  | with_reducible refine g_bm ?_
  | with_reducible refine g_iteT ?_
  | with_reducible refine g_iteF ?_
  | with_reducible refine g_I0 ?_
  | with_reducible refine g_add ?_
  | with_reducible refine g_sub ?_
  | ((with_reducible refine' g_var ?hv ?_); (case hv => rfl))
  | ((with_reducible refine g_eq ?hv ?_); (case hv => rfl))
  | ((with_reducible refine g_ne ?hv ?_); (case hv => rfl)))
local macro_rules | `(tactic| walk_at "rd") => `(tactic| repeat (walk_at "rd1"))

local macro_rules | `(tactic| walk_at "ty") => `(tactic| first | exact .non | exact .bl _ | exact .int _ | exact .str _ | exact .lst (by assumption) | exact .tup (by assumption) | exact .dK (by assumption) | exact .kTup (by assumption) (by assumption))
local macro_rules | `(tactic| walk_at "isiF") => `(tactic| refine g_isi (by walk_at "ty") (b := false) (by decide +kernel) ?_)
local macro_rules | `(tactic| walk_at "isiT") => `(tactic| refine g_isi (by walk_at "ty") (b := true) (by decide +kernel) ?_)

theorem g_ost {σ : L2.St} {H : Hp} {D : Ends} {f : Str} {to te : TE} (q : te σ H fun y H1 => to σ H1 fun x H2 => ∃ a C : Addr, x = .ref a ∧ OexC K C ∧ PySem.W.findIn K (.ref C) f = some none ∧
  ((H2 a = some (exo a C none) ∧ ∀ dx, H2 dx = none → dx ≠ a → D.nx σ (upd (upd H2 dx (exd dx [(f, y)])) a (exo a C (some dx)))) ∨
    ∃ (dx : Addr) (fs : List (Str × V)), H2 a = some (exo a C (some dx)) ∧ H2 dx = some (exd dx fs) ∧ fs.length ≤ 900 ∧ D.nx σ (upd H2 dx (exd dx ((f, y) :: fs))))) : tOst K f to te D σ H := q
theorem ok_InvalidName {C f cda cc : Addr} {fd : FuncData} (D : SupD P K "__init__" "InvalidName.__init__" (defArgs s_InvalidNameinit) (defBody s_InvalidNameinit) (defScope s_InvalidNameinit) C f fd cda cc) (T : SupC P K mg C) (nf : PySem.W.findIn K (.ref C) "value" = some none) :
    FnOk P w K mg base CX0 1 f fd ["self", "value"] (spEx C "value") := by
  refine fn_sup D T sc_InvalidNameinit rfl rfl (by decide +kernel) (by decide +kernel) (fun vs H Q E h => ?_) (fun L => ⟨_, rfl⟩) (fun A outer s H vs Q E h => ?_)
  · obtain ⟨a, v, rfl, _⟩ := h
    rfl
  · obtain ⟨a, v, rfl, ha, q⟩ := h
    refine ⟨a, rfl, ha, _, pss_one (ps_ost (pv 0) (pv 1)), ?_⟩
    refine g_ost ?_
    walk_at "rd"
    exact ⟨a, C, rfl, T.ox, nf, .inl ⟨ha, q⟩⟩
theorem ok_InvalidPolicy {C f cda cc : Addr} {fd : FuncData} (D : SupD P K "__init__" "InvalidPolicy.__init__" (defArgs s_InvalidPolicyinit) (defBody s_InvalidPolicyinit) (defScope s_InvalidPolicyinit) C f fd cda cc) (T : SupC P K mg C) (nf : PySem.W.findIn K (.ref C) "field" = some none) :
    FnOk P w K mg base CX0 1 f fd ["self", "field"] (spEx C "field") := by
  refine fn_sup D T sc_InvalidPolicyinit rfl rfl (by decide +kernel) (by decide +kernel) (fun vs H Q E h => ?_) (fun L => ⟨_, rfl⟩) (fun A outer s H vs Q E h => ?_)
  · obtain ⟨a, v, rfl, _⟩ := h
    rfl
  · obtain ⟨a, v, rfl, ha, q⟩ := h
    refine ⟨a, rfl, ha, _, pss_one (ps_ost (pv 0) (pv 1)), ?_⟩
    refine g_ost ?_
    walk_at "rd"
    exact ⟨a, C, rfl, T.ox, nf, .inl ⟨ha, q⟩⟩
end
end K2

namespace K2
open PySem PySem.Spec PyProof.Rows L2 Mc Mx
section
variable {P : Program} {w : World} {K : PySem.W.Frag} {mg : Str → Option Value} {base : Heap}
local macro_rules | `(tactic| walk_at "rd1") => `(tactic| first
  | with_reducible refine g_seq ?_
  | with_reducible refine g_asg ?_
  | with_reducible refine g_name ?_
  | with_reducible refine g_c ?_
  | with_reducible refine g_op ?_
  | with_reducible refine g_ifS ?_
  | with_reducible refine g_if ?_
  | with_reducible refine g_test ?_
  | with_reducible refine g_B ?_
  | with_reducible refine g_bl ?_
  | with_reducible refine g_blV ?_
  | with_reducible refine g_not ?_
  | with_reducible refine g_and ?_
  | with_reducible refine g_or ?_
  | with_reducible refine g_notV ?_
  | with_reducible refine g_andV ?_
  | with_reducible refine g_orV ?_
  | with_reducible refine g_ret ?_
  | with_reducible refine g_drop ?_
  | with_reducible refine g_next ?_
  | with_reducible refine g_retN ?_
  | with_reducible refine g_call ?_
  | with_reducible refine g_cb ?_
  | with_reducible refine g_cons ?_
  | with_reducible refine g_nil ?_
  | with_reducible refine g_tup ?_
  | with_reducible refine g_lst ?_
  | with_reducible refine g_prop ?_
  | with_reducible refine g_fld ?_
  | with_reducible refine g_meth ?_
  | with_reducible refine g_chain ?_
  | with_reducible refine g_yes ?_
  | with_reducible refine g_make ?_
  | with_reducible refine g_makeK ?_
  | with_reducible refine g_gsub ?_
  | with_reducible refine g_sfld ?_
  | with_reducible refine g_un ?_
  | with_reducible refine g_bm ?_
  | with_reducible refine g_iteT ?_
  | with_reducible refine g_iteF ?_
  | with_reducible refine g_I0 ?_
  | with_reducible refine g_add ?_
  | with_reducible refine g_sub ?_
  | ((with_reducible refine' g_var ?hv ?_); (case hv => rfl))
  | ((with_reducible refine g_eq ?hv ?_); (case hv => rfl))
  | ((with_reducible refine g_ne ?hv ?_); (case hv => rfl)))
local macro_rules | `(tactic| walk_at "rd") => `(tactic| repeat (walk_at "rd1"))

local macro_rules | `(tactic| walk_at "ty") => `(tactic| first | exact .non | exact .bl _ | exact .int _ | exact .str _ | exact .lst (by assumption) | exact .tup (by assumption) | exact .dK (by assumption) | exact .kTup (by assumption) (by assumption))
local macro_rules | `(tactic| walk_at "isiF") => `(tactic| refine g_isi (by walk_at "ty") (b := false) (by decide +kernel) ?_)
local macro_rules | `(tactic| walk_at "isiT") => `(tactic| refine g_isi (by walk_at "ty") (b := true) (by decide +kernel) ?_)

def spBad (K : PySem.W.Frag) (C CN CP : Addr) : Sp := fun vs H _ E => ∃ x dx nm l t p e y g n0, vs = [.ref x, nm, l, t, p, e, y, g] ∧ H x = some (.ins C dx []) ∧ TyQ K H nm n0 ∧ (∀ z, nm = .str z → z.length ≤ 1000) ∧
  ((nmV nm = false ∧ ∀ d H', Same H H' → H' d = some (.xd [("value", nm)]) → E (.ref CN) (some d) H') ∨
   (nmV nm = true ∧ ∃ n1 n2 n3 n4 pb gb wd, TyQ K H l n1 ∧ TyQ K H t n2 ∧ TyQ K H e n3 ∧ TyQ K H y n4 ∧ (∀ i, t = .int i → SeqR K H p (fun xs => arePz xs i) pb) ∧ SeqR K H g endOk gb ∧ wfV l t p e y pb gb = .str wd ∧
     ∀ d H', Same H H' → H' d = some (.xd [("field", .str wd)]) → E (.ref CP) (some d) H'))
theorem ok_bad {f C go CN CP fN fP : Addr} {fd fdN fdP : FuncData} (F : FunD K "__init__" "Policy.__init__" (defArgs s_Policyinit) (defBody s_Policyinit) (defScope s_Policyinit) [] (kwsP go) f fd) (T : Txt K mg) (TC : CTxt K C)
    (c_is_name : Cal P w K mg base 1 "is_name" (spName K)) (c_wrong_field : Cal P w K mg base 5 "_wrong_field" (spWrong K)) (c_all_pauses : Cal P w K mg base 1 "_all_pauses" (spAll K))
    (TN : SupC P K mg CN) (TP : SupC P K mg CP) (EN : ExK P w K mg base "InvalidName" CN fN fdN ["self", "value"] (spEx CN "value")) (EP : ExK P w K mg base "InvalidPolicy" CP fP fdP ["self", "field"] (spEx CP "field")) :
    FnOk P w K mg base (CX P w) 6 f fd psP (spBad K C CN CP) := by
  refine F.ok sc_Policyinit (fun vs H Q E h => ?_) (fun cdv A outer s H vs Q E hr h => ?_)
  · obtain ⟨x, dx, nm, l, t, p, e, y, g, n0, rfl, _⟩ := h
    rfl
  · obtain ⟨x, dx, nm, l, t, p, e, y, g, n0, rfl, hx, tn, hz, h⟩ := h
    refine ⟨_, (pss_cons (ps_if (pt_not (pt_val (pe_f c_is_name hr (by decide) (by rfl) (pa_cons (pv 1) pa_nil)))) (pss_one (ps_raise rfl (takes_of rfl rfl rfl rfl) (pmk_oex TN.ox EN.iC EN.tI EN.ok (hr.mono (by decide)) EN.bi .nil pass0 (by rfl) EN.gl (pa_cons (pv 1) pa_nil)))) pss_nil)
      (pss_cons (ps_set (i := 8) sc_Policyinit.nd rfl (Or.inl rfl) (pe_f c_wrong_field hr (by decide) (by rfl) (pa_cons (pv 2) (pa_cons (pv 3) (pa_cons (pv 4) (pa_cons (pv 5) (pa_cons (pv 6) (pa_cons (pv 7) pa_nil))))))))
      (pss_cons (ps_if (pt_cmpR op_notN (pv 8) pe_non (nomark _)) (pss_one (ps_raise rfl (takes_of rfl rfl rfl rfl) (pmk_oex TP.ox EP.iC EP.tI EP.ok (hr.mono (by decide)) EP.bi .nil pass0 (by rfl) EP.gl (pa_cons (pv 8) pa_nil)))) pss_nil)
      (pss_cons (ps_fld (pv 0) (pv 1) rfl)
      (pss_cons (ps_fld (pv 0) (pv 2) rfl)
      (pss_cons (ps_fld (pv 0) (pv 3) rfl)
      (pss_cons (ps_fld (pv 0) (pe_f c_all_pauses hr (by decide) (by rfl) (pa_cons (pv 3) (pa_cons (pv 4) (pa_cons (pv 5) pa_nil)))) rfl)
      (pss_cons (ps_fld (pv 0) (pv 5) rfl)
      (pss_cons (ps_fld (pv 0) (pv 6) rfl)
      (pss_one (ps_fld (pv 0) (pv 7) rfl))))))))))), ?_⟩
    walk_at "rd"
    refine ⟨nm, n0, rfl, tn, hz, fun H1 S1 => ?_⟩
    walk_at "rd"
    rcases h with ⟨e1, k⟩ | ⟨e1, n1, n2, n3, n4, pb, gb, wd, t1, t2, t3, t4, hp, hg, hw, k⟩
    · rw [e1]
      show (if true = true then _ else _)
      walk_at "rd"
      refine g_mko ?_
      walk_at "rd"
      exact ex_as fun d H' S2 hd => k d H' (Same.trans S1 S2) hd
    · rw [e1]
      show (if false = true then _ else _)
      walk_at "rd"
      refine ⟨_, _, p, _, _, _, n1, n2, n3, n4, pb, gb, rfl, TyQ.ext S1 t1, TyQ.ext S1 t2, TyQ.ext S1 t3, TyQ.ext S1 t4, fun i hi => SeqR.ext S1 (hp i hi), SeqR.ext S1 hg, fun H2 S2 => ?_⟩
      rw [hw]
      walk_at "rd"
      refine ⟨rfl, ?_⟩
      walk_at "rd"
      rw [decide_eq_false (show ¬ (V.str wd = .non) from fun z => by cases z)]
      show (if true = true then _ else _)
      walk_at "rd"
      refine g_mko ?_
      walk_at "rd"
      exact ex_as fun d H' S3 hd => k d H' (Same.trans (Same.trans S1 S2) S3) hd
end
end K2

namespace K2
open PySem PySem.Spec PyProof.Rows L2 Mc
section
variable {P : Program} {w : World} {K : PySem.W.Frag} {mg : Str → Option Value} {base : Heap}
local macro_rules | `(tactic| walk_at "rd1") => `(tactic| first
  | with_reducible refine g_seq ?_
  | with_reducible refine g_asg ?_
  | with_reducible refine g_name ?_
  | with_reducible refine g_c ?_
  | with_reducible refine g_op ?_
  | with_reducible refine g_ifS ?_
  | with_reducible refine g_if ?_
  | with_reducible refine g_test ?_
  | with_reducible refine g_B ?_
  | with_reducible refine g_bl ?_
  | with_reducible refine g_blV ?_
  | with_reducible refine g_not ?_
  | with_reducible refine g_and ?_
  | with_reducible refine g_or ?_
  | with_reducible refine g_notV ?_
  | with_reducible refine g_andV ?_
  | with_reducible refine g_orV ?_
  | with_reducible refine g_ret ?_
  | with_reducible refine g_drop ?_
  | with_reducible refine g_next ?_
  | with_reducible refine g_retN ?_
  | with_reducible refine g_call ?_
  | with_reducible refine g_cb ?_
  | with_reducible refine g_cons ?_
  | with_reducible refine g_nil ?_
  | with_reducible refine g_tup ?_
  | with_reducible refine g_lst ?_
  | with_reducible refine g_prop ?_
  | with_reducible refine g_fld ?_
  | with_reducible refine g_meth ?_
  | with_reducible refine g_chain ?_
  | with_reducible refine g_yes ?_
  | with_reducible refine g_make ?_
  | with_reducible refine g_makeK ?_
  | with_reducible refine g_gsub ?_
  | with_reducible refine g_sfld ?_
  | with_reducible refine g_un ?_
  | with_reducible refine g_bm ?_
  | with_reducible refine g_iteT ?_
  | with_reducible refine g_iteF ?_
  | with_reducible refine g_I0 ?_
  | with_reducible refine g_add ?_
  | with_reducible refine g_sub ?_
  | ((with_reducible refine' g_var ?hv ?_); (case hv => rfl))
  | ((with_reducible refine g_eq ?hv ?_); (case hv => rfl))
  | ((with_reducible refine g_ne ?hv ?_); (case hv => rfl)))
local macro_rules | `(tactic| walk_at "rd") => `(tactic| repeat (walk_at "rd1"))

local macro_rules | `(tactic| walk_at "ty") => `(tactic| first | exact .non | exact .bl _ | exact .int _ | exact .str _ | exact .lst (by assumption) | exact .tup (by assumption) | exact .dK (by assumption) | exact .kTup (by assumption) (by assumption))
local macro_rules | `(tactic| walk_at "isiF") => `(tactic| refine g_isi (by walk_at "ty") (b := false) (by decide +kernel) ?_)
local macro_rules | `(tactic| walk_at "isiT") => `(tactic| refine g_isi (by walk_at "ty") (b := true) (by decide +kernel) ?_)

/-! ### properties and methods -/
structure Prp (P : Program) (w : World) (K : PySem.W.Frag) (mg : Str → Option Value) (base : Heap) (k : Nat) (C : Addr) (f : Str) (sp : Sp) : Prop where
  ex : ∃ (p g : Addr) (fd : FuncData) (ps : List Str), Cls K C ∧ PropOf K C f p g ∧ FnOk P w K mg base CX0 k g fd ps sp ∧ Binds K fd ps []
theorem pe_pr {X : Cx} {k j : Nat} {C : Addr} {f : Str} {sp : Sp} {e : Expr} {ta : TE} {pos : Pos} (c : Prp X.prog X.w X.K X.mg X.base k C f sp) (hr : Room j X.A) (hk : k + 1 ≤ j) (he : PE X e ta)
    (hab : attributeBase e f X.env (eval e X.env) = eval e X.env := by rfl) : PE X (.Attribute e f pos) (tProp C sp [] E0 ta) := by
  obtain ⟨p, g, fd, ps, cl, po, G, b⟩ := c.ex
  exact pe_prop he cl po G (hr.mono hk) b .nil pass0 hab
structure Mth (P : Program) (w : World) (K : PySem.W.Frag) (mg : Str → Option Value) (base : Heap) (k : Nat) (C : Addr) (m : Str) (sp : Sp) : Prop where
  ex : ∃ (f : Addr) (fd : FuncData) (ps : List Str), Cls K C ∧ Meth K C m f ∧ FnOk P w K mg base CX0 k f fd ps sp ∧ Binds K fd ps []
theorem pe_m0 {X : Cx} {k j : Nat} {C : Addr} {m : Str} {sp : Sp} {o : Expr} {ta : TE} {pos apos : Pos} {pl : Sem Bool} (c : Mth X.prog X.w X.K X.mg X.base k C m sp) (hr : Room j X.A) (hk : k ≤ j) (he : PE X o ta)
    (ht : eval (.Call (.Attribute o m apos) [] [] pos) X.env = (do
      let u ← eval o X.env
      standAt apos.atName
      let (g, first) ← holding [u] (getMethod u m pl)
      callWith pos g first (backTo pos (starEach [] X.env)) (backToKw pos (keywordEach [] X.env))) := by rfl) : PE X (.Call (.Attribute o m apos) [] [] pos) (tMeth C m sp [] E0 ta tNil) := by
  obtain ⟨f, fd, ps, cl, me, G, b⟩ := c.ex
  exact pe_meth0 (pl := pl) he cl me G (hr.mono hk) b .nil pass0 ht
theorem lk1 {n l t p e y g : V} : (pfs n l t p e y g).lookup ("_name" : Str) = some n := rfl
theorem lk2 {n l t p e y g : V} : (pfs n l t p e y g).lookup ("_limit" : Str) = some l := rfl
theorem lk3 {n l t p e y g : V} : (pfs n l t p e y g).lookup ("_tries" : Str) = some t := rfl
theorem lk4 {n l t p e y g : V} : (pfs n l t p e y g).lookup ("_pauses" : Str) = some p := rfl
theorem lk5 {n l t p e y g : V} : (pfs n l t p e y g).lookup ("_early" : Str) = some e := rfl
theorem lk6 {n l t p e y g : V} : (pfs n l t p e y g).lookup ("_lossy" : Str) = some y := rfl
theorem lk7 {n l t p e y g : V} : (pfs n l t p e y g).lookup ("_ending" : Str) = some g := rfl
theorem lk0 {n l t p e y g : V} : (pfs n l t p e y g).lookup ("_fields" : Str) = none := rfl

theorem prp_of {C p g : Addr} {x fld qual : Str} {st : Stmt} {fd : FuncData} {p1 p2 p3 : Pos} (F : Fun K x qual st g fd) (po : PropOf K C x p g) (S : FnScope ["self"] ["self"] (defScope st))
    (hb : defBody st = [.Return (some (.Attribute (.Name "self" p1) fld p2)) p3]) (c : Cls K C) (n : NoAttr K C fld) (b : Binds K fd ["self"] []) : Prp P w K mg base 1 C x (getSp C fld) := by
  have F' := F
  obtain ⟨oc, od, kV, doc, pm, an, cdv, ct, osl, rfl, lk, hcd⟩ := F'.ex
  exact ⟨p, g, _, _, c, po, fn_getter lk hcd S rfl hb c n, b⟩

end
end K2

namespace K2
open PySem PySem.Spec PyProof.Rows L2 Mc
section
variable {P : Program} {w : World} {K : PySem.W.Frag} {mg : Str → Option Value} {base : Heap}
local macro_rules | `(tactic| walk_at "rd1") => `(tactic| first
  | with_reducible refine g_seq ?_
  | with_reducible refine g_asg ?_
  | with_reducible refine g_name ?_
  | with_reducible refine g_c ?_
  | with_reducible refine g_op ?_
  | with_reducible refine g_ifS ?_
  | with_reducible refine g_if ?_
  | with_reducible refine g_test ?_
  | with_reducible refine g_B ?_
  | with_reducible refine g_bl ?_
  | with_reducible refine g_blV ?_
  | with_reducible refine g_not ?_
  | with_reducible refine g_and ?_
  | with_reducible refine g_or ?_
  | with_reducible refine g_notV ?_
  | with_reducible refine g_andV ?_
  | with_reducible refine g_orV ?_
  | with_reducible refine g_ret ?_
  | with_reducible refine g_drop ?_
  | with_reducible refine g_next ?_
  | with_reducible refine g_retN ?_
  | with_reducible refine g_call ?_
  | with_reducible refine g_cb ?_
  | with_reducible refine g_cons ?_
  | with_reducible refine g_nil ?_
  | with_reducible refine g_tup ?_
  | with_reducible refine g_lst ?_
  | with_reducible refine g_prop ?_
  | with_reducible refine g_fld ?_
  | with_reducible refine g_meth ?_
  | with_reducible refine g_chain ?_
  | with_reducible refine g_yes ?_
  | with_reducible refine g_make ?_
  | with_reducible refine g_makeK ?_
  | with_reducible refine g_gsub ?_
  | with_reducible refine g_sfld ?_
  | with_reducible refine g_un ?_
  | with_reducible refine g_bm ?_
  | with_reducible refine g_iteT ?_
  | with_reducible refine g_iteF ?_
  | with_reducible refine g_I0 ?_
  | with_reducible refine g_add ?_
  | with_reducible refine g_sub ?_
  | ((with_reducible refine' g_var ?hv ?_); (case hv => rfl))
  | ((with_reducible refine g_eq ?hv ?_); (case hv => rfl))
  | ((with_reducible refine g_ne ?hv ?_); (case hv => rfl)))
local macro_rules | `(tactic| walk_at "rd") => `(tactic| repeat (walk_at "rd1"))

local macro_rules | `(tactic| walk_at "ty") => `(tactic| first | exact .non | exact .bl _ | exact .int _ | exact .str _ | exact .lst (by assumption) | exact .tup (by assumption) | exact .dK (by assumption) | exact .kTup (by assumption) (by assumption))
local macro_rules | `(tactic| walk_at "isiF") => `(tactic| refine g_isi (by walk_at "ty") (b := false) (by decide +kernel) ?_)
local macro_rules | `(tactic| walk_at "isiT") => `(tactic| refine g_isi (by walk_at "ty") (b := true) (by decide +kernel) ?_)

/-- all but the pool is as it was -/
def Sx (p : Addr) (H H' : Hp) : Prop := ∀ b o, b ≠ p → H b = some o → H' b = some o
theorem Sx.refl {p : Addr} (H : Hp) : Sx p H H := fun _ _ _ h => h
theorem Sx.trans {p : Addr} {H H1 H2 : Hp} (a : Sx p H H1) (b : Sx p H1 H2) : Sx p H H2 := fun c o hc h => b c o hc (a c o hc h)
theorem Same.sx {p : Addr} {H H' : Hp} (h : Same H H') : Sx p H H' := fun c o _ e => h c o e
def PoolAt (H : Hp) (p : Addr) : Prop := ∃ c z : Int, H p = some (.lst [.int c, .int z]) ∧ 0 ≤ c ∧ 0 ≤ z ∧ z < 2147483647
theorem PoolAt.ext {p : Addr} {H H' : Hp} (h : PoolAt H p) (e : Same H H') : PoolAt H' p := by
  obtain ⟨c, z, h1, h2⟩ := h
  exact ⟨c, z, e _ _ h1, h2⟩
theorem PoolAt.not {p a : Addr} {H : Hp} {o : HO} (h : PoolAt H p) (e : H a = some o) (n : ∀ xs, o ≠ .lst xs) : a ≠ p := by
  obtain ⟨c, z, h1, _⟩ := h
  intro q
  rw [q, h1] at e
  exact n _ (Option.some.inj e).symm
theorem TyQ.sx {p : Addr} {H H' : Hp} {v : V} (pl : PoolAt H p) (e : Sx p H H') (h : TyQ K H v "tuple") : TyQ K H' v "tuple" := by
  generalize hn : "tuple" = n at h ⊢
  cases h with
  | tup z => exact .tup (e _ _ (pl.not z (by intro _ k; cases k)) z)
  | kTup z c => exact .kTup z c
  | lst z => exact absurd hn (by decide)
  | dK z => exact absurd hn (by decide)
  | non => exact absurd hn (by decide)
  | bl z => exact absurd hn (by decide)
  | int z => exact absurd hn (by decide)
  | str z => exact absurd hn (by decide)
theorem sqT_sx {p a : Addr} {H H' : Hp} {xs : List V} (pl : PoolAt H p) (e : Sx p H H') (h : SqT K H a xs) : SqT K H' a xs := by
  rcases h with (h | ⟨o, h⟩) | h
  · exact .inl (.inl (e _ _ (pl.not h (by intro _ k; cases k)) h))
  · exact .inl (.inr ⟨o, e _ _ (pl.not h (by intro _ k; cases k)) h⟩)
  · exact .inr h
theorem TupV.sx {p a : Addr} {H H' : Hp} {xs : List V} (pl : PoolAt H p) (e : Sx p H H') (h : TupV K H a xs) : TupV K H' a xs := ⟨TyQ.sx pl e h.ty, sqT_sx pl e h.sq⟩
theorem PolAt.sx {p a C : Addr} {H H' : Hp} {q : Pol} (pl : PoolAt H p) (e : Sx p H H') (h : PolAt K C H a q) : PolAt K C H' a q := by
  obtain ⟨dx, pa, ga, h1, h2⟩ := h
  exact ⟨dx, pa, ga, e _ _ (pl.not h1 (by intro _ k; cases k)) h1, TupV.sx pl e h2.p, TupV.sx pl e h2.g⟩
theorem Sx.free {p a : Addr} {H H' : Hp} (pl' : PoolAt H' p) (e : Sx p H H') (h : H' a = none) : H a = none := by
  cases q : H a with
  | none => rfl
  | some o =>
    by_cases ha : a = p
    · obtain ⟨c, z, h1, _⟩ := pl'
      rw [ha, h1] at h
      cases h
    · rw [e a o ha q] at h
      cases h

def spPool (K : PySem.W.Frag) : Sp := fun vs H Q _ => ∃ (a : Addr) (k : Int) (ns : List Int), vs = [.ref a, .int k] ∧ SqL K H a (ns.map V.int) ∧ 0 ≤ k ∧ k ≤ 100 ∧ ∀ p H', H p = none → Same H H' → PoolAt H' p → Q (.ref p) H'
theorem ok_pool (T : Txt K mg) (D : Def K mg "_law_pool" s_law_pool ["_law_script", "_law_k"]) : Cal P w K mg base 1 "_law_pool" (spPool K) := by
  refine cal_of D sc_law_pool (fun vs H Q E h => ?_) (fun f cdv A outer s H vs Q E hr h => ?_)
  · obtain ⟨a, k, ns, rfl, _⟩ := h
    rfl
  · obtain ⟨a, k, ns, rfl, sq, k0, k1, q⟩ := h
    have hk1 : 7919 * k ≤ 791900 := by omega
    have hk2 : (7919 * k) * k ≤ 791900 * 100 := Int.mul_le_mul hk1 k1 k0 (by decide)
    have hk3 : 0 ≤ (7919 * k) * k := Int.mul_nonneg (by omega) k0
    refine ⟨_, (pss_cons (ps_set (i := 2) sc_law_pool.nd rfl (Or.inl rfl) pe_int)
      (pss_cons (ps_if (pt_cmpR op_lt (pv 1) (pe_callB call_len_seq (by rfl) T.n_len (by decide +kernel) (pa_cons (pv 0) pa_nil)) (nomark _)) (pss_one (ps_set (i := 2) sc_law_pool.nd rfl (Or.inl rfl) (pe_ix ix_list (pv 0) (pv 1) (fun _ _ => rfl)))) pss_nil)
      (pss_cons (ps_set (i := 3) sc_law_pool.nd rfl (Or.inl rfl) (pe_op op_mod (pe_op op_pow (pe_op op_add (pe_op op_add (pe_op op_mod (pe_callTy call_int1 (by rfl) T.n_int (by decide +kernel) (pa_cons (pv 2) pa_nil)) pe_int) (pe_op op_mul (pe_op op_mul pe_int (pv 1)) (pv 1))) pe_int) pe_int) pe_int))
      (pss_cons (ps_if (pt_cmpR op_lt (pv 2) (pe_op op_pow pe_int pe_int) (nomark _)) (pss_one (ps_set (i := 2) sc_law_pool.nd rfl (Or.inl rfl) pe_int)) pss_nil)
      (pss_one (ps_ret (pe_lst (pa_cons (pv 2) (pa_cons (pv 3) pa_nil))))))))), ?_⟩
    walk_at "rd"
    refine ⟨a, _, rfl, .inl sq, ?_⟩
    walk_at "rd"
    refine g_ite (fun e => ?_) (fun e => ?_)
    · have hk : k < ((ns.map V.int).length : Int) := of_decide_eq_true e
      have hk' : k.toNat < ns.length := by rw [List.length_map] at hk; omega
      walk_at "rd"
      refine g_ixL sq (v := .int ns[k.toNat]) (at_of (j := k.toNat) (by omega) (by rw [List.getElem?_map, List.getElem?_eq_getElem hk']; rfl)) ?_
      generalize ns[k.toNat] = c
      walk_at "rd"
      refine .inl ⟨_, rfl, ?_⟩
      walk_at "rd"
      refine g_I (show (0 : Int) < 2147483629 by decide) ?_
      walk_at "rd"
      refine g_I (.inl ⟨by decide, by decide⟩) ?_
      walk_at "rd"
      refine g_I (.inl ⟨by omega, by omega⟩) ?_
      walk_at "rd"
      refine g_I ⟨by decide, by decide, by omega⟩ ?_
      walk_at "rd"
      refine g_I (show (0 : Int) < 2147483647 by decide) ?_
      walk_at "rd"
      refine g_I ⟨by decide, by decide, by decide⟩ ?_
      walk_at "rd"
      refine g_ite (fun e2 => ?_) (fun e2 => ?_)
      · walk_at "rd"
        refine ⟨(by show 2 ≤ sizeLine; decide), fun p hp => ?_⟩
        refine q p _ hp (same_new hp) ⟨0, _, upd_same, by decide, Int.emod_nonneg _ (by decide), Int.emod_lt_of_pos _ (by decide)⟩
      · walk_at "rd"
        refine ⟨(by show 2 ≤ sizeLine; decide), fun p hp => ?_⟩
        have e3 := of_decide_eq_false e2
        refine q p _ hp (same_new hp) ⟨_, _, upd_same, ?_, Int.emod_nonneg _ (by decide), Int.emod_lt_of_pos _ (by decide)⟩
        exact Int.le_trans (by decide) (Int.not_lt.mp e3)
    · walk_at "rd"
      walk_at "rd"
      refine .inl ⟨_, rfl, ?_⟩
      walk_at "rd"
      refine g_I (show (0 : Int) < 2147483629 by decide) ?_
      walk_at "rd"
      refine g_I (.inl ⟨by decide, by decide⟩) ?_
      walk_at "rd"
      refine g_I (.inl ⟨by omega, by omega⟩) ?_
      walk_at "rd"
      refine g_I ⟨by decide, by decide, by omega⟩ ?_
      walk_at "rd"
      refine g_I (show (0 : Int) < 2147483647 by decide) ?_
      walk_at "rd"
      refine g_I ⟨by decide, by decide, by decide⟩ ?_
      walk_at "rd"
      refine g_ite (fun e2 => ?_) (fun e2 => ?_)
      · walk_at "rd"
        refine ⟨(by show 2 ≤ sizeLine; decide), fun p hp => ?_⟩
        refine q p _ hp (same_new hp) ⟨0, _, upd_same, by decide, Int.emod_nonneg _ (by decide), Int.emod_lt_of_pos _ (by decide)⟩
      · walk_at "rd"
        refine ⟨(by show 2 ≤ sizeLine; decide), fun p hp => ?_⟩
        have e3 := of_decide_eq_false e2
        refine q p _ hp (same_new hp) ⟨_, _, upd_same, ?_, Int.emod_nonneg _ (by decide), Int.emod_lt_of_pos _ (by decide)⟩
        exact Int.le_trans (by decide) (Int.not_lt.mp e3)

def spDraw : Sp := fun vs H Q _ => ∃ (p : Addr) (m : Int), vs = [.ref p, .int m] ∧ PoolAt H p ∧ 1 ≤ m ∧ m ≤ 1000000 ∧ ∀ (r : Int) H', 0 ≤ r → r < m → PoolAt H' p → Sx p H H' → Q (.int r) H'
theorem sx_upd {p : Addr} {H : Hp} {o : HO} : Sx p H (upd H p o) := fun b u hb e => by rw [upd_ne hb]; exact e
theorem ok_draw (T : Txt K mg) (D : Def K mg "_law_draw" s_law_draw ["_law_pool_here", "_law_many"]) : Cal P w K mg base 1 "_law_draw" spDraw := by
  refine cal_of D sc_law_draw (fun vs H Q E h => ?_) (fun f cdv A outer s H vs Q E hr h => ?_)
  · obtain ⟨p, m, rfl, _⟩ := h
    rfl
  · obtain ⟨p, m, rfl, ⟨c, z, hp, hc, hz, hz2⟩, m0, m1, q⟩ := h
    refine ⟨_, (pss_cons (ps_if (pt_cmpR op_gt (pe_ix ix_list (pv 0) pe_int (fun _ _ => rfl)) pe_int (nomark _)) (pss_cons (ps_set (i := 2) sc_law_draw.nd rfl (Or.inl rfl) (pe_op op_mod (pe_callTy call_int1 (by rfl) T.n_int (by decide +kernel) (pa_cons (pe_ix ix_list (pv 0) pe_int (fun _ _ => rfl)) pa_nil)) (pv 1)))
      (pss_cons (ps_asg (pe_op op_fdiv (pe_ix ix_list (pv 0) pe_int (fun _ _ => rfl)) (pv 1)) (pg_sub (pv 0) pe_int set_list))
      (pss_one (ps_ret (pv 2))))) pss_nil)
      (pss_cons (ps_asg (pe_op op_mod (pe_callTy call_int1 (by rfl) T.n_int (by decide +kernel) (pa_cons (pe_op op_add (pe_op op_mul (pe_ix ix_list (pv 0) pe_int (fun _ _ => rfl)) pe_int) pe_int) pa_nil)) pe_int) (pg_sub (pv 0) pe_int set_list))
      (pss_one (ps_ret (pe_op op_mod (pe_op op_fdiv (pe_op op_mod (pe_callTy call_int1 (by rfl) T.n_int (by decide +kernel) (pa_cons (pe_op op_mul (pe_ix ix_list (pv 0) pe_int (fun _ _ => rfl)) (pe_ix ix_list (pv 0) pe_int (fun _ _ => rfl))) pa_nil)) pe_int) pe_int) (pv 1)))))), ?_⟩
    walk_at "rd"
    refine g_ixL (SqL.of hp) (v := .int c) (atI_nat (j := 0) rfl) ?_
    walk_at "rd"
    refine g_ite (fun e => ?_) (fun e => ?_)
    · have cp : 0 < c := of_decide_eq_true e
      walk_at "rd"
      refine g_ixL (SqL.of hp) (v := .int c) (atI_nat (j := 0) rfl) ?_
      walk_at "rd"
      refine .inl ⟨_, rfl, ?_⟩
      walk_at "rd"
      refine g_I (show (0 : Int) < m by omega) ?_
      walk_at "rd"
      refine g_ixL (SqL.of hp) (v := .int c) (atI_nat (j := 0) rfl) ?_
      walk_at "rd"
      refine g_I (⟨by omega, by omega⟩ : CDiv _ _) ?_
      walk_at "rd"
      refine ⟨p, _, 0, 0, rfl, rfl, hp, rfl, ?_⟩
      walk_at "rd"
      refine q (c % m) _ (Int.emod_nonneg _ (by omega)) (Int.emod_lt_of_pos _ (by omega)) ⟨c / m, z, upd_same, Int.ediv_nonneg hc (by omega), hz, hz2⟩ sx_upd
    · walk_at "rd"
      refine g_ixL (SqL.of hp) (v := .int z) (atI_nat (j := 1) rfl) ?_
      walk_at "rd"
      refine g_I (.inl ⟨by omega, by omega⟩) ?_
      walk_at "rd"
      refine .inl ⟨_, rfl, ?_⟩
      walk_at "rd"
      refine g_I (show (0 : Int) < 2147483647 by decide) ?_
      walk_at "rd"
      refine ⟨p, _, 1, 1, rfl, rfl, hp, rfl, ?_⟩
      have y0 : 0 ≤ (z * 48271 + 11) % 2147483647 := Int.emod_nonneg _ (by decide)
      have y1 : (z * 48271 + 11) % 2147483647 < 2147483647 := Int.emod_lt_of_pos _ (by decide)
      generalize (z * 48271 + 11) % 2147483647 = y at y0 y1 ⊢
      walk_at "rd"
      refine g_ixL (SqL.of upd_same) (v := .int y) (atI_nat (j := 1) rfl) ?_
      walk_at "rd"
      refine g_ixL (SqL.of upd_same) (v := .int y) (atI_nat (j := 1) rfl) ?_
      walk_at "rd"
      refine g_I (.inl ⟨by omega, by omega⟩) ?_
      walk_at "rd"
      refine .inl ⟨_, rfl, ?_⟩
      walk_at "rd"
      refine g_I (show (0 : Int) < 2147483629 by decide) ?_
      walk_at "rd"
      refine g_I (⟨by decide, by decide⟩ : CDiv _ _) ?_
      walk_at "rd"
      refine g_I (show (0 : Int) < m by omega) ?_
      walk_at "rd"
      exact q _ _ (Int.emod_nonneg _ (by omega)) (Int.emod_lt_of_pos _ (by omega)) ⟨c, y, upd_same, hc, y0, y1⟩ sx_upd

def spChoose : Sp := fun vs H Q _ => ∃ (p l : Addr) (xs : List V), vs = [.ref p, .ref l] ∧ PoolAt H p ∧ l ≠ p ∧ H l = some (.lst xs) ∧ 0 < xs.length ∧ xs.length ≤ 1000 ∧ ∀ x H', x ∈ xs → PoolAt H' p → Sx p H H' → Q x H'
theorem ok_choose (T : Txt K mg) (D : Def K mg "_law_choose" s_law_choose ["_law_pool_here", "_law_items"]) (c_law_draw : Cal P w K mg base 1 "_law_draw" spDraw) : Cal P w K mg base 2 "_law_choose" spChoose := by
  refine cal_of D sc_law_choose (fun vs H Q E h => ?_) (fun f cdv A outer s H vs Q E hr h => ?_)
  · obtain ⟨p, l, xs, rfl, _⟩ := h
    rfl
  · obtain ⟨p, l, xs, rfl, pl, hn, hl, h0, h1, q⟩ := h
    refine ⟨_, (pss_one (ps_ret (pe_ix ix_list (pv 1) (pe_f c_law_draw hr (by decide) (by rfl) (pa_cons (pv 0) (pa_cons (pe_callB call_len_seq (by rfl) T.n_len (by decide +kernel) (pa_cons (pv 1) pa_nil)) pa_nil))) (fun _ _ => rfl)))), ?_⟩
    walk_at "rd"
    refine ⟨l, xs, rfl, .inl (SqL.of hl), ?_⟩
    walk_at "rd"
    refine ⟨p, _, rfl, pl, by omega, by omega, fun r H1 r0 r1 pl1 sx => ?_⟩
    have hr' : r.toNat < xs.length := by omega
    walk_at "rd"
    refine g_ixL (SqL.of (sx _ _ hn hl)) (v := xs[r.toNat]) (at_of (j := r.toNat) (by omega) (List.getElem?_eq_getElem hr')) ?_
    exact q _ _ (List.getElem_mem hr') pl1 sx
end
end K2

namespace K2
open PySem PySem.Spec PyProof.Rows L2 Mc
section
variable {P : Program} {w : World} {K : PySem.W.Frag} {mg : Str → Option Value} {base : Heap}
local macro_rules | `(tactic| walk_at "rd1") => `(tactic| first
  | with_reducible refine g_seq ?_
  | with_reducible refine g_asg ?_
  | with_reducible refine g_name ?_
  | with_reducible refine g_c ?_
  | with_reducible refine g_op ?_
  | with_reducible refine g_ifS ?_
  | with_reducible refine g_if ?_
  | with_reducible refine g_test ?_
  | with_reducible refine g_B ?_
  | with_reducible refine g_bl ?_
  | with_reducible refine g_blV ?_
  | with_reducible refine g_not ?_
  | with_reducible refine g_and ?_
  | with_reducible refine g_or ?_
  | with_reducible refine g_notV ?_
  | with_reducible refine g_andV ?_
  | with_reducible refine g_orV ?_
  | with_reducible refine g_ret ?_
  | with_reducible refine g_drop ?_
  | with_reducible refine g_next ?_
  | with_reducible refine g_retN ?_
  | with_reducible refine g_call ?_
  | with_reducible refine g_cb ?_
  | with_reducible refine g_cons ?_
  | with_reducible refine g_nil ?_
  | with_reducible refine g_tup ?_
  | with_reducible refine g_lst ?_
  | with_reducible refine g_prop ?_
  | with_reducible refine g_fld ?_
  | with_reducible refine g_meth ?_
  | with_reducible refine g_chain ?_
  | with_reducible refine g_yes ?_
  | with_reducible refine g_make ?_
  | with_reducible refine g_makeK ?_
  | with_reducible refine g_gsub ?_
  | with_reducible refine g_sfld ?_
  | with_reducible refine g_un ?_
  | with_reducible refine g_bm ?_
  | with_reducible refine g_iteT ?_
  | with_reducible refine g_iteF ?_
  | with_reducible refine g_I0 ?_
  | with_reducible refine g_add ?_
  | with_reducible refine g_sub ?_
  | ((with_reducible refine' g_var ?hv ?_); (case hv => rfl))
  | ((with_reducible refine g_eq ?hv ?_); (case hv => rfl))
  | ((with_reducible refine g_ne ?hv ?_); (case hv => rfl)))
local macro_rules | `(tactic| walk_at "rd") => `(tactic| repeat (walk_at "rd1"))

local macro_rules | `(tactic| walk_at "ty") => `(tactic| first | exact .non | exact .bl _ | exact .int _ | exact .str _ | exact .lst (by assumption) | exact .tup (by assumption) | exact .dK (by assumption) | exact .kTup (by assumption) (by assumption))
local macro_rules | `(tactic| walk_at "isiF") => `(tactic| refine g_isi (by walk_at "ty") (b := false) (by decide +kernel) ?_)
local macro_rules | `(tactic| walk_at "isiT") => `(tactic| refine g_isi (by walk_at "ty") (b := true) (by decide +kernel) ?_)

theorem ne_lst {H : Hp} {p a : Addr} {ys : List V} {o : HO} (h : H p = some (.lst ys)) (e : H a = some o) (n : ∀ xs, o ≠ .lst xs) : a ≠ p := by
  intro q
  rw [q, h] at e
  exact n _ (Option.some.inj e).symm
theorem TupV.sl {H H' : Hp} {p a : Addr} {ys xs : List V} (hl : H p = some (.lst ys)) (e : Sx p H H') (h : TupV K H a xs) : TupV K H' a xs := by
  obtain ⟨ty, sq⟩ := h
  constructor
  · generalize hn : "tuple" = n at ty ⊢
    cases ty with
    | tup z => exact .tup (e _ _ (ne_lst hl z (by intro _ k; cases k)) z)
    | kTup z c => exact .kTup z c
    | lst z => exact absurd hn (by decide)
    | dK z => exact absurd hn (by decide)
  · rcases sq with (h | ⟨o, h⟩) | h
    · exact .inl (.inl (e _ _ (ne_lst hl h (by intro _ k; cases k)) h))
    · exact .inl (.inr ⟨o, e _ _ (ne_lst hl h (by intro _ k; cases k)) h⟩)
    · exact .inr h
theorem app_go {H : Hp} {r : Addr} {xs : List V} {y : V} {Q : VK} (h : H r = some (.lst xs)) (hl : xs.length < 100) (k : ∀ H', H' r = some (.lst (xs ++ [y])) → Sx r H H' → Q .non H') : rAppend (.ref r) [y] H Q :=
  ⟨r, xs, y, rfl, rfl, h, small1000 (by omega), k _ upd_same sx_upd⟩
theorem tup_go {H : Hp} {xs : List V} {Q : VK} (hl : xs.length ≤ 1000) (k : ∀ a H', H a = none → Same H H' → H' a = some (.tup xs) → Q (.ref a) H') : TupG Q xs H :=
  ⟨sz_le hl, fun p hp => k p _ hp (same_new hp) upd_same⟩
theorem lst_go {H : Hp} {xs : List V} {Q : VK} (hl : xs.length ≤ 1000) (k : ∀ a H', H a = none → Same H H' → H' a = some (.lst xs) → Q (.ref a) H') : LstG Q xs H :=
  ⟨sz_le hl, fun p hp => k p _ hp (same_new hp) upd_same⟩

def spFO (C : Addr) : Sp := fun vs H Q _ => ∃ a dx q pa ga, vs = [.ref a] ∧ H a = some (.ins C dx (Pol.fs q pa ga)) ∧ ∀ r H', H r = none → Same H H' → H' r = some (.lst (q.vs pa ga)) → Q (.ref r) H'
theorem ok_fields_of {C : Addr} (D : Def K mg "_law_fields_of" s_law_fields_of ["_law_one"]) (pr_name : Prp P w K mg base 1 C "name" (getSp C "_name")) (pr_limit : Prp P w K mg base 1 C "limit" (getSp C "_limit")) (pr_tries : Prp P w K mg base 1 C "tries" (getSp C "_tries"))
    (pr_pauses : Prp P w K mg base 1 C "pauses" (getSp C "_pauses")) (pr_early : Prp P w K mg base 1 C "early" (getSp C "_early")) (pr_lossy : Prp P w K mg base 1 C "lossy" (getSp C "_lossy")) (pr_ending : Prp P w K mg base 1 C "ending" (getSp C "_ending")) :
    Cal P w K mg base 3 "_law_fields_of" (spFO C) := by
  refine cal_of D sc_law_fields_of (fun vs H Q E h => ?_) (fun f cdv A outer s H vs Q E hr h => ?_)
  · obtain ⟨a, dx, q, pa, ga, rfl, _⟩ := h
    rfl
  · obtain ⟨a, dx, q, pa, ga, rfl, ha, k⟩ := h
    refine ⟨_, (pss_one (ps_ret (pe_lst (pa_cons (pe_pr pr_name hr (by decide) (pv 0)) (pa_cons (pe_pr pr_limit hr (by decide) (pv 0)) (pa_cons (pe_pr pr_tries hr (by decide) (pv 0)) (pa_cons (pe_pr pr_pauses hr (by decide) (pv 0)) (pa_cons (pe_pr pr_early hr (by decide) (pv 0)) (pa_cons (pe_pr pr_lossy hr (by decide) (pv 0)) (pa_cons (pe_pr pr_ending hr (by decide) (pv 0)) pa_nil)))))))))), ?_⟩
    walk_at "rd"
    refine ⟨a, dx, _, rfl, ha, a, dx, _, _, rfl, ha, lk1, ?_⟩
    walk_at "rd"
    refine ⟨a, dx, _, rfl, ha, a, dx, _, _, rfl, ha, lk2, ?_⟩
    walk_at "rd"
    refine ⟨a, dx, _, rfl, ha, a, dx, _, _, rfl, ha, lk3, ?_⟩
    walk_at "rd"
    refine ⟨a, dx, _, rfl, ha, a, dx, _, _, rfl, ha, lk4, ?_⟩
    walk_at "rd"
    refine ⟨a, dx, _, rfl, ha, a, dx, _, _, rfl, ha, lk5, ?_⟩
    walk_at "rd"
    refine ⟨a, dx, _, rfl, ha, a, dx, _, _, rfl, ha, lk6, ?_⟩
    walk_at "rd"
    refine ⟨a, dx, _, rfl, ha, a, dx, _, _, rfl, ha, lk7, ?_⟩
    walk_at "rd"
    refine lst_go ?hl fun r H1 h0 S h1 => ?_
    case hl => exact Nat.le_of_ble_eq_true rfl
    exact k r H1 h0 S h1
end
end K2

namespace K2
open PySem PySem.Spec PyProof.Rows L2 Mc
/-! ### small data: shown, compared -/
structure Good (d : PyData) (w e : Nat) : Prop where
  sh : d.showable = true
  hd : d.hasDict = false
  cl : d.canLay0 = true
  ls : d.leavesShort 13 = true
  wt : d.weight ≤ w
  dp : d.depth ≤ e
structure GoodA (ds : List PyData) (w e : Nat) : Prop where
  sh : PyData.showableAll ds = true
  hd : PyData.hasDictAll ds = false
  cl : PyData.canLayAll0 ds = true
  ls : PyData.leavesShortAll 13 ds = true
  wt : PyData.weightAll ds ≤ w
  dp : PyData.depthAll ds ≤ e
theorem GoodA.nil {e : Nat} : GoodA [] 0 e := ⟨by simp only [PyData.showableAll], by simp only [PyData.hasDictAll], by simp only [PyData.canLayAll0], by simp only [PyData.leavesShortAll], by simp only [PyData.weightAll]; omega, by simp only [PyData.depthAll]; omega⟩
theorem GoodA.cons {d : PyData} {ds : List PyData} {w v e : Nat} (h : Good d w e) (t : GoodA ds v e) : GoodA (d :: ds) (w + 1 + v) e :=
  ⟨by simp only [PyData.showableAll, h.sh, t.sh]; rfl, by simp only [PyData.hasDictAll, h.hd, t.hd]; rfl, by simp only [PyData.canLayAll0, h.cl, t.cl]; rfl, by simp only [PyData.leavesShortAll, h.ls, t.ls]; rfl,
    by have := h.wt; have := t.wt; simp only [PyData.weightAll]; omega, by have := h.dp; have := t.dp; simp only [PyData.depthAll]; omega⟩
theorem Good.mono {d : PyData} {w v e g : Nat} (h : Good d w e) (hw : w ≤ v) (he : e ≤ g) : Good d v g := ⟨h.sh, h.hd, h.cl, h.ls, Nat.le_trans h.wt hw, Nat.le_trans h.dp he⟩
theorem GoodA.mono {d : List PyData} {w v e g : Nat} (h : GoodA d w e) (hw : w ≤ v) (he : e ≤ g) : GoodA d v g := ⟨h.sh, h.hd, h.cl, h.ls, Nat.le_trans h.wt hw, Nat.le_trans h.dp he⟩
theorem GoodA.list {ds : List PyData} {w e : Nat} (h : GoodA ds w e) : Good (.list ds) w (e + 1) :=
  ⟨by simp only [PyData.showable, h.sh], by simp only [PyData.hasDict, h.hd], by simp only [PyData.canLay0, h.cl], by simp only [PyData.leavesShort, h.ls], by have := h.wt; simp only [PyData.weight]; omega, by have := h.dp; simp only [PyData.depth]; omega⟩
theorem GoodA.tuple {ds : List PyData} {w e : Nat} (h : GoodA ds w e) : Good (.tuple ds) w (e + 1) :=
  ⟨by simp only [PyData.showable, h.sh], by simp only [PyData.hasDict, h.hd], by simp only [PyData.canLay0, h.cl], by simp only [PyData.leavesShort, h.ls], by have := h.wt; simp only [PyData.weight]; omega, by have := h.dp; simp only [PyData.depth]; omega⟩
theorem small_int : ∀ n : Nat, n < 21 → ((n : Int).natAbs.log2 < 1920 ∧ (PyData.shown (.int n)).length ≤ 13 ∧ PyData.weight (.int n) ≤ 10) := by decide +kernel
theorem Good.int {i : Int} (h0 : 0 ≤ i) (h1 : i ≤ 20) : Good (.int i) 10 0 := by
  obtain ⟨n, rfl⟩ : ∃ n : Nat, i = n := ⟨i.toNat, by omega⟩
  obtain ⟨a, b, c⟩ := small_int n (by omega)
  exact ⟨by simp only [PyData.showable]; exact decide_eq_true a, by simp only [PyData.hasDict], by simp only [PyData.canLay0], by simp only [PyData.leavesShort]; exact decide_eq_true b, c, by simp only [PyData.depth]; omega⟩
theorem Good.none : Good .none 10 0 := ⟨by simp only [PyData.showable], by simp only [PyData.hasDict], by simp only [PyData.canLay0], by simp only [PyData.leavesShort], by simp only [PyData.weight]; omega, by simp only [PyData.depth]; omega⟩
theorem Good.bool (b : Bool) : Good (.bool b) 10 0 := ⟨by simp only [PyData.showable], by simp only [PyData.hasDict], by simp only [PyData.canLay0], by simp only [PyData.leavesShort], by simp only [PyData.weight]; omega, by simp only [PyData.depth]; omega⟩
theorem Good.str {z : Str} (h : ∀ c ∈ z.cps.toList, c < 1000) (hl : z.length ≤ 10) : Good (.str z) 10 0 :=
  ⟨by simp only [PyData.showable], by simp only [PyData.hasDict], by
    simp only [PyData.canLay0, PyData.strOk]
    rw [Array.all_eq_true']
    intro x hx
    exact decide_eq_true (Nat.lt_trans (h x (Array.mem_toList_iff.mpr hx)) (by decide)), by
    simp only [PyData.leavesShort, List.all_eq_true, decide_eq_true_eq]
    intro c hc
    exact Nat.lt_trans (h c hc) (by decide), by simp only [PyData.weight]; exact hl, by simp only [PyData.depth]; omega⟩
theorem letters_lt : ∀ c ∈ letters.cps.toList, c < 1000 := by decide +kernel
theorem good_name {z : Str} (h : isNm z = true) : Good (.str z) 10 0 := by
  unfold isNm at h
  rw [Bool.and_eq_true, Bool.and_eq_true, decide_eq_true_eq, decide_eq_true_eq, List.all_eq_true] at h
  obtain ⟨_, h2, h3⟩ := h
  exact .str (fun c hc => letters_lt c (of_decide_eq_true (h3 c hc))) (by omega)
theorem good_ints {ns : List Int} (h : ∀ i ∈ ns, 0 ≤ i ∧ i ≤ 8) : GoodA (ns.map PyData.int) (11 * ns.length) 0 := by
  induction ns with
  | nil => exact GoodA.nil
  | cons i r ih =>
    have hi := h i (List.mem_cons_self ..)
    exact (GoodA.cons (Good.int hi.1 (by omega)) (ih fun j hj => h j (List.mem_cons_of_mem _ hj))).mono (by rw [List.length_cons]; omega) (Nat.le_refl _)
theorem good_en {g : En} (h : g.ok) : GoodA g.ds 30 0 := by
  cases g with
  | go => exact (GoodA.cons (Good.str (by decide +kernel) (by decide +kernel)) .nil).mono (by decide) (Nat.le_refl _)
  | deadline => exact (GoodA.cons (Good.str (by decide +kernel) (by decide +kernel)) .nil).mono (by decide) (Nat.le_refl _)
  | stop d => exact (GoodA.cons (Good.str (by decide +kernel) (by decide +kernel)) (GoodA.cons (Good.int h.1 h.2) .nil)).mono (by decide) (Nat.le_refl _)
theorem good_pol {q : Pol} (ok : q.ok) : GoodA q.ds 200 1 := by
  have hp : GoodA (q.ps.map PyData.int) 40 0 := by
    cases he : q.e with
    | none =>
      obtain ⟨h1, h2⟩ := ok.e0 he
      exact (good_ints h2).mono (by have := ok.t2; omega) (Nat.le_refl _)
    | some i =>
      rw [(ok.e1 i he).2.2.2]
      exact GoodA.nil.mono (by omega) (Nat.le_refl _)
  have hE : Good (eD q.e) 10 0 := by
    cases he : q.e with
    | none => exact .none
    | some i => exact .int (by have := ok.e1 i he; omega) (by have := ok.e1 i he; omega)
  have l1 := ok.l1
  have l2 := ok.l2
  have t1 := ok.t1
  have t2 := ok.t2
  refine (GoodA.cons ((good_name ok.nm).mono (Nat.le_refl _) (by omega)) (GoodA.cons ((Good.int (by omega) l2).mono (Nat.le_refl _) (by omega)) (GoodA.cons ((Good.int (by omega) (by omega)).mono (Nat.le_refl _) (by omega)) (GoodA.cons hp.tuple (GoodA.cons (hE.mono (Nat.le_refl _) (by omega))
    (GoodA.cons ((Good.bool q.b).mono (Nat.le_refl _) (by omega)) (GoodA.cons (good_en ok.g1).tuple .nil))))))).mono (by decide) (Nat.le_refl _)
theorem Good.shaped {d : PyData} {w e : Nat} (h : Good d w e) (he : e ≤ 64) : SeqAt.shaped d = true := by
  unfold SeqAt.shaped
  rw [h.cl, decide_eq_true (Nat.le_trans h.dp he)]
  rfl
theorem Good.fits {d : PyData} {w e : Nat} (h : Good d w e) (hw : w ≤ 1000) : d.shown.length ≤ sizeLine :=
  PyData.shown_fits (B := 13) (by decide) (by decide) h.ls (Nat.le_trans h.wt (Nat.le_trans hw (by decide)))
theorem repr_go {K : PySem.W.Frag} {H : Hp} {Q : VK} {a : Addr} {d : PyData} {w e : Nat} (h : Dp K H (.ref a) d) (g : Good d w e) (hw : w ≤ 1000) (he : e ≤ 40) (q : Q (.str d.shown) H) : rRepr K [.ref a] H Q :=
  ⟨a, d, rfl, h, g.sh, g.hd, Nat.le_trans g.dp he, g.fits hw, q⟩
theorem eqv_lt (a b : List PyData) : PyData.eqv (.tuple a) (.tuple b) = PyData.eqv (.list a) (.list b) := by
  simp only [PyData.eqv]
theorem g_eqD {K : PySem.W.Frag} {H : Hp} {Q : VK} {x y : V} {d e : PyData} (hx : Dp K H x d) (hy : Dp K H y e) (s1 : SeqAt.shaped d = true) (s2 : SeqAt.shaped e = true) (q : Q (.bl (PyData.eqv d e)) H) : rEqD K x y H Q := ⟨d, e, hx, hy, s1, s2, q⟩
end K2

namespace Mx
open PySem PySem.Spec PyProof.Rows L2 Mc
/-! a dict of one pair, whatever its key is -/
def oddD (a : Addr) (k v : V) : HO := .ext fun h => (a == sysModules) = false ∧ ∃ (o : Obj) (e : DictEntry) (n : Nat), h.get? a = some o ∧ o.ExactDict ∧ o.data = .dict #[e] n ∧ RelV k e.key ∧ RelV v e.val
theorem odd_ok {P : Program} {w : World} {H : Hp} {h : Heap} {a : Addr} {k v : V} {o : Obj} {e : DictEntry} {n : Nat} (hs : (a == sysModules) = false) (ho : h.get? a = some o) (hx : o.ExactDict) (hd : o.data = .dict #[e] n) (rk : RelV k e.key) (rv : RelV v e.val) : ObjOk P w H h a (oddD a k v) :=
  ⟨⟨hs, o, e, n, ho, hx, hd, rk, rv⟩, ⟨o, ho⟩, fun h1 h2 ⟨z, o, e, n, q, r⟩ k => ⟨z, o, e, n, k _ q, r⟩⟩
theorem odd_at {P : Program} {w : World} {H : Hp} {h : Heap} {a : Addr} {k v : V} (hok : ObjOk P w H h a (oddD a k v)) : (a == sysModules) = false ∧ ∃ (o : Obj) (e : DictEntry) (n : Nat), h.get? a = some o ∧ o.ExactDict ∧ o.data = .dict #[e] n ∧ RelV k e.key ∧ RelV v e.val := hok.1
/-- the kind of one key -/
def oneKind (prog : Program) (w : World) (k : Leaf) (v0 : Value) (h0 : Leaf.isOf k v0 = true) (ns : ∀ x t, v0 ≠ .str x t) : KeyKind prog w Unit where
  is := fun _ v => v == v0
  hash := fun _ => k.key.hash w
  inj := fun _ _ _ _ _ => rfl
  byValue := fun _ v h => by
    have e : v = v0 := beq_iff_eq.mp h
    subst e
    exact Leaf.byValue h0
  pyHash := fun {A E s _ v Q} hv h => by
    have e : v = v0 := beq_iff_eq.mp hv
    subst e
    exact pyHash_leaf h0 h
  eqBool := fun {A E s a b u v Q} hu hv h => by
    have e : u = v0 := beq_iff_eq.mp hu
    have e2 : v = v0 := beq_iff_eq.mp hv
    subst e e2
    refine eqAt_leaf h0 h0 _ _ _ _ ?_
    have z : decide (k = k) = decide (a = b) := by simp
    rw [z]
    exact h
  «strs» := fun _ x t v h => by
    have e : Value.str x t = v0 := beq_iff_eq.mp h
    exact absurd e.symm (ns x t)
section
variable {X : Cx}
/-- {k: v}, k no int and no text -/
def tOdd (kv : V) (tk tv : TE) : TE := fun σ H Q => ∀ p, H p = none → tk σ (upd H p (.dK [])) fun x H1 => tv σ H1 fun y H2 => x = kv ∧ H2 p = some (.dK []) ∧ Q (.ref p) (upd H2 p (oddD p kv y))
theorem pe_oddL {k v : Expr} {tk tv : TE} {pos : Pos} (kv : V) (l : Leaf) (v0 : Value) (h0 : Leaf.isOf l v0 = true) (ns : ∀ x t, v0 ≠ .str x t) (rel : ∀ u, RelV kv u ↔ u = v0) (hk : PE X k tk) (hv : PE X v tv) : PE X (.Dict [some k] [v] pos) (tOdd kv tk tv) := by
  refine ⟨fun pins s σ H Q I q => ?_⟩
  have hn := I.hok.fresh (Nat.le_refl s.heap.objs.size)
  have I1 := I.laid (a := s.heap.objs.size) (o := .dK []) (h' := s.heap.push { cls := .type "dict", data := .dict #[] }) (t' := s.toks) (fun _ _ q => Heap.get?_push_of_some _ q) (Nat.le_refl _) (dk_empty s.heap I.big)
  refine wpAny_Dict_walk (knd := oneKind X.prog X.w l v0 h0 ns) rfl rfl (by simp) (by simp) (pairTrees_cons_walk (thn (hk.run pins _ σ _ _ I1 (q _ hn)) fun u1 s1 ⟨x, H1, J1, r1, q1⟩ => thn (hv.run pins s1 σ H1 _ J1 q1) fun u2 s2 ⟨y, H2, J2, r2, ex, e, q2⟩ => pairTrees_nil_walk ?_))
  subst ex
  have eu : u1 = v0 := (rel _).mp r1
  obtain ⟨z, hd, vs0, r0, dd⟩ := dk_of J2.hok e
  cases r0
  obtain ⟨o0, es0, ep0, ho0, hx0, hdt0, rest0⟩ := dd
  have hsz0 : es0 = #[] := by
    have l1 := rest0.2.1.length
    rw [List.length_nil, Array.length_toList] at l1
    exact Array.eq_empty_of_size_eq_zero l1
  subst hsz0
  have dd2 : s2.heap.DictOf (oneKind X.prog X.w l v0 h0 ns) s.heap.objs.size [] := ⟨o0, #[], ep0, ho0, hx0, hdt0, (fun e he => absurd he (by simp)), .nil, .nil⟩
  refine ⟨[((), u2)], ⟨by show (u1 == v0) = true; rw [eu]; simp, rfl, True.intro⟩, dd2, fun h' dd' hs => ⟨.ref s.heap.objs.size, _, ?_, rfl, q2⟩⟩
  obtain ⟨es, ep, ⟨o, ho, hx, hdt⟩, hsz, at_⟩ := dd'.raw
  have h1 : es.size = 1 := hsz
  obtain ⟨a1, a2⟩ := at_ 0 (by omega) () u2 rfl
  have ee : es = #[es[0]] := by
    apply Array.ext
    · simpa using h1
    · intro i hi1 hi2
      have : i = 0 := by omega
      subst this
      rfl
  rw [ee] at hdt
  have ek : es[0].key = v0 := beq_iff_eq.mp a1
  refine d_write J2 (by rw [e]; exact True.intro) hs ⟨o, ho⟩ (odd_ok hd ho hx hdt (by rw [ek]; exact (rel _).mpr rfl) ?_)
  rw [a2]
  exact r2
theorem pe_oddTrue {v : Expr} {tv : TE} {k : Expr} {tk : TE} {pos : Pos} (hk : PE X k tk) (hv : PE X v tv) : PE X (.Dict [some k] [v] pos) (tOdd (.bl true) tk tv) :=
  pe_oddL (.bl true) (.num 1) (.bool true) rfl (fun _ _ z => nomatch z) (fun u => Iff.rfl) hk hv
theorem pe_oddNone {v : Expr} {tv : TE} {k : Expr} {tk : TE} {pos : Pos} (hk : PE X k tk) (hv : PE X v tv) : PE X (.Dict [some k] [v] pos) (tOdd .non tk tv) :=
  pe_oddL .non .none .none rfl (fun _ _ z => nomatch z) (fun u => Iff.rfl) hk hv
end
end Mx

namespace Mx
open PySem PySem.Spec PyProof.Rows L2
open PySem.W (kwEs dictOf putL putL_new putName_dict)
section
variable {prog : Program} {w : World} {A : Around} {E : Value → Shared → Prop} {d : Addr}
/-- one keyword into the dict of a def's **d -/
theorem kw_one {s : Shared} {es : List DictEntry} {n : Nat} {k : Str} {v : Value} {Q : Unit → Shared → Prop} (D : s.heap.get? d = some (dictOf es n))
    (hs : ∀ e ∈ es, e.key.isStr k = false) (hr : ∀ e ∈ es, e.refKey = false)
    (h : ∀ h', h'.get? d = some (dictOf (es ++ [⟨PyData.keyHash w.params k, .str k s.toks, v⟩]) (n + 1)) → (∀ b, d ≠ b → h'.get? b = s.heap.get? b) → h'.objs.size = s.heap.objs.size → Q () { s with heap := h', toks := s.toks + 1 }) :
    wpAny (model prog w) A (nsSet d k v) Q E s := by
  have e1 : es.any (·.key.isStr k) = false := by
    cases q : es.any (·.key.isStr k) with
    | false => rfl
    | true => obtain ⟨e, he, z⟩ := List.any_eq_true.mp q; rw [hs e he] at z; cases z
  have e2 : es.any (·.refKey) = false := by
    cases q : es.any (·.refKey) with
    | false => rfl
    | true => obtain ⟨e, he, z⟩ := List.any_eq_true.mp q; rw [hr e he] at z; cases z
  have e : Obj.putName k (PyData.keyHash w.params k) (.str k s.toks) v (dictOf es n) = dictOf (es ++ [⟨PyData.keyHash w.params k, .str k s.toks, v⟩]) (n + 1) := by
    rw [putName_dict, putL_new hs]
    show dictOf _ (if es.any (·.key.isStr k) then n else n + 1) = _
    rw [e1, if_neg Bool.false_ne_true]
  have c : aRefKeyMayBeTheName k es.toArray = false := by
    rw [aRefKeyMayBeTheName_at, ← Array.any_toList, ← Array.any_toList]
    show (!es.any (·.key.isStr k) && es.any (·.refKey)) = false
    rw [e2, Bool.and_false]
  unfold nsSet
  refine wpAny_bind (wpAny_bind (wpAny_askSetting (wpAny_pure (wpAny_bind (wpAny_mkText (wpAny_bind (wpAny_loadPart D ?_)))))))
  dsimp only
  rw [c]
  refine wpAny_updatePart D (h _ ?_ (fun b hb => Heap.get?_update_other _ _ hb) (Heap.size_update _ _ _))
  rw [← e]
  exact Heap.get?_update_self (Obj.putName k (PyData.keyHash w.params k) (.str k s.toks) v) D (by rw [e]; rfl)
theorem kw_all {Q : PUnit → Shared → Prop} : ∀ (ex : List (Str × Value)) (s : Shared) (es : List DictEntry) (n : Nat), s.heap.get? d = some (dictOf es n) →
    (∀ e ∈ es, ∀ x ∈ ex, e.key.isStr x.1 = false) → (∀ e ∈ es, e.refKey = false) → (ex.map (·.1)).Nodup →
    (∀ h', h'.get? d = some (dictOf (es ++ kwEs w.params s.toks ex) (n + ex.length)) → (∀ b, d ≠ b → h'.get? b = s.heap.get? b) → h'.objs.size = s.heap.objs.size → Q ⟨⟩ { s with heap := h', toks := s.toks + ex.length }) →
    wpAny (model prog w) A (forIn ex PUnit.unit fun x _ => (nsSet d x.1 x.2 >>= fun _ => pure (ForInStep.yield PUnit.unit))) Q E s
  | [], s, es, n, D, _, _, _, h => by
    rw [List.forIn_nil]
    refine wpAny_pure (h s.heap ?_ (fun _ _ => rfl) rfl)
    show s.heap.get? d = some (dictOf (es ++ []) n)
    rw [List.append_nil]
    exact D
  | x :: r, s, es, n, D, hs, hr, hn, h => by
    obtain ⟨hn1, hn2⟩ := List.nodup_cons.mp (show (x.1 :: r.map (·.1)).Nodup from hn)
    rw [List.forIn_cons]
    refine wpAny_bind (wpAny_bind (kw_one D (fun e he => hs e he x (.head _)) hr fun h' D' k' z' => wpAny_pure ?_))
    show wpAny (model prog w) A (forIn r PUnit.unit fun x _ => (nsSet d x.1 x.2 >>= fun _ => pure (ForInStep.yield PUnit.unit))) Q E { s with heap := h', toks := s.toks + 1 }
    refine kw_all r { s with heap := h', toks := s.toks + 1 } _ _ D' (fun e he y hy => ?_) (fun e he => ?_) hn2 fun h'' D'' k'' z'' => ?_
    · rcases List.mem_append.mp he with he | he
      · exact hs e he y (.tail _ hy)
      · obtain rfl := List.mem_singleton.mp he
        show (x.1 == y.1) = false
        exact beq_eq_false_iff_ne.mpr fun q => hn1 (by rw [q]; exact List.mem_map_of_mem hy)
    · rcases List.mem_append.mp he with he | he
      · exact hr e he
      · obtain rfl := List.mem_singleton.mp he
        rfl
    · have t1 : s.toks + 1 + r.length = s.toks + (r.length + 1) := by omega
      have t2 : n + 1 + r.length = n + (r.length + 1) := by omega
      show Q ⟨⟩ { s with heap := h'', toks := s.toks + 1 + r.length }
      rw [t1]
      refine h h'' ?_ (fun b hb => (k'' b hb).trans (k' b hb)) (z''.trans z')
      rw [t2, List.append_assoc] at D''
      exact D''
theorem kw_pairs : ∀ (ex : List (Str × Value)) (t : Tok), Pairs (mixKind prog w) (kwEs w.params t ex) (ex.map fun x => ((.inr x.1 : Key), x.2))
  | [], _ => Pairs.nil
  | x :: r, t => Pairs.cons (mixKind_str prog w x.1 t) rfl (kw_pairs r (t + 1))
/-- what **d holds -/
def kwD (ks : List Str) (vs : List V) : List (Key × V) := (ks.zip vs).map fun x => ((.inr x.1 : Key), x.2)
theorem kw_kv : ∀ {ks : List Str} {zs : List V} {ws : List Value}, Vals zs ws → KV (kwD ks zs) ((ks.zip ws).map fun x => ((.inr x.1 : Key), x.2))
  | [], _, _, _ => .nil
  | _ :: _, _, _, .nil => .nil
  | _ :: _, _, _, .cons a r => .cons ⟨rfl, a⟩ (kw_kv r)
theorem kw_keys : ∀ (ex : List (Str × Value)) (t : Tok), ∀ e ∈ kwEs w.params t ex, ∃ k, (mixKind prog w).is k e.key = true ∧ e.hash = (mixKind prog w).hash k
  | [], _, _, h => nomatch h
  | x :: r, t, e, h => by
    rcases List.mem_cons.mp (show e ∈ (⟨PyData.keyHash w.params x.1, .str x.1 t, x.2⟩ : DictEntry) :: kwEs w.params (t + 1) r from h) with q | q
    · subst q
      exact ⟨.inr x.1, mixKind_str prog w x.1 t, rfl⟩
    · exact kw_keys r (t + 1) e q
end
section
variable {P : Program} {w : World} {K : PySem.W.Frag} {mg : Str → Option Value} {base : Heap} {A : Around} {outer : List Env} {s : Shared} {H : Hp}
theorem env0_at {h' : Heap} {t' : Nat} {u : HO} (e0 : Env0 P w K mg base A outer s H) (kp : ∀ b x, s.heap.get? b = some x → h'.get? b = some x) (le : s.heap.objs.size ≤ h'.objs.size)
    (new : ObjOk P w (upd H s.heap.objs.size u) h' s.heap.objs.size u) : Env0 P w K mg base A outer { s with heap := h', toks := t' } (upd H s.heap.objs.size u) := by
  refine ⟨e0.frames, e0.mod, fun b x e => ⟨kp b x (e0.bs b x e).1, ?_⟩, ?_, Heap.FunFrames.of_keeps (fun b x e _ => ⟨x, kp b x e, rfl⟩) e0.funs, fun b hb => ?_, e0.hok.laid kp (Nat.le_refl _) new, e0.bare⟩
  · rw [upd_ne (Nat.ne_of_lt (Heap.lt_size (e0.bs b x e).1))]
    exact (e0.bs b x e).2
  · exact Nat.le_trans e0.bsz le
  · obtain ⟨_, x, hx, _⟩ := e0.funs.mem hb
    rw [upd_ne (Nat.ne_of_lt (Heap.lt_size hx))]
    exact e0.frf b hb
/-- what a function does that is called with keywords ks -/
def FnW (P : Program) (w : World) (K : PySem.W.Frag) (mg : Str → Option Value) (base : Heap) (CX : CXT) (k : Nat) (f : Addr) (ks : List Str) (sp : List V → List V → Hp → VK → XK → Prop) : Prop :=
  ∀ (A : Around) (outer : List Env) (s : Shared) (H : Hp) (us : List Value) (vs : List V) (ws : List Value) (zs : List V) (Q : VK) (E : XK), Room k A → Env0 P w K mg base A outer s H → Vals vs us → Vals zs ws → zs.length = ks.length →
    sp vs zs H Q E → codeAny (model P w) A (.call (.ref f) ⟨us, ks.zip ws⟩) (CR CX outer P w H s Q E) s
end
section
variable {CX : CXT} {P : Program} {w : World} {K : PySem.W.Frag} {mg : Str → Option Value} {base : Heap} {k : Nat} {f : Addr} {name qual : Str} {params : Arguments} {body : List Stmt} {scope : Scope} {dV kV doc pm cdv ct oc : Value} {an od : Option Addr}
  {osl : Array (Option Value)} {N ks : List Str} {sp : Sp}
/-- def f(a, **d): the keywords are a new dict -/
theorem fn_kwd {pa pd : Str} (lk : K.lookup f = some ⟨oc, od, .func (PySem.W.fnOf name qual params body scope dV kV doc pm an cdv ct), osl⟩) (hcd : PySem.W.codeIn K cdv qual = true) (S : FnScope N [pa, pd] scope) (hCX : StX.CXUp CX)
    (hn : ks.Nodup) (hz : ks.length ≤ sizeLine)
    (hb : ∀ (u : Value) (ws : List Value), ws.length = ks.length → bindArgs (PySem.W.fnOf name qual params body scope dV kV doc pm an cdv ct) ⟨[u], ks.zip ws⟩ =
      ((alloc ({ cls := .type "dict", data := .dict #[] } : Obj) : Sem Addr) >>= fun d => (forIn (ks.zip ws) PUnit.unit fun x _ => (nsSet d x.1 x.2 >>= fun _ => pure (ForInStep.yield PUnit.unit))) >>= fun _ => pure [(pa, u), (pd, Value.ref d)]))
    (hbody : ∀ (A : Around) (outer : List Env) (s : Shared) (H : Hp) (vs : List V) (Q : VK) (E : XK), Room k (A.deeper (envOfC qual scope s.heap.objs.size f cdv)) → sp vs H Q E →
      ∃ t, PSs (cxOf CX P w K mg base N qual scope f cdv A outer s H E) body t ∧ t { nx := fun _ H' => Q .non H', rt := Q } (start N vs) H) :
    FnW P w K mg base CX (k + 1) f ks (fun vs zs H Q E => ∃ v, vs = [v] ∧ ∀ d, H d = Option.none → sp [v, .ref d] (upd H d (.dK (kwD ks zs))) Q E) := by
  intro A outer s H us vs ws zs Q E hr e0 r rz lz hsp
  obtain ⟨v, ev, hq⟩ := hsp
  subst ev
  obtain ⟨u, rfl, ru⟩ : ∃ u, us = [u] ∧ RelV v u := by
    cases r with
    | cons a t => cases t with
      | nil => exact ⟨_, rfl, a⟩
  have lw : ws.length = ks.length := rz.length.symm.trans lz
  have hf : H s.heap.objs.size = Option.none := e0.hok.fresh (Nat.le_refl _)
  refine StX.run_bnd lk hcd S hr e0 (G := fun xs H2 => ∃ d, H d = Option.none ∧ xs = [v, V.ref d] ∧ H2 = upd H d (.dK (kwD ks zs))) (fun A' Ex Q' h => ?_) fun s2 H2 xs ⟨d, hd, ex, eH⟩ hr' => ?_
  · rw [hb u ws lw]
    have hk : ((ks.zip ws).map (·.1)) = ks := by
      rw [List.map_fst_zip]
      exact Nat.le_of_eq lw.symm
    refine wpAny_bind (wpAny_alloc (wpAny_bind ?_))
    refine kw_all (ks.zip ws) _ [] 0 (Heap.get?_push_size _ rfl) (fun _ he => nomatch he) (fun _ he => nomatch he) (by rw [hk]; exact hn) fun h' D' k' z' => wpAny_pure ?_
    have kp : ∀ b x, s.heap.get? b = some x → h'.get? b = some x := fun b x e => by
      rw [k' b (Nat.ne_of_gt (Heap.lt_size e))]
      exact Heap.get?_push_of_some _ e
    have le : s.heap.objs.size ≤ h'.objs.size := by
      rw [z']
      show s.heap.objs.size ≤ (s.heap.push _).objs.size
      rw [Heap.size_push]
      exact Nat.le_succ _
    have big := StX.env0_big e0
    have new : ObjOk P w (upd H s.heap.objs.size (.dK (kwD ks zs))) h' s.heap.objs.size (.dK (kwD ks zs)) := by
      refine ⟨?_, beq_eq_false_iff_ne.mpr (Ne.symm (Nat.ne_of_lt big)), _, kw_kv rz, _, _, _, D', ⟨rfl, rfl, rfl⟩, rfl, fun e he => ?_, kw_pairs _ _, ?_⟩
      · show ((ks.zip zs).map _).length ≤ sizeLine
        rw [List.length_map, List.length_zip, lz, Nat.min_self]
        exact hz
      · exact kw_keys _ _ e (Array.mem_toList_iff.mpr he)
      · rw [List.map_map]
        have q : ((fun x : Key × Value => x.1) ∘ fun x : Str × Value => ((.inr x.1 : Key), x.2)) = (Sum.inr ∘ fun x : Str × Value => x.1) := rfl
        rw [q, ← List.map_map, hk]
        exact List.Pairwise.map _ (fun a b (h : a ≠ b) q => h (Sum.inr.inj q)) hn
    have e1 := env0_at (t' := s.toks + (ks.zip ws).length) e0 kp le new
    have un : Un (frs outer) [] H (upd H s.heap.objs.size (.dK (kwD ks zs))) s.heap h' := Un.laid kp (Nat.le_refl _) hf
    exact h _ _ [v, V.ref s.heap.objs.size] [u, Value.ref s.heap.objs.size] e1 un rfl (fun e s' => hCX outer s H _ _ E e s' un kp rfl) (.cons ru (.cons rfl .nil)) rfl ⟨_, hf, rfl, rfl⟩
  · subst ex eH
    exact hbody A outer s2 _ _ Q E hr' (hq d hd)
end
section
variable {X : Cx} {CX : CXT} {k : Nat} {f C : Addr} {ks : List Str} {sp : List V → List V → Hp → VK → XK → Prop} {E : XK} {m : Str} {o : Expr} {kws : List Keyword} {ta : TE} {tk : TA} {apos pos : Pos} {pl : Sem Bool}
/-- o.m(k = v, ..) -/
def tMethW (C : Addr) (m : Str) (ks : List Str) (sp : List V → List V → Hp → VK → XK → Prop) (E : XK) (ta : TE) (tk : TA) : TE := fun σ H Q => ta σ H fun x H1 => ∃ a dx fs, x = .ref a ∧ H1 a = some (.ins C dx fs) ∧ fs.lookup m = none ∧
  tk σ H1 fun zs H2 => zs.length = ks.length ∧ sp [x] zs H2 Q E
theorem run_W {pins : List (Addr × Obj)} {σ : L2.St} {H : Hp} {s : Shared} {Q : VK} {us ws : List Value} {vs zs : List V} (F : FnW X.prog X.w X.K X.mg X.base CX k f ks sp) (hr : Room k X.A) (hx : Passes CX X E)
    (I : Inv X pins σ H s) (r : Vals vs us) (rz : Vals zs ws) (lz : zs.length = ks.length) (h : sp vs zs H Q E) : wpAny (model X.prog X.w) X.A (call (.ref f) us (ks.zip ws)) (EP X pins σ Q) X.xe s := by
  refine wpAny_call (codeAny_mono (F X.A X.stack s H us vs ws zs Q E hr I.env0 r rz lz h) fun r s' hq => ?_)
  cases r with
  | error e => exact hx pins σ H s e s' I hq
  | ok fl =>
    cases fl with
    | ret u => exact I.after hq
    | next => exact False.elim hq
    | brk => exact False.elim hq
    | cont => exact False.elim hq
theorem pe_methW (he : PE X o ta) (c : Cls X.K C) (hm : Meth X.K C m f) (F : FnW X.prog X.w X.K X.mg X.base CX k f ks sp) (hr : Room k X.A) (hx : Passes CX X E) (hkw : PK X kws tk)
    (hall : (backToKw pos (keywordEach kws X.env)).all (·.1.isSome) = true := by rfl) (hks : (backToKw pos (keywordEach kws X.env)).filterMap (·.1) = ks := by rfl)
    (hpl : ((backTo pos (starEach [] X.env)).any (·.1) || (backToKw pos (keywordEach kws X.env)).any (·.1.isNone)) = false := by rfl)
    (ht : eval (.Call (.Attribute o m apos) [] kws pos) X.env = (do
      let ov ← eval o X.env
      standAt apos.atName
      let (f, first) ← holding [ov] (getMethod ov m pl)
      callWith pos f first (backTo pos (starEach [] X.env)) (backToKw pos (keywordEach kws X.env))) := by rfl) :
    PE X (.Call (.Attribute o m apos) [] kws pos) (tMethW C m ks sp E ta tk) := by
  refine ⟨fun pins s σ H Q I h => ?_⟩
  refine PySem.W.methodCall_KW (pl := pl) (thn (he.run pins s σ H _ I h) fun u s1 ⟨x, H1, I1, rx, a, dx, fs, ex, ea, l, q⟩ => ?_) ht
  subst ex
  obtain rfl : u = Value.ref a := rx
  refine getmeth_ok I1 ea c hm l ?_
  refine PySem.W.callWith_KW0 (first := [.ref a]) (h₀ := X.base) I.ok.mod.kin hm.kp hall ?_ hpl
  refine thn (hkw.run pos pins s1 σ H1 _ I1 q) fun ws s2 ⟨zs, H2, I2, rz, l2, q2⟩ => ⟨I2.kIn, ?_⟩
  rw [hks]
  exact run_W (us := [.ref a]) (vs := [.ref a]) F hr hx I2 (.cons rfl .nil) rz l2 q2
end
end Mx

namespace Mx
open PySem PySem.Spec PyProof.Rows L2
open PySem.W (dictOf)
/-- the entries of a dict of texts -/
inductive Ents : List DictEntry → List (Str × Value) → Prop
  | nil : Ents [] []
  | cons {e : DictEntry} {x : Str} {t : Tok} {v : Value} {es : List DictEntry} {ex : List (Str × Value)} : e.key = .str x t → e.val = v → Ents es ex → Ents (e :: es) ((x, v) :: ex)
theorem Ents.of_pairs {P : Program} {w : World} : ∀ {es : List DictEntry} {ex : List (Str × Value)}, Pairs (mixKind P w) es (ex.map fun x => ((.inr x.1 : Key), x.2)) → Ents es ex
  | [], [], _ => .nil
  | e :: es, (x, v) :: ex, .cons h1 h2 h3 => by
    rcases keyIs_shape (show keyIs (.inr x) e.key = true from h1) with ⟨i, t, q, _⟩ | ⟨y, t, q, z⟩
    · cases q
    · obtain rfl := Sum.inr.inj q
      exact .cons z h2 (Ents.of_pairs h3)
theorem Ents.length {es : List DictEntry} {ex : List (Str × Value)} (h : Ents es ex) : es.length = ex.length := by
  induction h with
  | nil => rfl
  | cons _ _ _ ih => simp [ih]
theorem Ents.at {es : List DictEntry} {ex : List (Str × Value)} (h : Ents es ex) : ∀ {i : Nat} {e : DictEntry}, es[i]? = some e → ∃ x t v, e.key = .str x t ∧ ex[i]? = some (x, v) := by
  induction h with
  | nil => intro i e z; simp at z
  | cons a b _ ih =>
    intro i e z
    cases i with
    | zero => obtain rfl : _ = e := by simpa using z
              exact ⟨_, _, _, a, rfl⟩
    | succ n => exact ih (by simpa using z)
theorem Ents.mem {es : List DictEntry} {ex : List (Str × Value)} (h : Ents es ex) {e : DictEntry} (he : e ∈ es) : ∃ x t, e.key = .str x t := by
  obtain ⟨i, hi⟩ := List.getElem?_of_mem he
  obtain ⟨x, t, v, z, _⟩ := h.at hi
  exact ⟨x, t, z⟩
/-- a key further on is none of those ahead -/
theorem Ents.fresh {es : List DictEntry} {ex : List (Str × Value)} (h : Ents es ex) (hn : (ex.map (·.1)).Nodup) {i : Nat} {e : DictEntry} {x : Str} {t : Tok} (he : es[i]? = some e) (hx : e.key = .str x t) : ∀ f ∈ es.take i, f.key.isStr x = false := by
  intro f hf
  obtain ⟨j, hj⟩ := List.getElem?_of_mem hf
  rw [List.getElem?_take] at hj
  split at hj
  · rename_i lt
    obtain ⟨y, u, v, z, q⟩ := h.at hj
    obtain ⟨x', t', v', z', q'⟩ := h.at he
    rw [hx] at z'
    injection z' with z1 z2
    subst z1
    rw [z]
    show (y == x) = false
    refine beq_eq_false_iff_ne.mpr fun eq => ?_
    subst eq
    have lj : j < (ex.map (·.1)).length := by rw [List.length_map]; exact (List.getElem?_eq_some_iff.mp q).1
    have li : i < (ex.map (·.1)).length := by rw [List.length_map]; exact (List.getElem?_eq_some_iff.mp q').1
    have e1 : (ex.map (·.1))[j] = (ex.map (·.1))[i] := by
      rw [List.getElem_map, List.getElem_map, (List.getElem?_eq_some_iff.mp q).2, (List.getElem?_eq_some_iff.mp q').2]
    exact absurd ((List.getElem_inj hn).mp e1) (Nat.ne_of_lt lt)
  · cases hj
section
variable {prog : Program} {w : World} {A : Around} {E : Value → Shared → Prop} {d a : Addr}
theorem merge_strs {s : Shared} {o : Obj} {es : Array DictEntry} {ex : List (Str × Value)} {ep : Nat} {Q : Unit → Shared → Prop} (ho : s.heap.get? a = some o) (hx : o.ExactDict) (hd : o.data = .dict es ep) (hs : (a == sysModules) = false) (hne : d ≠ a)
    (he : Ents es.toList ex) (hn : (ex.map (·.1)).Nodup) (hz : es.size ≤ sizeLine) (D : s.heap.get? d = some (dictOf [] 0))
    (h : ∀ h' n, h'.get? d = some (dictOf es.toList n) → (∀ b, d ≠ b → h'.get? b = s.heap.get? b) → h'.objs.size = s.heap.objs.size → Q () { s with heap := h' }) :
    wpAny (model prog w) A (mergeMapping d (.ref a) true) Q E s := by
  have hT : s.TypeIs (.ref a) "dict" := ⟨o, ho, hx.1⟩
  unfold mergeMapping
  refine wpAny_bind (wpAny_isInstance (U := "dict") (b := true) hT (by rfl) ?_)
  dsimp only
  rw [if_pos rfl]
  refine wpAny_bind (wpAny_specialOf hT F.slot_dict_iter.lookup (wpAny_bind (wpAny_pure ?_)))
  show wpAny (model prog w) A (if (a == sysModules) = true then _ else _) Q E s
  rw [if_neg (by rw [hs]; exact Bool.false_ne_true)]
  refine wpAny_bind (wpAny_dictEntries D rfl ?_)
  show wpAny (model prog w) A (dictEntries a >>= _) Q E s
  refine wpAny_bind (wpAny_dictEntries ho hd (wpAny_bind ?_))
  refine MeetsSeq2.wpAny_forIn_array _ (fun rest b s' => s' = s ∧ ∀ e ∈ rest, e ∈ es.toList) _ ?_ ?_ _ _ ⟨rfl, fun _ he => he⟩
  · rintro e rest b s' ⟨rfl, hm⟩
    obtain ⟨x, t, hk⟩ := he.mem (hm e (.head _))
    simp only [hk]
    exact wpAny_pure ⟨rfl, fun f hf => hm f (.tail _ hf)⟩
  rintro b s' ⟨rfl, -⟩
  refine wpAny_bind (wpAny_dictEntries ho hd (wpAny_bind (wpAny_dictEpoch ho hd (wpAny_bind ?_))))
  refine wpAny_forIn_list _ (fun rest b z => ∃ i h' n, rest = List.range' i (es.size - i) ∧ i ≤ es.size ∧ z = { s' with heap := h' } ∧ h'.get? d = some (dictOf (es.toList.take i) n) ∧ (∀ b, d ≠ b → h'.get? b = s'.heap.get? b) ∧ h'.objs.size = s'.heap.objs.size) _ ?_ ?_ _ _ ⟨0, s'.heap, 0, by rw [List.range_eq_range', Nat.sub_zero], Nat.zero_le _, rfl, D, fun _ _ => rfl, rfl⟩
  · rintro j rest b z ⟨i, h', n, hr, hi, rfl, D', k', z'⟩
    have lt : i < es.size := by
      rcases Nat.lt_or_ge i es.size with q | q
      · exact q
      · rw [Nat.sub_eq_zero_of_le q] at hr
        cases hr
    obtain ⟨m, hm⟩ : ∃ m, es.size - i = m + 1 := ⟨es.size - i - 1, by omega⟩
    rw [hm, List.range'_succ] at hr
    obtain ⟨rfl, hr⟩ := List.cons.inj hr
    have ho' : h'.get? a = some o := (k' a hne).trans ho
    have ge : es[j]? = some es[j] := Array.getElem?_eq_getElem lt
    have gl : es.toList[j]? = some es[j] := by rw [Array.getElem?_toList]; exact ge
    obtain ⟨x, t, v, hk, hv⟩ := he.at gl
    refine wpAny_bind (wpAny_dictEntries (s := { s' with heap := h' }) ho' hd ?_)
    rw [ge]
    dsimp only
    have fr : (es.toList.take j).toArray.findIdx? (fun e => e.key.isStr x) = none := by
      rw [Array.findIdx?_eq_none_iff]
      intro f hf
      exact he.fresh hn gl hk f (by simpa using hf)
    have al : ((es.toList.take j).toArray.all fun e => isExactStrKey e.key) = true := by
      rw [Array.all_eq_true_iff_forall_mem]
      intro f hf
      obtain ⟨y, u, q⟩ := he.mem (List.mem_of_mem_take (by simpa using hf))
      rw [q]
      rfl
    have sz : (es.toList.take j).toArray.size ≤ sizeLine := by
      rw [List.size_toArray, List.length_take, Array.length_toList]
      omega
    have up : Obj.mapDictKeys (fun xs => xs.push ⟨es[j].hash, es[j].key, es[j].val⟩) (dictOf (es.toList.take j) n) = dictOf (es.toList.take (j + 1)) (n + 1) := by
      have e1 : es.toList.take (j + 1) = es.toList.take j ++ [es[j]] := by
        rw [List.take_succ, gl]
        rfl
      rw [e1]
      show ({ cls := _, data := .dict ((es.toList.take j).toArray.push es[j]) (n + 1) } : Obj) = { cls := _, data := .dict ((es.toList.take j ++ [es[j]]).toArray) (n + 1) }
      rw [List.push_toArray]
    refine wpAny_bind (wpAny_holding ?_)
    rw [if_pos rfl]
    refine wpAny_bind ?_
    rw [hk]
    refine KTD.kt_dictFind_strs (s := { s' with heap := h' }) D' rfl al ?_
    rw [fr]
    show wpAny (model prog w) A (dictPut d es[j].hash (.str x t) es[j].val) _ E _
    unfold dictPut
    refine wpAny_bind (KTD.kt_dictFind_strs (s := { s' with heap := h' }) D' rfl al ?_)
    rw [fr]
    rw [← hk]
    refine wpAny_updateDictKeys (s := { s' with heap := h' }) D' rfl ?_ sz (by rw [Array.size_push]; exact Nat.le_refl _)
    refine wpAny_bind (wpAny_dictEpoch (o := o) (es := es) (ep := ep) ((Heap.get?_update_other _ _ hne).trans ho') hd ?_)
    rw [if_neg (by simp)]
    refine wpAny_pure ⟨j + 1, _, n + 1, ?_, lt, rfl, ?_, fun b hb => (Heap.get?_update_other _ _ hb).trans (k' b hb), (Heap.size_update _ _ _).trans z'⟩
    · rw [hr]
      congr 1
      omega
    · rw [← up]
      exact Heap.get?_update_self _ D' (by rw [up]; rfl)
  · rintro b z ⟨i, h', n, hr, hi, rfl, D', k', z'⟩
    have q : es.size - i = 0 := by
      cases g : es.size - i with
      | zero => rfl
      | succ m => rw [g, List.range'_succ] at hr; cases hr
    have e1 : es.toList.take i = es.toList := List.take_of_length_le (by rw [Array.length_toList]; omega)
    rw [e1] at D'
    exact wpAny_pure (h h' n D' k' z')
theorem keywords_strs {f : Value} {s : Shared} {es : List DictEntry} {ex : List (Str × Value)} {n : Nat} {Q : List (Str × Value) → Shared → Prop} (D : s.heap.get? d = some (dictOf es n)) (he : Ents es ex) (h : Q ex s) :
    wpAny (model prog w) A (keywordsIn f d) Q E s := by
  unfold keywordsIn
  refine wpAny_bind (wpAny_dictEntries D rfl (wpAny_bind ?_))
  refine MeetsSeq2.wpAny_forIn_array _ (fun rest b s' => s' = s ∧ ∃ ex2, Ents rest ex2 ∧ b ++ ex2 = ex) _ ?_ ?_ _ _ ⟨rfl, ex, he, rfl⟩
  · rintro e rest b s' ⟨rfl, ex2, h2, q⟩
    cases h2 with
    | cons hk hv hr =>
      simp only [hk, hv]
      exact wpAny_pure ⟨rfl, _, hr, by rw [List.append_assoc]; exact q⟩
  · rintro b s' ⟨rfl, ex2, h2, q⟩
    cases h2 with
    | nil =>
      rw [List.append_nil] at q
      subst q
      exact wpAny_pure h
/-- a dict of texts stands at a, apart from d, that is still empty -/
structure KwSrc (d a : Addr) (ex : List (Str × Value)) (es : Array DictEntry) (s : Shared) : Prop where
  src : ∃ o ep, s.heap.get? a = some o ∧ o.ExactDict ∧ o.data = .dict es ep
  sys : (a == sysModules) = false
  ne : d ≠ a
  ents : Ents es.toList ex
  nodup : (ex.map (·.1)).Nodup
  size : es.size ≤ sizeLine
  new : s.heap.get? d = some (dictOf [] 0)
theorem merged_one {f : Value} {x : Sem Value} {s : Shared} {Q : Addr → Shared → Prop}
    (h : wpAny (model prog w) A x (fun v s2 => ∃ a ex es, v = .ref a ∧ KwSrc s.heap.objs.size a ex es s2 ∧
      ∀ h' n, h'.get? s.heap.objs.size = some (dictOf es.toList n) → (∀ b, s.heap.objs.size ≠ b → h'.get? b = s2.heap.get? b) → h'.objs.size = s2.heap.objs.size → Q s.heap.objs.size { s2 with heap := h' }) E { s with heap := s.heap.push (dictOf [] 0) }) :
    wpAny (model prog w) A (mergedKeywords f [(none, x)]) Q E s := by
  unfold mergedKeywords
  refine wpAny_bind (wpAny_alloc (wpAny_bind (wpAny_holding ?_)))
  dsimp only
  rw [List.forIn_cons]
  refine wpAny_bind (wpAny_bind ?_)
  show wpAny (model prog w) A ((pure () : Sem Unit) >>= fun _ => x >>= fun m => _) _ E _
  refine wpAny_bind (wpAny_pure (wpAny_bind (wpAny_mono h (fun v s2 ⟨a, ex, es, ev, S, q⟩ => ?_) fun _ _ z => z)))
  subst ev
  obtain ⟨o, ep, h1, h2, h3⟩ := S.src
  refine wpAny_bind (wpAny_onRaise (wpAny_holding (wpAny_tryCatch (wpAny_onRaise (merge_strs h1 h2 h3 S.sys S.ne S.ents S.nodup S.size S.new fun h' n D k z => ?_)))))
  refine wpAny_pure ?_
  show wpAny (model prog w) A (forIn [] _ _) _ E _
  rw [List.forIn_nil]
  refine wpAny_pure ?_
  show wpAny (model prog w) A (pure ()) _ E _
  exact wpAny_pure (wpAny_pure (q h' n D k z))
end
/-- how a call's arguments are evaluated where the keywords are one **e -/
theorem evalArgs_kwd {prog : Program} {w : World} {A : Around} {E : Value → Shared → Prop} {f : Value} {x y : Sem Value} {rest : List (Bool × Sem Value)} {s : Shared} {Q : Args → Shared → Prop}
    (h : wpAny (model prog w) A (spliced ((false, y) :: rest)) (fun vs s1 => wpAny (model prog w) A x (fun v s2 => ∃ a ex es, v = .ref a ∧ KwSrc s1.heap.objs.size a ex es s2 ∧
      ∀ h' n, h'.get? s1.heap.objs.size = some (dictOf es.toList n) → (∀ b, s1.heap.objs.size ≠ b → h'.get? b = s2.heap.get? b) → h'.objs.size = s2.heap.objs.size → Q ⟨vs, ex⟩ { s2 with heap := h' }) E { s1 with heap := s1.heap.push (dictOf [] 0) }) E s) :
    wpAny (model prog w) A (evalArgs f true ((false, y) :: rest) [(none, x)]) Q E s := by
  unfold evalArgs
  show wpAny (model prog w) A (spliced ((false, y) :: rest) >>= _) Q E s
  refine wpAny_bind (wpAny_mono h (fun vs s1 h1 => ?_) fun _ _ z => z)
  refine wpAny_bind (wpAny_pure (wpAny_holding ?_))
  show wpAny (model prog w) A (mergedKeywords f [(none, x)] >>= _) Q E s1
  refine wpAny_bind (merged_one (wpAny_mono h1 (fun v s2 ⟨a, ex, es, ev, S, q⟩ => ⟨a, ex, es, ev, S, fun h' n D k z => ?_⟩) fun _ _ z => z))
  refine wpAny_bind (wpAny_pure (wpAny_bind (wpAny_holding (keywords_strs (s := { s2 with heap := h' }) D S.ents (wpAny_pure (q h' n D k z))))))
/-- the call's node -/
theorem callWith_kwd {prog : Program} {w : World} {A : Around} {E : Value → Shared → Prop} {K : PySem.W.Frag} {f : Value} {first : List Value} {x y : Sem Value} {rest : List (Bool × Sem Value)} {pos : Pos} {s : Shared} {Q : Value → Shared → Prop} (hk : PySem.W.keepIn K f = true)
    (h : wpAny (model prog w) A (spliced ((false, y) :: rest)) (fun vs s1 => wpAny (model prog w) A x (fun v s2 => ∃ a ex es, v = .ref a ∧ KwSrc s1.heap.objs.size a ex es s2 ∧
      ∀ h' n, h'.get? s1.heap.objs.size = some (dictOf es.toList n) → (∀ b, s1.heap.objs.size ≠ b → h'.get? b = s2.heap.get? b) → h'.objs.size = s2.heap.objs.size →
        K.In h' ∧ wpAny (model prog w) A (call f (first ++ vs) ex) Q E { s2 with heap := h' }) E { s1 with heap := s1.heap.push (dictOf [] 0) }) E s) :
    wpAny (model prog w) A (callWith pos f first ((false, y) :: rest) [(none, x)]) Q E s := by
  have go := evalArgs_kwd (f := f) (Q := fun a s1 => K.In s1.heap ∧ wpAny (model prog w) A (call f (first ++ a.pos) a.kw) Q E s1) h
  unfold callWith
  refine wpAny_bind (wpAny_holding (wpAny_mono go (fun a s1 ⟨hin, h1⟩ => wpAny_bind (wpAny_standAt ?_)) fun _ _ z => z))
  obtain ⟨k, hk', L⟩ := PySem.W.keeps_K (M := model prog w) hk _ hin
  have st : (((false, y) :: rest).any (fun z => z.1) || [((none : Option Str), x)].any (fun z => z.1.isNone)) = true := by simp
  refine wpAny_bind (L.here ?_)
  have fin : ∀ {t : Sem Value}, wpAny (model prog w) A t Q E s1 → wpAny (model prog w) A (t >>= fun r => holding [r] point >>= fun _ => pure r) Q E s1 :=
    fun ht => wpAny_bind (wpAny_mono ht (fun r s2 hr => wpAny_bind (wpAny_holding (wpAny_point (wpAny_pure hr)))) fun _ _ z => z)
  simp only [st]
  rcases hk' with rfl | rfl | rfl <;> dsimp only
  · exact fin (by unfold callMarked; exact Calls.wpAny_keep h1)
  · exact fin (wpAny_operating h1)
  · exact fin (wpAny_operating h1)
end Mx

namespace Mx
open PySem PySem.Spec PyProof.Rows L2
open PySem.W (dictOf)
theorem kw_back {P : Program} {w : World} : ∀ {ks : List Str} {zs : List V} {vs : List (Key × Value)}, KV (kwD ks zs) vs → zs.length = ks.length → ∃ ws, Vals zs ws ∧ vs = (ks.zip ws).map fun x => ((.inr x.1 : Key), x.2)
  | [], [], _, .nil, _ => ⟨[], .nil, rfl⟩
  | k :: ks, z :: zs, (q, u) :: vs, .cons h r, l => by
    obtain ⟨ws, rw_, e⟩ := kw_back (P := P) (w := w) r (Nat.succ.inj l)
    refine ⟨u :: ws, .cons h.2 rw_, ?_⟩
    have hq : (.inr k : Key) = q := h.1
    rw [e, ← hq]
    rfl
section
variable {X : Cx} {pins : List (Addr × Obj)} {σ : L2.St} {H H1 : Hp} {s s1 : Shared}
/-- a dict that a call merges its keywords into is laid and pinned -/
theorem inv_kwpin (I : Inv X pins σ H s) : Inv X (pins ++ [(s.heap.objs.size, dictOf [] 0)]) σ H { s with heap := s.heap.push (dictOf [] 0) } := by
  have J : Inv X pins σ H { s with heap := s.heap.push (dictOf [] 0) } := I.kept (t' := s.toks) fun b u q => Heap.get?_push_of_some _ q
  refine J.pins_of fun p hp => ?_
  rcases List.mem_append.mp hp with hp | hp
  · exact J.pin p (List.mem_append_right _ hp)
  · obtain rfl := List.mem_singleton.mp hp
    exact ⟨Heap.get?_push_size _ rfl, I.hok.fresh (Nat.le_refl _), Nat.ne_of_gt I.lt, I.nofs (Nat.le_refl _), fun v q => nomatch q⟩
/-- behind the merge -/
theorem inv_kwdone {d : Addr} {h' : Heap} (I : Inv X pins σ H s) (hd : d = s.heap.objs.size) (I2 : Inv X (pins ++ [(d, dictOf [] 0)]) σ H1 s1) (k : ∀ b, d ≠ b → h'.get? b = s1.heap.get? b) : Inv X pins σ H1 { s1 with heap := h' } := by
  subst hd
  obtain ⟨e, n, ne, nf, -⟩ := I2.pin (s.heap.objs.size, dictOf [] 0) (List.mem_append_right _ (List.mem_append_right _ (List.mem_singleton.mpr rfl)))
  refine I2.unpinned.turned (t' := s1.toks) (it := s.heap.objs.size) (fun b o hb q => (k b (Ne.symm hb)).trans q) n ne (.inr I.sz) (fun x c q => ?_) fun p hp => ?_
  · obtain ⟨v, o, ho, _⟩ := I.cell x c q
    exact Nat.ne_of_lt (Heap.lt_size ho)
  · obtain ⟨q, -⟩ := I.pin p hp
    exact Nat.ne_of_lt (Heap.lt_size q)
/-- the source of the merge, as the walk knows it -/
theorem kw_src {d a : Addr} {ks : List Str} {zs : List V} (I2 : Inv X (pins ++ [(d, dictOf [] 0)]) σ H1 s1) (r : Rd H1 a (.dK (kwD ks zs))) (l : zs.length = ks.length) : ∃ ws es, Vals zs ws ∧ KwSrc d a (ks.zip ws) es s1 := by
  obtain ⟨e, n, -⟩ := I2.pin (d, dictOf [] 0) (List.mem_append_right _ (List.mem_append_right _ (List.mem_singleton.mpr rfl)))
  obtain ⟨hz, hs, vs, kv, o, es, ep, ho, hx, hd, hk, hp, hn⟩ := r.ok I2.hok
  obtain ⟨ws, rv, rfl⟩ := kw_back (P := X.prog) (w := X.w) kv l
  refine ⟨ws, es, rv, ⟨o, ep, ho, hx, hd⟩, hs, fun q => ?_, Ents.of_pairs hp, ?_, ?_, e⟩
  · subst q
    rcases r with r | ⟨_, r⟩ <;> rw [n] at r <;> cases r
  · rw [List.map_map] at hn
    have q : ((fun x : Key × Value => x.1) ∘ fun x : Str × Value => ((.inr x.1 : Key), x.2)) = (Sum.inr ∘ fun x : Str × Value => x.1) := rfl
    rw [q, ← List.map_map] at hn
    exact List.Pairwise.of_map _ (fun a b h q => h (by rw [q])) hn
  · have := hp.length
    rw [List.length_map, List.length_zip, ← rv.length, l, Nat.min_self] at this
    rw [← Array.length_toList, this]
    have z : (kwD ks zs).length = ks.length := by
      show ((ks.zip zs).map _).length = _
      rw [List.length_map, List.length_zip, l, Nat.min_self]
    rw [← z]
    exact hz
end
section
variable {X : Cx} {CX : CXT} {k n : Nat} {f C : Addr} {fd : FuncData} {ps ks : List Str} {sp : Sp} {E : L2.St → XK} {x : Str} {p pos : Pos} {e ed : Expr} {es : List Expr} {kws : List Keyword} {t : TA} {td : TE} {g : List Value → List Value → List Value} {gV : List V → List V → List V}
/-- C(e, .., **d): d is a dict of the keywords ks -/
def tMakeW (C : Addr) (n : Nat) (ks : List Str) (sp : Sp) (gV : List V → List V → List V) (E : L2.St → XK) (t : TA) (td : TE) : TE := fun σ H Q => t σ H fun vs H1 => td σ H1 fun y H2 => ∃ a zs, y = .ref a ∧ Rd H2 a (.dK (kwD ks zs)) ∧ zs.length = ks.length ∧ vs.length = n ∧
  ∀ x dx, H2 x = none → H2 dx = none → dx ≠ x → sp (gV (.ref x :: vs) zs) (upd (upd H2 dx (.own x)) x (.ins C dx [])) (fun v H3 => v = .non ∧ Q (.ref x) H3) (E σ)
theorem pe_makeW (M : Mk X.K C f) (F : FnOk X.prog X.w X.K X.mg X.base CX k f fd ps sp) (room : Room (k + 1) X.A) (hg : Gl X x) (hm : X.mg x = some (.ref C)) (kb : KBn X.K fd ps (n + 1) ks g gV) (pass : ∀ σ, PassesAt CX X σ (E σ)) (pa : PA X (e :: es) t) (pd : PE X ed td)
    (h1 : backToKw pos (keywordEach kws X.env) = [(none, (do let v ← eval ed X.env; standAt pos; pure v))] := by rfl) (h3 : (x == ("__debug__" : Str)) = false := by decide)
    (h4 : starEach (e :: es) X.env = (false, eval e X.env) :: starEach es X.env := by rfl) :
    PE X (.Call (.Name x p) (e :: es) kws pos) (tMakeW C n ks sp gV E t td) := by
  refine ⟨fun pl z τ G R I q => ?_⟩
  refine wpAny_Call_Name_kw (ld_glob I hg hm ?_ h3)
  have go := pa.run pos pl z τ G _ I q
  rw [h1]
  rw [h4] at go ⊢
  refine callWith_kwd (K := X.K) (first := []) M.kp (thn go fun ua z1 ⟨va, G1, I1, ra, q1⟩ => ?_)
  refine wpAny_bind (thn (pd.run _ _ τ G1 _ (inv_kwpin I1) q1) fun v z2 ⟨y, G2, I2, ry, a, zs, ey, r, lz, la, q2⟩ => wpAny_bind (wpAny_standAt (wpAny_pure ?_)))
  subst ey
  obtain rfl : v = Value.ref a := ry
  obtain ⟨ws, es', rz, S⟩ := kw_src I2 r lz
  refine ⟨a, _, es', rfl, S, fun h' m D k' z' => ?_⟩
  have J := inv_kwdone I1 rfl I2 k'
  exact ⟨J.kIn, run_makeKS M F room kb (pass τ) J ra rz la lz q2⟩
end
end Mx

namespace PySem.SeqAt
open AutoSeq1 (wpAny_loadPart')
open MeetsSeq MeetsSeq2 MeetsSeq3 SeqRoads2
section
variable {prog : Program} {w : World}
theorem mx_ne_loopIn (l b : Addr) (items items2 : Array Value) (n n2 : Nat) (dd dd2 : Option Addr) (sl sl2 : Array (Option Value)) (hsz : items.size = items2.size) (e : Nat → Bool) (k : Nat) :
    ∀ i : Nat, items.size - i = k → MeetsIn prog w (Builtin.«list.__eq__.loop» ⟨[.ref l, .ref b, rawInt i, rawInt 3], []⟩)
      (fun A R s => s.heap.get? l = some { cls := .type "list", dict := dd, data := .seq items n, slots := sl } ∧ s.heap.get? b = some { cls := .type "list", dict := dd2, data := .seq items2 n2, slots := sl2 } ∧
        (∀ j (h1 : j < items.size) (h2 : j < items2.size), EqP prog w A.in1 s items[j] items2[j] (e j)) ∧
        R (.ok (.ret (.bool (!((List.range items.size).drop i).all e)))) s) := by
  induction k with
  | zero =>
    intro i hk A R s h
    obtain ⟨hp, g, d, tk, os⟩ := s; obtain ⟨hl, hb, he, h⟩ := h
    wp_walk using wpAny_loadPart' hl, wpAny_loadPart' hb
    have hi1 : items[((i : Nat) : Int).toNat]? = none := by simp; omega
    have hi2 : items2[((i : Nat) : Int).toNat]? = none := by simp; omega
    have hd : (List.range items.size).drop i = [] := by simp; omega
    rw [hd] at h
    rw [hi1, hi2]
    wp_walk using wpAny_loadPart' hl, wpAny_loadPart' hb
    show R (.ok (.ret (.bool (items.size != items2.size)))) _
    rw [hsz]
    simpa using h
  | succ k ih =>
    intro i hk A R s h
    obtain ⟨hp, g, d, tk, os⟩ := s; obtain ⟨hl, hb, he, h⟩ := h
    wp_walk using wpAny_loadPart' hl, wpAny_loadPart' hb
    have hlt : i < items.size := by omega
    have hlt2 : i < items2.size := by omega
    have hi1 : items[((i : Nat) : Int).toNat]? = some items[i] := by simp [hlt]
    have hi2 : items2[((i : Nat) : Int).toNat]? = some items2[i] := by simp [hlt2]
    have hd : (List.range items.size).drop i = i :: (List.range items.size).drop (i + 1) := by simp [List.drop_eq_getElem_cons, hlt]
    have hc : ((i : Int) + 1) = ((i + 1 : Nat) : Int) := by push_cast; rfl
    rw [hd, List.all_cons] at h
    rw [hi1, hi2]
    refine wpAny_bind (he i hlt hlt2 _ _ ?_)
    cases hb' : e i with
    | true =>
      rw [hb'] at h
      wp_walk
      rw [hc]
      exact ⟨plainId_quiet plain_eq_loop _, codeAny_builtin entry_eq_loop (by
        rw [Around.under_plainId plain_eq_loop _]
        exact ih (i + 1) (by omega) A R _ ⟨hl, hb, he, by simpa using h⟩)⟩
    | false =>
      rw [hb'] at h
      wp_walk using wpAny_loadPart' hl, wpAny_loadPart' hb
      rw [hi1, hi2]
      wp_walk
      simpa using h
theorem mx_list_neIn (l b : Addr) (items items2 : Array Value) (n n2 : Nat) (dd dd2 : Option Addr) (sl sl2 : Array (Option Value)) (hsz : items.size = items2.size) (e : Nat → Bool) :
    MeetsIn prog w (Builtin.«list.__ne__» ⟨[.ref l, .ref b], []⟩)
      (fun A R s => s.heap.get? l = some { cls := .type "list", dict := dd, data := .seq items n, slots := sl } ∧ s.heap.get? b = some { cls := .type "list", dict := dd2, data := .seq items2 n2, slots := sl2 } ∧
        (∀ j (h1 : j < items.size) (h2 : j < items2.size), EqP prog w A.in1 s items[j] items2[j] (e j)) ∧
        R (.ok (.ret (.bool (!(List.range items.size).all e)))) s) := by
  intro A R s h
  obtain ⟨hp, g, d, tk, os⟩ := s; obtain ⟨hl, hb, he, h⟩ := h
  have f3 := AutoSeq1.sub_list_list
  have hne : ¬ (items.size != items2.size) = true := by simp [hsz]
  wp_walk using wpAny_loadPart' hl, wpAny_loadPart' hb
  exact ⟨plainId_quiet plain_eq_loop _, codeAny_builtin entry_eq_loop (by
    rw [Around.under_plainId plain_eq_loop _]
    exact mx_ne_loopIn l b items items2 n n2 dd dd2 sl sl2 hsz e _ 0 rfl A R _ ⟨hl, hb, he, by simpa using h⟩)⟩
theorem mx_rcP_listsNe {A : Around} {s : Shared} {l b : Addr} {items items2 : Array Value} {e : Nat → Bool} (hl : s.heap.IsList l items) (hb : s.heap.IsList b items2) (hsz : items.size = items2.size) (hu : A.units < cLine)
    (he : ∀ j (h1 : j < items.size) (h2 : j < items2.size), EqP prog w A.in1 s items[j] items2[j] (e j)) (E Q : Value → Shared → Prop) (h : Q (.bool (!(List.range items.size).all e)) s) : wpAny (model prog w) A (richCompare .NotEq (.ref l) (.ref b)) Q E s := by
  obtain ⟨⟨cls, dd, data, sl⟩, ho, hc, n, hd⟩ := id hl
  obtain ⟨⟨cls2, dd2, data2, sl2⟩, ho2, hc2, n2, hd2⟩ := id hb
  simp only at hc hd hc2 hd2
  subst hc hd hc2 hd2
  have ta : s.TypeIs (.ref l) "list" := ⟨_, ho, rfl⟩
  have tb : s.TypeIs (.ref b) "list" := ⟨_, ho2, rfl⟩
  exact wpAny_richCompare_same_room (op := .NotEq) ta tb F.slot_list_ne (call_meetsIn F.slot_list_ne ta F.entry_list_ne (F.args_list_ne_2 _ _) (mx_list_neIn l b items items2 n n2 dd dd2 sl sl2 hsz e)
    ⟨ho, ho2, he, show Value.bool (!(List.range items.size).all e) ≠ Value.notImplemented ∧ Q (.bool (!(List.range items.size).all e)) s from ⟨(fun x => nomatch x), h⟩⟩) hu
end
end PySem.SeqAt
namespace Mx
open PySem PySem.Spec PyProof.Rows L2 Mc
/-! == of dicts of ints, of lists of such -/
def dEq (ks ls : List (Key × V)) : Bool := decide (ks.length = ls.length) && ks.all fun p => decide (valV ls p.1 = some p.2)
def IntsD (ks : List (Key × V)) : Prop := ∀ p ∈ ks, ∃ i, p.2 = V.int i
theorem hits_b {P : Program} {w : World} {A : Around} {s : Shared} {ls : List (Key × V)} {vb : List (Key × Value)} (rb : KV ls vb) (il : IntsD ls) {ks : List (Key × V)} {va : List (Key × Value)}
    (ra : KV ks va) (ik : IntsD ks) : PySem.W.KeqHitsP P w A s vb va (ks.all fun p => decide (valV ls p.1 = some p.2)) := by
  unfold KV at ra
  induction ra with
  | nil => exact .nil
  | @cons p q ps qs h t k =>
    obtain ⟨h1, h2⟩ := h
    obtain ⟨key, v⟩ := q
    have h1' : p.1 = key := h1
    subst h1'
    have k' := k fun p' hm => ik p' (List.mem_cons_of_mem _ hm)
    rw [List.all_cons]
    cases e : valV ls p.1 with
    | none =>
      have rr : RelO (none : Option V) (valueAt vb p.1) := by rw [← e]; exact rb.val p.1
      have hn : valueAt vb p.1 = none := RelO.none_of rr
      rw [decide_eq_false (show ¬ ((none : Option V) = some p.2) from fun z => by cases z)]
      exact .miss hn
    | some u =>
      have rr : RelO (some u) (valueAt vb p.1) := by rw [← e]; exact rb.val p.1
      obtain ⟨y, hy, ry⟩ := rr.some_of
      obtain ⟨i, hi⟩ := ik p List.mem_cons_self
      obtain ⟨j, hj⟩ : ∃ j, u = V.int j := by
        unfold valV at e
        obtain ⟨pr, hf, hu⟩ := Option.map_eq_some_iff.mp e
        obtain ⟨j, hj⟩ := il pr (List.mem_of_find?_eq_some hf)
        exact ⟨j, by rw [← hu, hj]⟩
      rw [hi] at h2 ⊢
      subst hj
      obtain ⟨t1, rfl⟩ := (show ∃ t, v = Value.int i t from h2)
      obtain ⟨t2, rfl⟩ := (show ∃ t, y = Value.int j t from ry)
      have ee : decide (some (V.int j) = some (V.int i)) = (i == j) := by
        by_cases z : i = j
        · subst z
          simp
        · rw [decide_eq_false (fun q => z (by injection q with q; injection q with q; exact q.symm))]
          exact (beq_eq_false_iff_ne.mpr z).symm
      rw [ee]
      exact .hit hy (SeqAt.EqAt.int_int i t1 j t2).eqP k'
theorem nodup_of {P : Program} {w : World} {H : Hp} {h : Heap} {a : Addr} {ks : List (Key × V)} (ok : HOk P w H h) (e : H a = some (.dK ks)) : (ks.map (·.1)).Nodup := by
  obtain ⟨_, _, vs, r, dd⟩ := dk_of ok e
  have e1 := KV.keys r
  rw [e1]
  obtain ⟨o, es, ep, h1, h2, h3, h4, h5, h6⟩ := dd
  exact h6
theorem valV_mem {ks : List (Key × V)} (nd : (ks.map (·.1)).Nodup) {p : Key × V} (h : p ∈ ks) : valV ks p.1 = some p.2 := by
  induction ks with
  | nil => cases h
  | cons q r ih =>
    rw [List.map_cons, List.nodup_cons] at nd
    rcases List.mem_cons.mp h with rfl | h
    · exact valV_pos rfl
    · rw [valV_neg (fun z => nd.1 (by rw [z]; exact List.mem_map_of_mem h))]
      exact ih nd.2 h
theorem dEq_refl {ks : List (Key × V)} (nd : (ks.map (·.1)).Nodup) : dEq ks ks = true := by
  unfold dEq
  rw [decide_eq_true rfl, Bool.true_and, List.all_eq_true]
  intro p hp
  exact decide_eq_true (valV_mem nd hp)
section
variable {X : Cx} {pins : List (Addr × Obj)} {σ : L2.St} {H : Hp} {s : Shared}
theorem eqP_dicts (I : Inv X pins σ H s) {A : Around} (hu : A.units < cLine) {a b : Addr} {ks ls : List (Key × V)} (ha : H a = some (.dK ks)) (hb : H b = some (.dK ls)) (ik : IntsD ks) (il : IntsD ls) : SeqAt.EqP X.prog X.w A s (.ref a) (.ref b) (dEq ks ls) := by
  by_cases e : a = b
  · subst e
    rw [ha] at hb
    cases hb
    rw [dEq_refl (nodup_of I.hok ha)]
    exact (SeqAt.EqAt.same _).eqP
  · refine SeqAt.eqP_refs e fun E Q q => ?_
    obtain ⟨_, ya, va, ra, da⟩ := dk_of I.hok ha
    obtain ⟨_, yb, vb, rb, db⟩ := dk_of I.hok hb
    refine PySem.W.rcP_dicts (knd := mixKind X.prog X.w) (r := ks.all fun p => decide (valV ls p.1 = some p.2)) ya yb da db hu (fun _ => hits_b rb il ra ik) E Q ?_
    have e1 : (va.length == vb.length) = decide (ks.length = ls.length) := by
      rw [← ra.length, ← rb.length]
      by_cases z : ks.length = ls.length
      · rw [decide_eq_true z, z]; simp
      · rw [decide_eq_false z]; exact beq_eq_false_iff_ne.mpr z
    rw [e1]
    exact q
abbrev AreD (H : Hp) : List Addr → List (List (Key × V)) → Prop := Paired fun a ks => H a = some (.dK ks) ∧ IntsD ks
def dEqs : List (List (Key × V)) → List (List (Key × V)) → Bool
  | k :: ks, l :: ls => dEq k l && dEqs ks ls
  | _, _ => true
theorem items_d (I : Inv X pins σ H s) {A : Around} (hu : A.units < cLine) : ∀ {as bs : List Addr} {kss lss : List (List (Key × V))}, AreD H as kss → AreD H bs lss → as.length = bs.length →
    ∃ e : Nat → Bool, (∀ j (h1 : j < (as.map Value.ref).length) (h2 : j < (bs.map Value.ref).length), SeqAt.EqP X.prog X.w A s (as.map Value.ref)[j] (bs.map Value.ref)[j] (e j)) ∧ (List.range as.length).all e = dEqs kss lss
  | [], [], _, _, .nil, .nil, _ => ⟨fun _ => true, fun j h1 _ => absurd h1 (Nat.not_lt_zero j), rfl⟩
  | a :: as, b :: bs, ks :: kss, ls :: lss, .cons ha ra, .cons hb rb, hl => by
    obtain ⟨e, he, hall⟩ := items_d I hu ra rb (Nat.succ.inj hl)
    refine ⟨fun j => match j with | 0 => dEq ks ls | j + 1 => e j, fun j h1 h2 => ?_, ?_⟩
    · cases j with
      | zero => exact eqP_dicts I hu ha.1 hb.1 ha.2 hb.2
      | succ j => exact he j (Nat.lt_of_succ_lt_succ h1) (Nat.lt_of_succ_lt_succ h2)
    · rw [List.length_cons, List.range_succ_eq_map, List.all_cons, List.all_map]
      show (dEq ks ls && (List.range as.length).all e) = _
      rw [hall]
      rfl
def rEqLD (K : PySem.W.Frag) (neg : Bool) : R2 := fun x y H Q => ∃ (a b : Addr) (as bs : List Addr) (kss lss : List (List (Key × V))), x = .ref a ∧ y = .ref b ∧ SqL K H a (as.map V.ref) ∧ SqL K H b (bs.map V.ref) ∧ AreD H as kss ∧ AreD H bs lss ∧ as.length = bs.length ∧
  Q (.bl (if neg then !(dEqs kss lss) else dEqs kss lss)) H
theorem op_eqLD (hu : X.A.units + 64 < cLine) : OpR X (compareOp .Eq) (rEqLD X.K false) := by
  intro pins s σ H x y v u Q I rx ry h
  obtain ⟨a, b, as, bs, kss, lss, rfl, rfl, ha, hb, da, db, hl, q⟩ := h
  cases rx
  cases ry
  obtain ⟨us, r1, p1, _⟩ := I.list ha
  obtain ⟨ws, r2, p2, _⟩ := I.list hb
  obtain rfl := refs_at r1
  obtain rfl := refs_at r2
  obtain ⟨e, he, hall⟩ := items_d I (A := X.A.in1) (by show X.A.units + 1 < cLine; omega) da db hl
  refine SeqAt.rcP_lists (e := e) p1.isList p2.isList (by simpa using hl) (by omega) (fun j h1 h2 => ?_) _ _ ?_
  · have k := he j (by simpa using h1) (by simpa using h2)
    simpa using k
  · rw [show (as.map Value.ref).toArray.size = as.length by simp, hall]
    exact ⟨.bl _, H, I, rfl, q⟩
theorem op_neLD (hu : X.A.units + 64 < cLine) : OpR X (compareOp .NotEq) (rEqLD X.K true) := by
  intro pins s σ H x y v u Q I rx ry h
  obtain ⟨a, b, as, bs, kss, lss, rfl, rfl, ha, hb, da, db, hl, q⟩ := h
  cases rx
  cases ry
  obtain ⟨us, r1, p1, _⟩ := I.list ha
  obtain ⟨ws, r2, p2, _⟩ := I.list hb
  obtain rfl := refs_at r1
  obtain rfl := refs_at r2
  obtain ⟨e, he, hall⟩ := items_d I (A := X.A.in1) (by show X.A.units + 1 < cLine; omega) da db hl
  refine SeqAt.mx_rcP_listsNe (e := e) p1.isList p2.isList (by simpa using hl) (by omega) (fun j h1 h2 => ?_) _ _ ?_
  · have k := he j (by simpa using h1) (by simpa using h2)
    simpa using k
  · rw [show (as.map Value.ref).toArray.size = as.length by simp, hall]
    exact ⟨.bl _, H, I, rfl, q⟩
end
end Mx

namespace Mx
open PySem PySem.Spec PyProof.Rows L2 Mc
/-! isinstance, the keys, list(d.values()), max with default -/
def rIsiO (K : PySem.W.Frag) : List V → Hp → VK → Prop := fun xs H Q => rIsi K xs H Q ∨ ∃ (a : Addr) (k v : V) (m : String) (b : Bool), xs = [.ref a, .ty m] ∧ H a = some (oddD a k v) ∧ kitB "dict" m = some b ∧ Q (.bl b) H
theorem call_isiO {X : Cx} : CallR X (.builtin "isinstance") (rIsiO X.K) := by
  intro pins s σ H xs us Q I r h
  rcases h with h | ⟨a, k, v, m, b, rfl, ha, e, q⟩
  · exact call_isi pins s σ H xs us Q I r h
  · obtain ⟨u1, u2, rfl, r1, r2⟩ := vals2 r
    cases (show u1 = Value.ref a from r1)
    cases (show u2 = Value.type m from r2)
    obtain ⟨hs, o, en, n, ho, hx, hd, _, _⟩ := odd_at (I.hok a _ ha)
    exact PySem.W.kia_one PySem.W.kitx_dict I.kIn ⟨o, ho, hx.1⟩ (kit_ty e) (fun z => nomatch z) fun tk => ⟨.bl b, H, I.tok tk, rfl, q⟩
def Ito (d : Addr) (o : Obj) (k v : V) : It :=
  ⟨fun i H => H d = some (.frz o (oddD d k v)) ∧ i < 1, fun i H x H' => H' = H ∧ x = k, fun i H => H d = some (.frz o (oddD d k v)) ∧ 1 ≤ i⟩
theorem frzO {X : Cx} {pins : List (Addr × Obj)} {σ : L2.St} {H : Hp} {s : Shared} {d : Addr} {o : Obj} {k v : V} (I : Inv X pins σ H s) (h : H d = some (.frz o (oddD d k v))) :
    (d == sysModules) = false ∧ s.heap.get? d = some o ∧ o.ExactDict ∧ ∃ (e : DictEntry) (n : Nat), o.data = .dict #[e] n ∧ RelV k e.key ∧ RelV v e.val := by
  obtain ⟨hd, z⟩ := I.hok d _ h
  obtain ⟨hs, o', e, n, ho, hx, hdt, r1, r2⟩ := odd_at z
  rw [hd] at ho
  cases ho
  exact ⟨hs, hd, hx, e, n, hdt, r1, r2⟩
section
variable {P : Program} {w : World} {K : PySem.W.Frag} {tg : Expr} {d : Addr} {o : Obj} {es : Array DictEntry} {ep : Nat} {k v : V}
theorem turn_odd (it : Addr) (hod : o.data = .dict es ep) : Turn P w K tg (Ito d o k v) [it] it (fun i h => h.IsKeyIter it d i 1 ep) where
  mem := by simp
  obj := fun i h st b hb => by
    have e : b = it := by simpa using hb
    subst e
    obtain ⟨oi, e, c, dd⟩ := st
    exact ⟨oi, e, fun v z => by rw [dd] at z; cases z⟩
  keep := fun i h h' st k => st.at fun oi e => k it (by simp) oi e
  item := by
    intro X hP hw hK hc i pins s σ H E I hf st hg
    subst hP hw hK
    obtain ⟨hd, hi⟩ := hg
    obtain ⟨f0, f1, f2, f3, f4, f5⟩ := hf it (by simp)
    obtain ⟨hs, hgd, hx, en, n, hdt, hkey, hval⟩ := frzO I hd
    obtain ⟨e1, e2⟩ := dict_ep hod hdt
    subst e2
    have i0 : i = 0 := by omega
    subst i0
    refine next_key_item (es := #[en]) (en := en) st hgd hdt rfl rfl fun h' st' sb => ?_
    have I1 : Inv X pins σ H { s with heap := h' } := I.turned (t' := s.toks) (fun b ob hb e => (sb.2 b hb).trans e) f0 f1 f3 f4 f5
    obtain ⟨oi, e, c, dd⟩ := id st'
    exact ⟨en.key, rfl, go_of (s := { s with heap := h' }) e c dd (by decide) ⟨k, H, I1, hkey, ⟨rfl, rfl⟩, st', fun b hb => (hf b hb).1⟩⟩
  done := by
    intro X hP hw hK hc i pins s σ H E I hf st hg
    subst hP hw hK
    obtain ⟨hd, hi⟩ := hg
    obtain ⟨f0, f1, f2, f3, f4, f5⟩ := hf it (by simp)
    obtain ⟨hs, hgd, hx, en, n, hdt, hkey, hval⟩ := frzO I hd
    obtain ⟨e1, e2⟩ := dict_ep hod hdt
    subst e2
    exact next_key_end (es := #[en]) (I.ok.hd hc) st hgd hdt rfl hi fun h' eb => ⟨rfl, I.turned (t' := s.toks) (fun b ob hb e => eb b ob hb e) f0 f1 f3 f4 f5⟩
  self := fun A i s Q E st h => by
    refine wpAny_pyIter_slot st.typeIs F.slot_dict_keyiterator_iter (wpAny_call_entry F.slot_dict_keyiterator_iter st.typeIs F.entry_dict_keyiterator_iter ?_ (F.args_dict_keyiterator_iter_1 _))
    show wpAny _ _ (ret (.ref it)) _ _ s
    exact wpAny_pure ⟨_, rfl, "dict_keyiterator", _, st.typeIs, F.slot_dict_keyiterator_next.lookup, h⟩
theorem walk_odd : Walk (Ito d o k v) 1 (fun H => H d = some (.frz o (oddD d k v))) (fun i H x H' => H' = H ∧ x = k) :=
  ⟨fun _ _ hi q => ⟨q, hi⟩, fun _ q => ⟨q, Nat.le_refl _⟩, fun _ _ _ _ _ _ y => y⟩
end
/-- the dict is locked -/
def iKeysO (td : TE) : TI := fun σ H R => td σ H fun x H1 => ∃ d o, x = .ref d ∧ ((∃ kvs, H1 d = some (.frz o (.dK kvs)) ∧ R (Itk d o kvs) H1) ∨ (∃ k v, H1 d = some (.frz o (oddD d k v)) ∧ R (Ito d o k v) H1) ∨ ∃ kvs, H1 d = some (.frz o (.dT kvs)) ∧ R (Itkt d o kvs) H1)
section
variable {X : Cx} {tg e : Expr} {td te : TE} {p apos cpos pos : Pos}
theorem pi_keysO (he : PE X e td) : PI X tg e (iKeysO td) := by
  refine ⟨fun pins s σ H R I h => ?_⟩
  refine thn (he.run pins s σ H _ I h) fun u s1 ⟨x, H1, I1, rx, d, o, ex, q⟩ => ?_
  subst ex
  obtain rfl : u = Value.ref d := rx
  rcases q with ⟨kvs, hd, q⟩ | ⟨k, v, hd, q⟩ | ⟨kvs, hd, q⟩
  · obtain ⟨hs, hgd, hx, es, ep, vs, hdt, hsz, kv, hm⟩ := I1.frzK hd
    refine iter_keys hs hgd hx hdt (pi_one (tk := s1.toks) I1 _ (turn_keys _ hdt) ⟨_, Heap.get?_push_size _ rfl, rfl, ?_⟩ q)
    rw [hsz] <;> rfl
  · obtain ⟨hs, hgd, hx, en, n, hdt, _, _⟩ := frzO I1 hd
    exact iter_keys hs hgd hx hdt (pi_one (tk := s1.toks) I1 _ (turn_odd _ hdt) ⟨_, Heap.get?_push_size _ rfl, rfl, rfl⟩ q)
  · obtain ⟨hs, hgd, hx, es, ep, hdt, hsz, ent⟩ := I1.frzT hd
    refine iter_keys hs hgd hx hdt (pi_one (tk := s1.toks) I1 _ (turn_keysT _ hdt) ⟨_, Heap.get?_push_size _ rfl, rfl, ?_⟩ q)
    rw [hsz] <;> rfl
theorem vals_of_kv {ks : List (Key × V)} {vs : List (Key × Value)} (h : KV ks vs) : Vals (ks.map (·.2)) (vs.map (·.2)) := by
  unfold KV at h
  induction h with
  | nil => exact .nil
  | cons r t ih => exact .cons r.2 ih
theorem vals_items {vs : List (Key × Value)} {acc : Array Value} (h : ItemsOf (fun i v => ∃ k, vs[i]? = some (k, v)) acc vs.length) : acc.toList = vs.map (·.2) := by
  apply List.ext_getElem?
  intro j
  rw [List.getElem?_map, Array.getElem?_toList]
  cases e : acc[j]? with
  | some v =>
    obtain ⟨k, hk⟩ := h.2 j v e
    rw [hk]
    rfl
  | none =>
    have : vs.length ≤ j := by rw [← h.1]; exact Array.getElem?_eq_none_iff.mp e
    rw [List.getElem?_eq_none this]
    rfl
def tListVals (te : TE) : TE := fun σ H Q => te σ H fun x H1 => ∃ (d : Addr) (kvs : List (Key × V)), x = .ref d ∧ H1 d = some (.dK kvs) ∧ ∀ l, H1 l = none → Q (.ref l) (upd H1 l (.lst (kvs.map (·.2))))
theorem pe_listVals (hc : X.calm = true) (he : PE X e te) (hg : Gl X "list") (hm : X.mg "list" = none) (hv : bootBuiltins "list" = some (.type "list")) (hbase : attributeBase e "values" X.env (eval e X.env) = eval e X.env := by rfl) (hline : (apos.endLine == cpos.line) = true := by rfl)
    (hs : starEach [.Call (.Attribute e "values" apos) [] [] cpos] X.env = (false, eval (.Call (.Attribute e "values" apos) [] [] cpos) X.env) :: starEach [] X.env := by rfl) :
    PE X (.Call (.Name "list" p) [.Call (.Attribute e "values" apos) [] [] cpos] [] pos) (tListVals te) := by
  refine ⟨fun pins s σ H Q I hq => ?_⟩
  refine wpAny_Call_Name_kw (ld_blt I hg hm hv ?_)
  refine PyProof.Rows.callWith_type1 ?_ hs rfl
  rw [hs]
  show wpAny _ _ (spliced ((false, eval (.Call (.Attribute e "values" apos) [] [] cpos) X.env) :: backTo pos (starEach [] X.env))) _ _ s
  refine Calls.spliced_cons ?_
  refine wpAny_Call_method (T := "dict") (id := "dict.values") hbase rfl hline F.plainAttrs_dict F.slot_dict_values F.type_dict_values (thn (he.run pins s σ H _ I hq) fun u s1 ⟨x, H1, I1, rx, d, kvs, ex, hd, q⟩ => ?_)
  subst ex
  obtain rfl : u = Value.ref d := rx
  obtain ⟨hz, hs0, vs, kv, hdo⟩ := I1.hok d _ hd
  obtain ⟨ep, hat⟩ := hdo.dictAt
  have lk : kvs.length = vs.length := Paired.length kv
  have I2 : Inv X pins σ H1 { s1 with heap := s1.heap.push { cls := .type "dict_values", data := .fields #[.ref d] } } := I1.kept (t' := s1.toks) fun b ob q => Heap.get?_push_of_some _ q
  refine ⟨hdo.typeIs, hdo.mapOf.noDict, ?_⟩
  show wpAny _ _ (callWith cpos (.builtin "dict.values") [.ref d] [] []) _ X.xe s1
  refine method_meetsIn F.slot_dict_values F.entry_dict_values rfl (PySem.evalArgs_none ⟨rfl, hdo.typeIs, F.args_dict_values_1 _, _, meets_dict_values (mixKind X.prog X.w) d hs0, ⟨vs, hdo⟩, ?_⟩)
  refine Calls.spliced_nil ?_
  refine PySem.W.kdl_call (PySem.W.kdl_values (knd := mixKind X.prog X.w) (kvs := vs) (ep := ep)) (I1.ok.hd hc) ⟨⟨_, Heap.get?_push_size _ rfl, rfl, rfl⟩, hat.push _⟩ (by omega) fun h' tk acc' c' hk hS hacc => ?_
  refine ⟨.ref _, _, I2.laid (t' := tk) (o := .lst (kvs.map (·.2))) hk (Nat.le_refl _) ?_, rfl, q _ (I2.hok.fresh (Nat.le_refl _))⟩
  refine ⟨by rw [List.length_map]; exact hz, acc'.toList, c', ?_, ?_⟩
  · rw [vals_items hacc]
    exact vals_of_kv kv
  · rw [Array.toArray_toList]
    exact hS
theorem dpAll_ints {K : PySem.W.Frag} {H : Hp} : ∀ ns : List Int, DpAll K H (ns.map V.int) (ns.map PyData.int)
  | [] => .nil
  | n :: r => .cons (.int n) (dpAll_ints r)
theorem depth_ints : ∀ ns : List Int, PyData.depthAll (ns.map PyData.int) ≤ 1
  | [] => Nat.zero_le _
  | n :: r => Nat.max_le.mpr ⟨Nat.le_of_ble_eq_true rfl, depth_ints r⟩
theorem alike_ints (ns : List Int) : PySem.W.AlikeAll (ns.map PyData.int) := by
  refine ⟨fun x hx y hy => ?_, fun x hx => ?_⟩
  · obtain ⟨i, _, rfl⟩ := List.mem_map.mp hx
    obtain ⟨j, _, rfl⟩ := List.mem_map.mp hy
    rfl
  · obtain ⟨i, _, rfl⟩ := List.mem_map.mp hx
    exact fun z => nomatch z
theorem foldl_max_spec : ∀ (r : List Int) (n : Int), (r.foldl max n = n ∨ r.foldl max n ∈ r) ∧ n ≤ r.foldl max n ∧ ∀ y ∈ r, y ≤ r.foldl max n
  | [], n => ⟨.inl rfl, Int.le_refl _, fun y h => nomatch h⟩
  | k :: r, n => by
    obtain ⟨h1, h2, h3⟩ := foldl_max_spec r (max n k)
    show (r.foldl max (max n k) = n ∨ r.foldl max (max n k) ∈ k :: r) ∧ n ≤ r.foldl max (max n k) ∧ ∀ y ∈ k :: r, y ≤ r.foldl max (max n k)
    refine ⟨?_, by omega, fun y hy => ?_⟩
    · rcases h1 with h1 | h1
      · rw [h1]
        by_cases z : n ≤ k
        · right
          rw [show max n k = k by omega]
          exact List.mem_cons_self
        · left
          omega
      · exact .inr (List.mem_cons_of_mem _ h1)
    · rcases List.mem_cons.mp hy with rfl | hy
      · omega
      · exact h3 y hy
def rMaxD (K : PySem.W.Frag) : List V → List V → Hp → VK → Prop := fun xs zs H Q => ∃ (a : Addr) (d : V) (ns : List Int), xs = [.ref a] ∧ zs = [d] ∧ SqL K H a (ns.map V.int) ∧ (ns = [] → Q d H) ∧ ∀ m, m ∈ ns → (∀ y, y ∈ ns → y ≤ m) → Q (.int m) H
theorem call_maxD (hc : X.calm = true) (hu : X.A.units + 64 < cLine) : CallRK X (.builtin "max") [Str.ofString "default"] (rMaxD X.K) := by
  intro pins s σ H xs zs us ws Q I r rz h
  obtain ⟨a, d, ns, rfl, rfl, hs, q0, q1⟩ := h
  obtain rfl := Vals.ref1 r
  obtain ⟨w1, rfl, rd⟩ := vals1 rz
  obtain ⟨its, rv, hl, hz⟩ := I.list hs
  obtain ⟨as, R⟩ := Dp.readsAll I (ns.map PyData.int) _ its (dpAll_ints ns) rv
  refine PySem.W.max_list_default (I.ok.hd hc) hl.isList (by simpa using R) (alike_ints ns) (by have := depth_ints ns; omega) (fun e h' tk hk => ?_) (fun y ys i v h' tk bs e hv hr hk => ?_)
  · have en : ns = [] := by cases ns with | nil => rfl | cons n r => cases e
    exact ⟨d, H, I.kept hk, rd, q0 en⟩
  · match ns, e with
    | n :: r, e =>
      injection e with e1 e2
      subst e1 e2
      rw [PySem.W.maxD_ints] at hr
      cases hr
      exact ⟨.int (r.foldl max n), H, I.kept hk, ⟨_, rfl⟩, q1 _ (by
        rcases (foldl_max_spec r n).1 with z | z
        · rw [z]
          exact List.mem_cons_self
        · exact List.mem_cons_of_mem _ z) fun y hy => by
          rcases List.mem_cons.mp hy with rfl | hy
          · exact (foldl_max_spec r y).2.1
          · exact (foldl_max_spec r n).2.2 y hy⟩
end
end Mx

namespace Mx
open PySem PySem.Spec PyProof.Rows L2 Mc
/-! repr of dicts of leaves; {(1,): v} -/
def isLf : V → Bool
  | .non => true
  | .bl _ => true
  | .int _ => true
  | .str _ => true
  | _ => false
def lfD : V → PyData
  | .bl b => .bool b
  | .int i => .int i
  | .str x => .str x
  | _ => .none
def kD : Key → PyData
  | .inl i => .int i
  | .inr x => .str x
theorem lf_reads {h : Heap} {v : V} {u : Value} (l : isLf v = true) (r : RelV v u) : Reads h u (lfD v) [] := by
  cases v with
  | non => cases (show u = Value.none from r); exact .none
  | bl b => cases (show u = Value.bool b from r); exact .bool b
  | int i => obtain ⟨t, q⟩ := (show ∃ t, u = Value.int i t from r); cases q; exact .int i t
  | str x => obtain ⟨t, q⟩ := (show ∃ t, u = Value.str x t from r); cases q; exact .str x t
  | _ => cases l
theorem lf_key (k : Key) : isLf (kV k) = true ∧ lfD (kV k) = kD k := by
  cases k <;> exact ⟨rfl, rfl⟩
theorem readsAll_get {h : Heap} : ∀ (us : List Value) (ds : List PyData), us.length = ds.length → (∀ (i : Nat) (u : Value) (d : PyData), us[i]? = some u → ds[i]? = some d → Reads h u d []) → ReadsAll h us ds []
  | [], [], _, _ => .nil
  | u :: us, d :: ds, e, g => ReadsAll.cons (as := []) (bs := []) (g 0 u d rfl rfl) (readsAll_get us ds (Nat.succ.inj e) fun i u' d' h1 h2 => g (i + 1) u' d' h1 h2)
  | [], _ :: _, e, _ => by cases e
  | _ :: _, [], e, _ => by cases e
def dD (kvs : List (Key × V)) : PyData := .dict (kvs.map fun p => (kD p.1, lfD p.2))
inductive ShowsX (P : Program) (w : World) (K : PySem.W.Frag) (H : Hp) : V → Str → Prop
  | old {v : V} {z : Str} (h : ShowsV K H v z) : ShowsX P w K H v z
  | dk {a : Addr} {kvs : List (Key × V)} (e : H a = some (.dK kvs)) (l : ∀ p ∈ kvs, isLf p.2 = true) (hs : (dD kvs).showable = true) (hp : (dD kvs).depth ≤ 40) (hz : (dD kvs).shown.length ≤ sizeLine) : ShowsX P w K H (.ref a) (dD kvs).shown
  | odd {a : Addr} {k v : V} (e : H a = some (oddD a k v)) (lk : isLf k = true) (l : isLf v = true) (hs : (PyData.dict [(lfD k, lfD v)]).showable = true) (hz : (PyData.dict [(lfD k, lfD v)]).shown.length ≤ sizeLine) : ShowsX P w K H (.ref a) (PyData.dict [(lfD k, lfD v)]).shown
  | dT {a : Addr} {ks : List Key} {v : V} (e : H a = some (.dT [(ks, v)])) (l : isLf v = true) (hs : (PyData.dict [(.tuple (ks.map kD), lfD v)]).showable = true) (hp : (PyData.dict [(.tuple (ks.map kD), lfD v)]).depth ≤ 40) (hz : (PyData.dict [(.tuple (ks.map kD), lfD v)]).shown.length ≤ sizeLine) : ShowsX P w K H (.ref a) (PyData.dict [(.tuple (ks.map kD), lfD v)]).shown
theorem ShowsX.ext {P : Program} {w : World} {K : PySem.W.Frag} {H H' : Hp} {v : V} {z : Str} (e : ∀ b o, H b = some o → H' b = some o) (h : ShowsX P w K H v z) : ShowsX P w K H' v z := by
  cases h with
  | old h => exact .old (h.ext e)
  | dk a l hs hp hz => exact .dk (e _ _ a) l hs hp hz
  | odd a lk l hs hz => exact .odd (e _ _ a) lk l hs hz
  | dT a l hs hp hz => exact .dT (e _ _ a) l hs hp hz
def rReprX (P : Program) (w : World) (K : PySem.W.Frag) : List V → Hp → VK → Prop := fun xs H Q => ∃ (v : V) (z : Str), xs = [v] ∧ ShowsX P w K H v z ∧ Q (.str z) H
theorem not_sys {a : Addr} (h : (a == sysModules) = false) : sysModules ∉ [a] := by
  intro m
  rw [List.mem_singleton] at m
  rw [m] at h
  simp at h
theorem vals_keys : ∀ (ks : List Key) (its : List Value), Vals (ks.map kV) its → ∀ h : Heap, ReadsAll h its (ks.map kD) []
  | [], _, .nil, _ => .nil
  | k :: ks, _, .cons r t, h => by
    have q := lf_reads (h := h) (lf_key k).1 r
    rw [(lf_key k).2] at q
    exact ReadsAll.cons (as := []) (bs := []) q (vals_keys ks _ t h)
theorem call_reprX {X : Cx} {P : Program} {w : World} {K : PySem.W.Frag} (hg : X.A.guards = some []) (hu : X.A.units + 64 < cLine) (hP : X.prog = P) (hw : X.w = w) (hK : X.K = K) : CallR X (.builtin "repr") (rReprX P w K) := by
  subst hP hw
  intro pins s σ H xs us Q I r h
  obtain ⟨v, z, rfl, hs, q⟩ := h
  cases hs with
  | old h => exact call_reprA hg hu hK pins s σ H [v] us Q I r ⟨v, z, rfl, h, q⟩
  | @dk a kvs e l hs hp hz =>
    obtain rfl := Vals.ref1 r
    obtain ⟨hn, ns, vs, kv, dd⟩ := dk_of I.hok e
    obtain ⟨es, ep, ⟨o, ho, hx, hdt⟩, hsz, at_⟩ := dd.raw
    have hl : kvs.length = vs.length := Paired.length kv
    have R : Reads s.heap (.ref a) (dD kvs) [a] := by
      refine Reads.dict (as := []) (bs := []) ho hx.1 hdt (readsAll_get _ _ (by simp; omega) fun i u d h1 h2 => ?_) (readsAll_get _ _ (by simp; omega) fun i u d h1 h2 => ?_)
      · rw [List.map_map, List.getElem?_map] at h2
        obtain ⟨⟨k, x⟩, hk, rfl⟩ := Option.map_eq_some_iff.mp h2
        rw [List.getElem?_map] at h1
        obtain ⟨en, hen, rfl⟩ := Option.map_eq_some_iff.mp h1
        obtain ⟨y, hy, ry⟩ := kv_get kv hk
        rw [Array.getElem?_toList] at hen
        obtain ⟨hi, rfl⟩ := Array.getElem?_eq_some_iff.mp hen
        obtain ⟨a1, a2⟩ := at_ i hi k y hy
        have q := lf_reads (h := s.heap) (lf_key k).1 (relV_key (show keyIs k es[i].key = true from a1))
        rw [(lf_key k).2] at q
        exact q
      · rw [List.map_map, List.getElem?_map] at h2
        obtain ⟨⟨k, x⟩, hk, rfl⟩ := Option.map_eq_some_iff.mp h2
        rw [List.getElem?_map] at h1
        obtain ⟨en, hen, rfl⟩ := Option.map_eq_some_iff.mp h1
        obtain ⟨y, hy, ry⟩ := kv_get kv hk
        rw [Array.getElem?_toList] at hen
        obtain ⟨hi, rfl⟩ := Array.getElem?_eq_some_iff.mp hen
        obtain ⟨a1, a2⟩ := at_ i hi k y hy
        rw [a2]
        exact lf_reads (l _ (List.mem_of_getElem? hk)) ry
    exact repr_of_reads' R hs (fun _ => not_sys ns) hg (by omega) (fun b o e => e) (fun h' u tk hk => ⟨.str _, H, I.kept hk, ⟨u, rfl⟩, q⟩) hz
  | @odd a k v e lk l hs hz =>
    obtain rfl := Vals.ref1 r
    obtain ⟨ns, o, en, n, ho, hx, hdt, rk, rv⟩ := odd_at (I.hok a _ e)
    have R : Reads s.heap (.ref a) (PyData.dict [(lfD k, lfD v)]) [a] :=
      Reads.dict (as := []) (bs := []) ho hx.1 hdt (ReadsAll.cons (as := []) (bs := []) (lf_reads lk rk) .nil) (ReadsAll.cons (as := []) (bs := []) (lf_reads l rv) .nil)
    have hd : ∀ v : V, (lfD v).depth = 0 := fun v => by cases v <;> rfl
    have hp : (PyData.dict [(lfD k, lfD v)]).depth = 1 := by
      show max (max (lfD k).depth (lfD v).depth) 0 + 1 = 1
      rw [hd, hd]
      rfl
    exact repr_of_reads' R hs (fun _ => not_sys ns) hg (by omega) (fun b o e => e) (fun h' u tk hk => ⟨.str _, H, I.kept hk, ⟨u, rfl⟩, q⟩) hz
  | @dT a ks v e l hs hp hz =>
    obtain rfl := Vals.ref1 r
    obtain ⟨hn, ns, xs, pr, o, es, ep, ho, hx, hdt, he, _⟩ := (show ObjOk X.prog X.w H s.heap a (.dT [(ks, v)]) from I.hok a _ e)
    match xs, pr, he with
    | [(k', t, y)], .cons ⟨e1, e2, e3⟩ .nil, he =>
      cases e1
      obtain ⟨_, its, rt, o2, h1, h2, n, h3⟩ := (show ObjOk X.prog X.w H s.heap t (.tup (ks.map kV)) from I.hok t _ e2)
      have R : Reads s.heap (.ref a) (PyData.dict [(.tuple (ks.map kD), lfD v)]) [a] := by
        refine Reads.dict (as := []) (bs := []) ho hx.1 hdt ?_ ?_
        · rw [he]
          exact ReadsAll.cons (as := []) (bs := []) (Reads.tuple h1 h2 h3 (vals_keys ks _ (by simpa using rt) _)) .nil
        · rw [he]
          exact ReadsAll.cons (as := []) (bs := []) (lf_reads l e3) .nil
      exact repr_of_reads' R hs (fun _ => not_sys ns) hg (by omega) (fun b o e => e) (fun h' u tk hk => ⟨.str _, H, I.kept hk, ⟨u, rfl⟩, q⟩) hz
section
variable {X : Cx}
def tOddT (tk tv : TE) : TE := fun σ H Q => ∀ p, H p = none → tk σ (upd H p (.dT [])) fun x H1 => tv σ H1 fun y H2 => ∃ (t : Addr) (ks : List Key), x = .ref t ∧ H2 t = some (.tup (ks.map kV)) ∧ H2 p = some (.dT []) ∧ Q (.ref p) (upd H2 p (.dT [(ks, y)]))
theorem dict_pairsR {prog : Program} {w : World} {K : Type} [DecidableEq K] {knd : HeapKind prog w K} {A : Around} {E : Value → Shared → Prop} {s : Shared} {env : Env} {keys : List (Option Expr)} {values : List Expr} {pos : Pos} {pairs : List (Sem Value × Sem Value)} {Q : Value → Shared → Prop} (hu : knd.room A)
    (hshape : (evalEachOpt keys env).zip ((evalEach values env).map fun v => do let x ← v; standAt pos; pure x) = pairs.map fun p => (some p.1, p.2)) (h0 : pairs ≠ []) (hlen : pairs.length ≤ 15)
    (h : wpAny (model prog w) A (evalPairs pairs) (fun vs s₁ => ∃ ps, PySem.CarriesH knd s₁.heap vs ps ∧ s₁.heap.DictOfH knd s.heap.objs.size [] ∧
      ∀ h' tk, h'.DictOfH knd s.heap.objs.size (storedAllH [] ps) → Heap.SameBut s.heap.objs.size s₁.heap h' → Q (.ref s.heap.objs.size) { s₁ with heap := h', toks := tk }) E
      { s with heap := s.heap.push { cls := .type "dict", data := .dict #[] } }) :
    wpAny (model prog w) A (eval (.Dict keys values pos) env) Q E s := by
  rw [arm_eval_Dict, hshape, dictDisplay_pairs pairs h0 (by omega)]
  exact wpAny_bind (wpAny_standAt (wpAny_bind (PySem.wpAny_subDictH (knd := knd) (Q := fun d s' => wpAny (model prog w) A (pure (Value.ref d)) Q E s') hu hlen
    (wpAny_mono h (fun vs s₁ h₁ => by obtain ⟨ps, hc, hm, hq⟩ := h₁; exact ⟨ps, hc, hm, fun h' tk a b => wpAny_pure (hq h' tk a b)⟩) fun _ _ e => e))))
theorem pe_oddT {k v : Expr} {tk tv : TE} {pos : Pos} (hu : X.A.units + 64 < cLine) (hk : PE X k tk) (hv : PE X v tv) : PE X (.Dict [some k] [v] pos) (tOddT tk tv) := by
  refine ⟨fun pins s σ H Q I q => ?_⟩
  have hn := I.hok.fresh (Nat.le_refl s.heap.objs.size)
  have I1 := I.laid (a := s.heap.objs.size) (o := .dT []) (h' := s.heap.push { cls := .type "dict", data := .dict #[] }) (t' := s.toks) (fun _ _ q => Heap.get?_push_of_some _ q) (Nat.le_refl _)
    ⟨Nat.zero_le _, beq_eq_false_iff_ne.mpr (fun z => absurd I.big (by rw [z]; exact Nat.lt_irrefl _)), [], .nil, _, #[], 0, Heap.get?_push_size _ rfl, ⟨rfl, rfl, rfl⟩, rfl, rfl, .nil⟩
  refine dict_pairsR (knd := tupleKind (mixKind X.prog X.w)) (pairs := [(eval k X.env, do let x ← eval v X.env; standAt pos; pure x)]) (by show X.A.units < cLine; omega) rfl (by simp) (by simp) ?_
  refine evalPairs_cons (thn (hk.run pins _ σ _ _ I1 (q _ hn)) fun u1 s1 ⟨x, H1, J1, r1, q1⟩ => wpAny_bind (thn (hv.run pins s1 σ H1 _ J1 q1) fun u2 s2 ⟨y, H2, J2, r2, t, ks, ex, et, e, q2⟩ => wpAny_bind (wpAny_standAt (wpAny_pure (evalPairs_nil ?_)))))
  subst ex
  obtain rfl : u1 = Value.ref t := r1
  obtain ⟨hn2, ns, xs, pr, o, es, ep, ho, hx, hdt, he, nd⟩ := (show ObjOk X.prog X.w H2 s2.heap s.heap.objs.size (.dT []) from J2.hok _ _ e)
  cases pr
  refine ⟨[(ks, t, u2)], ⟨rfl, rfl, key_of J2.hok et, True.intro⟩, ⟨o, es, ep, ho, hx, hdt, he, fun x hx => absurd hx (List.not_mem_nil), nd⟩, fun h' tk dd hs => ?_⟩
  obtain ⟨o', es', ep', ho', hx', hdt', he', his', nd'⟩ := dd
  have tp : t ≠ s.heap.objs.size := fun z => by rw [z, e] at et; cases et
  refine ⟨.ref s.heap.objs.size, _, d_write J2 (by rw [e]; exact True.intro) hs ⟨o', ho'⟩ (ob := .dT [(ks, y)]) ⟨by show 1 ≤ sizeLine; decide, ns, [(ks, t, u2)], .cons ⟨rfl, by rw [upd_ne tp]; exact et, r2⟩ .nil, o', es', ep', ho', hx', hdt', he', nd'⟩, rfl, q2⟩
end
end Mx

namespace K2
open PySem PySem.Spec PyProof.Rows L2 Mc Mx
section
variable {P : Program} {w : World} {K : PySem.W.Frag} {mg : Str → Option Value} {base : Heap}
local macro_rules | `(tactic| walk_at "rd1") => `(tactic| first
  | with_reducible refine g_seq ?_
  | with_reducible refine g_asg ?_
  | with_reducible refine g_name ?_
  | with_reducible refine g_c ?_
  | with_reducible refine g_op ?_
  | with_reducible refine g_ifS ?_
  | with_reducible refine g_if ?_
  | with_reducible refine g_test ?_
  | with_reducible refine g_B ?_
  | with_reducible refine g_bl ?_
  | with_reducible refine g_blV ?_
  | with_reducible refine g_not ?_
  | with_reducible refine g_and ?_
  | with_reducible refine g_or ?_
  | with_reducible refine g_notV ?_
  | with_reducible refine g_andV ?_
  | with_reducible refine g_orV ?_
  | with_reducible refine g_ret ?_
  | with_reducible refine g_drop ?_
  | with_reducible refine g_next ?_
  | with_reducible refine g_retN ?_
  | with_reducible refine g_call ?_
  | with_reducible refine g_cb ?_
  | with_reducible refine g_cons ?_
  | with_reducible refine g_nil ?_
  | with_reducible refine g_tup ?_
  | with_reducible refine g_lst ?_
  | with_reducible refine g_prop ?_
  | with_reducible refine g_fld ?_
  | with_reducible refine g_meth ?_
  | with_reducible refine g_chain ?_
  | with_reducible refine g_yes ?_
  | with_reducible refine g_make ?_
  | with_reducible refine g_makeK ?_
  | with_reducible refine g_gsub ?_
  | with_reducible refine g_sfld ?_
  | with_reducible refine g_un ?_
  | with_reducible refine g_bm ?_
  | with_reducible refine g_iteT ?_
  | with_reducible refine g_iteF ?_
  | with_reducible refine g_I0 ?_
  | with_reducible refine g_add ?_
  | with_reducible refine g_sub ?_
  | ((with_reducible refine' g_var ?hv ?_); (case hv => rfl))
  | ((with_reducible refine g_eq ?hv ?_); (case hv => rfl))
  | ((with_reducible refine g_ne ?hv ?_); (case hv => rfl)))
local macro_rules | `(tactic| walk_at "rd") => `(tactic| repeat (walk_at "rd1"))

local macro_rules | `(tactic| walk_at "ty") => `(tactic| first | exact .non | exact .bl _ | exact .int _ | exact .str _ | exact .lst (by assumption) | exact .tup (by assumption) | exact .dK (by assumption) | exact .kTup (by assumption) (by assumption))
local macro_rules | `(tactic| walk_at "isiF") => `(tactic| refine g_isi (by walk_at "ty") (b := false) (by decide +kernel) ?_)
local macro_rules | `(tactic| walk_at "isiT") => `(tactic| refine g_isi (by walk_at "ty") (b := true) (by decide +kernel) ?_)

abbrev FI (K : PySem.W.Frag) (go f : Addr) (fd : FuncData) : Prop := FunD K "__init__" "Policy.__init__" (defArgs s_Policyinit) (defBody s_Policyinit) (defScope s_Policyinit) [] (kwsP go) f fd
def wds : List Str := ["limit", "tries", "pauses", "early", "lossy", "ending"]
def ForW (g : TG) (tb : TS) (D : Ends) (σ : L2.St) (J : It) (H1 : Hp) : Prop := ∃ W : Nat → Nat → L2.St → Hp → Prop, (∃ m, W 0 m σ H1) ∧ ∀ i m σ H, W i m σ H →
  (J.stop i H ∧ D.nx σ H) ∨ (J.go i H ∧ ∃ N : L2.St → Hp → Prop, (∀ σ' H', N σ' H' → ∃ m', m' < m ∧ W (i + 1) m' σ' H') ∧ ∀ x H', J.yld i H x H' → g x σ H' fun σ2 H2 => tb { D with nx := N, ct := N, bk := D.nx } σ2 H2)
theorem g_for {wi : TI} {g : TG} {tb : TS} {D : Ends} {σ : L2.St} {H : Hp} (q : wi σ H fun J H1 => ForW g tb D σ J H1) : tFor wi g tb D σ H := q
theorem g_fset {i : Nat} {v : V} {σ : L2.St} {H : Hp} {Q : L2.St → Hp → Prop} (q : Q (σ.set i (some v)) H) : gName i v σ H Q := q
theorem g_lockS {D : Ends} {σ : L2.St} {H : Hp} {t : TS} {d : Addr} {u : HO} (h : H d = some u) (m : Mut (some u))
    (q : ∀ od, t ⟨fun σ' H' => H' d = some (.frz od u) ∧ D.nx σ' (upd H' d u), fun v H' => H' d = some (.frz od u) ∧ D.rt v (upd H' d u), fun σ' H' => H' d = some (.frz od u) ∧ D.bk σ' (upd H' d u), fun σ' H' => H' d = some (.frz od u) ∧ D.ct σ' (upd H' d u)⟩ σ (upd H d (.frz od u))) : tLock t D σ H := ⟨d, u, h, m, q⟩
/-- a loop over a dict's keys -/
theorem for_keys {d : Addr} {o : Obj} {kvs : List (Key × V)} {g : TG} {tb : TS} {D : Ends} {σ : L2.St} {H : Hp} (Pv : Nat → L2.St → Hp → Prop) (h0 : Pv 0 σ H) (hl : ∀ i σ H, Pv i σ H → H d = some (.frz o (.dK kvs)))
    (hd : ∀ σ H, Pv kvs.length σ H → D.nx σ H)
    (hs : ∀ (i : Nat) (k : Key) (v : V) (σ : L2.St) (H : Hp) (N : L2.St → Hp → Prop), i < kvs.length → kvs[i]? = some (k, v) → Pv i σ H → (∀ σ' H', Pv (i + 1) σ' H' → N σ' H') → g (kV k) σ H fun σ2 H2 => tb { D with nx := N, ct := N, bk := D.nx } σ2 H2) :
    ForW g tb D σ (Itk d o kvs) H := by
  refine ⟨fun i m σ H => Pv i σ H ∧ m = kvs.length - i ∧ i ≤ kvs.length, ⟨_, h0, rfl, Nat.zero_le _⟩, fun i m σ H ⟨p, em, le⟩ => ?_⟩
  rcases Nat.lt_or_ge i kvs.length with lt | ge
  · refine .inr ⟨⟨hl i σ H p, lt⟩, fun σ' H' => Pv (i + 1) σ' H', fun σ' H' p' => ⟨kvs.length - (i + 1), by omega, p', rfl, lt⟩, ?_⟩
    rintro x H' ⟨rfl, k, v, hk, rfl⟩
    exact hs i k v σ H' _ lt hk p fun _ _ z => z
  · have e : i = kvs.length := Nat.le_antisymm le ge
    exact .inl ⟨⟨hl i σ H p, ge⟩, hd σ H (e ▸ p)⟩
theorem upd_twice {H : Hp} {d : Addr} {u v : HO} (h : H d = some u) : upd (upd H d v) d u = H := by
  funext b
  by_cases e : b = d
  · subst e; rw [upd_same]; exact h.symm
  · rw [upd_ne e, upd_ne e]
theorem in_wds {k : Str} {ws : List Str} : inV (.str k) (ws.map V.str) = decide (k ∈ ws) := by
  induction ws with
  | nil => rfl
  | cons x r ih =>
    show (eqV (.str x) (.str k) || inV (.str k) (r.map V.str)) = _
    rw [ih]
    have e : eqV (.str x) (.str k) = decide (x = k) := by
      first
        | rfl
        | (show (x == k) = _; exact beq_eq_decide x k)
    rw [e]
    simp [eq_comm]
def setW : List V → List (Str × V) → List V
  | zs, [] => zs
  | zs, (k, v) :: r => setW (zs.set (wds.idxOf k) v) r
theorem put_w {zs : List V} {k : Str} {v : V} (h : k ∈ wds) (l : zs.length = 6) : putK (kwD wds zs) (.inr k) v = kwD wds (zs.set (wds.idxOf k) v) := by
  match zs, l with
  | [a, b, c, d, e, f], _ =>
    have h6 : k = "limit" ∨ k = "tries" ∨ k = "pauses" ∨ k = "early" ∨ k = "lossy" ∨ k = "ending" := by simpa [wds] using h
    rcases h6 with rfl | rfl | rfl | rfl | rfl | rfl <;> rfl
theorem kwD_at {ks : List Str} {zs : List V} {i : Nat} {k : Key} {v : V} (h : (kwD ks zs)[i]? = some (k, v)) : ∃ x, k = .inr x ∧ ks[i]? = some x ∧ zs[i]? = some v := by
  unfold kwD at h
  rw [List.getElem?_map] at h
  cases q : (ks.zip zs)[i]? with
  | none => rw [q] at h; cases h
  | some p =>
    rw [q] at h
    obtain ⟨e1, e2⟩ := Prod.mk.inj (Option.some.inj h)
    rw [List.getElem?_zip_eq_some] at q
    exact ⟨p.1, e1.symm, q.1, by rw [q.2]; exact congrArg some e2⟩
end
end K2

namespace K2
open PySem PySem.Spec PyProof.Rows L2 Mc Mx
section
variable {P : Program} {w : World} {K : PySem.W.Frag} {mg : Str → Option Value} {base : Heap}
local macro_rules | `(tactic| walk_at "rd1") => `(tactic| first
  | with_reducible refine g_seq ?_
  | with_reducible refine g_asg ?_
  | with_reducible refine g_name ?_
  | with_reducible refine g_c ?_
  | with_reducible refine g_op ?_
  | with_reducible refine g_ifS ?_
  | with_reducible refine g_if ?_
  | with_reducible refine g_test ?_
  | with_reducible refine g_B ?_
  | with_reducible refine g_bl ?_
  | with_reducible refine g_blV ?_
  | with_reducible refine g_not ?_
  | with_reducible refine g_and ?_
  | with_reducible refine g_or ?_
  | with_reducible refine g_notV ?_
  | with_reducible refine g_andV ?_
  | with_reducible refine g_orV ?_
  | with_reducible refine g_ret ?_
  | with_reducible refine g_drop ?_
  | with_reducible refine g_next ?_
  | with_reducible refine g_retN ?_
  | with_reducible refine g_call ?_
  | with_reducible refine g_cb ?_
  | with_reducible refine g_cons ?_
  | with_reducible refine g_nil ?_
  | with_reducible refine g_tup ?_
  | with_reducible refine g_lst ?_
  | with_reducible refine g_prop ?_
  | with_reducible refine g_fld ?_
  | with_reducible refine g_meth ?_
  | with_reducible refine g_chain ?_
  | with_reducible refine g_yes ?_
  | with_reducible refine g_make ?_
  | with_reducible refine g_makeK ?_
  | with_reducible refine g_gsub ?_
  | with_reducible refine g_sfld ?_
  | with_reducible refine g_un ?_
  | with_reducible refine g_bm ?_
  | with_reducible refine g_iteT ?_
  | with_reducible refine g_iteF ?_
  | with_reducible refine g_I0 ?_
  | with_reducible refine g_add ?_
  | with_reducible refine g_sub ?_
  | ((with_reducible refine' g_var ?hv ?_); (case hv => rfl))
  | ((with_reducible refine g_eq ?hv ?_); (case hv => rfl))
  | ((with_reducible refine g_ne ?hv ?_); (case hv => rfl)))
local macro_rules | `(tactic| walk_at "rd") => `(tactic| repeat (walk_at "rd1"))

local macro_rules | `(tactic| walk_at "ty") => `(tactic| first | exact .non | exact .bl _ | exact .int _ | exact .str _ | exact .lst (by assumption) | exact .tup (by assumption) | exact .dK (by assumption) | exact .kTup (by assumption) (by assumption))
local macro_rules | `(tactic| walk_at "isiF") => `(tactic| refine g_isi (by walk_at "ty") (b := false) (by decide +kernel) ?_)
local macro_rules | `(tactic| walk_at "isiT") => `(tactic| refine g_isi (by walk_at "ty") (b := true) (by decide +kernel) ?_)

theorem kc_nil {α : Type} {D : Addr} {t : Sem α} {r : α} (h : t = pure r) : KwChain D [] t r := h
theorem kb_six {go f : Addr} {fd : FuncData} (F : FI K go f fd) : KBn K fd psP 2 wds (fun us ws => us ++ ws) (fun vs zs => vs ++ zs) := by
  obtain ⟨mv, h⟩ := F.kbinds0 (ps := psP) 2 wds [] (fun vs mz zs => vs ++ zs) (by simp) (by simp) (fun a _ c => a.append c) (fun D doc pm an cdv ct us mv ws h1 h2 h3 => match us, mv, ws, h1, h2, h3 with
    | [_, _], [], [_, _, _, _, _, _], _, _, _ => kc_nil rfl)
  exact h
theorem g_ikeys {td : TE} {σ : L2.St} {H : Hp} {R : It → Hp → Prop} (q : td σ H fun x H1 => ∃ d o, x = .ref d ∧ ((∃ kvs, H1 d = some (.frz o (.dK kvs)) ∧ R (Itk d o kvs) H1) ∨ ∃ kvs, H1 d = some (.frz o (.dT kvs)) ∧ R (Itkt d o kvs) H1)) : iKeys td σ H R := q
theorem g_pick {c : Prop} [Decidable c] {A : Prop} {σ : L2.St} {H : Hp} {Q : VK} {u v : V} (h1 : Q u H → A) (q : Q (if c then u else v) H) : if decide c = true then A else tC v σ H Q := by
  by_cases h : c
  · rw [if_pos (decide_eq_true h)]
    rw [if_pos h] at q
    exact h1 q
  · rw [if_neg (by rw [decide_eq_false h]; exact Bool.false_ne_true)]
    rw [if_neg h] at q
    exact q
theorem upd_id {H : Hp} {t : Addr} {o : HO} (h : H t = some o) : upd H t o = H := by
  funext b
  by_cases e : b = t
  · subst e; rw [upd_same, h]
  · rw [upd_ne e]
theorem g_makeW {C : Addr} {n : Nat} {ks : List Str} {sp : Sp} {gV : List V → List V → List V} {E : L2.St → XK} {t : TA} {td : TE} {σ : L2.St} {H : Hp} {Q : VK} (q : t σ H fun vs H1 => td σ H1 fun y H2 => ∃ a zs, y = .ref a ∧ Rd H2 a (.dK (kwD ks zs)) ∧ zs.length = ks.length ∧ vs.length = n ∧
  ∀ x dx, H2 x = none → H2 dx = none → dx ≠ x → sp (gV (.ref x :: vs) zs) (upd (upd H2 dx (.own x)) x (.ins C dx [])) (fun v H3 => v = .non ∧ Q (.ref x) H3) (E σ)) : tMakeW C n ks sp gV E t td σ H Q := q
theorem g_mko1 {C : Addr} {sp : Sp} {dvs : List V} {t : TA} {σ : L2.St} {H : Hp} {E : XK} (q : tMkO C sp dvs t σ H E) : tMkO C sp dvs t σ H E := q
theorem kwD_len {ks : List Str} {zs : List V} (h : zs.length = ks.length) : (kwD ks zs).length = ks.length := by
  unfold kwD
  rw [List.length_map, List.length_zip, h, Nat.min_self]
theorem g_disp {trs : List (TE × TE)} {σ : L2.St} {H : Hp} {Q : VK} (q : ∀ p, H p = none → tPairs trs σ (upd H p (.dK [])) fun ps H2 => H2 p = some (.dK []) ∧ ∃ kvs : List (Key × V), ps = kvs.map (fun kv => (kV kv.1, kv.2)) ∧ kvs.length ≤ 15 ∧ Q (.ref p) (upd H2 p (.dK (mergeK [] kvs)))) : tDisp trs σ H Q := q
theorem g_pp {tk tv : TE} {r : List (TE × TE)} {σ : L2.St} {H : Hp} {Q : List (V × V) → Hp → Prop} (q : tk σ H fun x H1 => tv σ H1 fun y H2 => tPairs r σ H2 fun ps H3 => Q ((x, y) :: ps) H3) : tPairs ((tk, tv) :: r) σ H Q := q
theorem g_pn {σ : L2.St} {H : Hp} {Q : List (V × V) → Hp → Prop} (q : Q [] H) : tPairs [] σ H Q := q
theorem g_din {ty td : TE} {σ : L2.St} {H : Hp} {Q : VK} (q : ty σ H fun y H1 => td σ H1 fun x H2 => ∃ a o, x = .ref a ∧ DGet H2 a y o ∧ Q (.bl o.isSome) H2) : tDIn ty td σ H Q := q
theorem g_dget {td ty : TE} {σ : L2.St} {H : Hp} {Q : VK} (q : td σ H fun x H1 => ty σ H1 fun y H2 => ∃ a v, x = .ref a ∧ DGet H2 a y (some v) ∧ Q v H2) : tDGet td ty σ H Q := q
theorem upd_upd' {H : Hp} {t : Addr} {x y : HO} : upd (upd H t x) t y = upd H t y := by
  funext b
  by_cases e : b = t
  · subst e; rw [upd_same, upd_same]
  · rw [upd_ne e, upd_ne e, upd_ne e]
theorem val_in {k : Str} : ∀ {ks : List Str} {zs : List V}, zs.length = ks.length → (valV (kwD ks zs) (.inr k)).isSome = decide (k ∈ ks)
  | [], [], _ => rfl
  | x :: ks, z :: zs, l => by
    have ih := val_in (k := k) (Nat.succ.inj l)
    show (((((.inr x : Key), z) :: kwD ks zs).find? fun kv => decide (kv.1 = .inr k)).map (·.2)).isSome = _
    rw [List.find?_cons]
    by_cases e : x = k
    · subst e
      simp
    · have e1 : decide (((.inr x : Key), z).1 = .inr k) = false := decide_eq_false fun q => e (Sum.inr.inj q)
      rw [e1]
      show (valV (kwD ks zs) (.inr k)).isSome = _
      rw [ih]
      simp [Ne.symm e]
theorem val_at : ∀ {ks : List Str} {zs : List V} {i : Nat} {k : Str} {v : V}, ks.Nodup → ks[i]? = some k → zs[i]? = some v → valV (kwD ks zs) (.inr k) = some v
  | x :: ks, z :: zs, 0, k, v, _, h1, h2 => by
    obtain rfl : x = k := by simpa using h1
    obtain rfl : z = v := by simpa using h2
    show (((((.inr x : Key), z) :: kwD ks zs).find? fun kv => decide (kv.1 = .inr x)).map (·.2)) = _
    rw [List.find?_cons]
    simp
  | x :: ks, z :: zs, i + 1, k, v, hn, h1, h2 => by
    have h1 : ks[i]? = some k := by simpa using h1
    have h2 : zs[i]? = some v := by simpa using h2
    have ne : x ≠ k := fun e => by
      subst e
      exact (List.nodup_cons.mp hn).1 (List.mem_of_getElem? h1)
    show (((((.inr x : Key), z) :: kwD ks zs).find? fun kv => decide (kv.1 = .inr k)).map (·.2)) = _
    rw [List.find?_cons]
    have e1 : decide (((.inr x : Key), z).1 = .inr k) = false := decide_eq_false fun q => ne (Sum.inr.inj q)
    rw [e1]
    exact val_at (List.nodup_cons.mp hn).2 h1 h2
theorem setW_len : ∀ {r : List (Str × V)} {zs : List V}, (setW zs r).length = zs.length
  | [], _ => rfl
  | (k, v) :: r, zs => by
    show (setW (zs.set (wds.idxOf k) v) r).length = _
    rw [setW_len, List.length_set]
theorem setW_app {k : Str} {v : V} : ∀ {r : List (Str × V)} {zs : List V}, setW zs (r ++ [(k, v)]) = (setW zs r).set (wds.idxOf k) v
  | [], _ => rfl
  | (x, y) :: r, zs => setW_app (r := r)
theorem eV_non {e : Option Int} : (eV e = .non) ↔ e = none := by
  cases e with
  | none => exact ⟨fun _ => rfl, fun _ => rfl⟩
  | some i => exact ⟨(fun h => by cases h), (fun h => by cases h)⟩
/-- what the base of the new fields is -/
def base6 (q : Pol) (pa ga : Addr) (ks : List Str) : List V := [.int q.l, .int q.t, if ("tries" : Str) ∈ ks ∨ ("early" : Str) ∈ ks then .non else if eV q.e = .non then .ref pa else .non, eV q.e, .bl q.b, .ref ga]
def spCh (K : PySem.W.Frag) (C CN CP : Addr) (ks : List Str) : List V → List V → Hp → VK → XK → Prop := fun vs zs H Q E => ∃ a dx q pa ga, vs = [.ref a] ∧ H a = some (.ins C dx (Pol.fs q pa ga)) ∧ zs.length = ks.length ∧
  ((∃ (i : Nat) (k : Str), ks[i]? = some k ∧ k ∉ wds ∧ (∀ (j : Nat) (x : Str), j < i → ks[j]? = some x → x ∈ wds) ∧ ∀ d H', Same H H' → H' d = some (.xd [("field", .str k)]) → E (.ref CP) (some d) H') ∨
   ((∀ k ∈ ks, k ∈ wds) ∧ ∀ H2 x dx2, Same H H2 → H2 x = none → H2 dx2 = none → dx2 ≠ x →
     spInit K C ([.ref x, .str q.z] ++ setW (base6 q pa ga ks) (ks.zip zs)) (upd (upd H2 dx2 (.own x)) x (.ins C dx2 [])) (fun v H3 => v = .non ∧ Q (.ref x) H3) E ∨
     spBad K C CN CP ([.ref x, .str q.z] ++ setW (base6 q pa ga ks) (ks.zip zs)) (upd (upd H2 dx2 (.own x)) x (.ins C dx2 [])) (fun v H3 => v = .non ∧ Q (.ref x) H3) E))
/-- the body's own promise: the keywords' dict stands at d -/
def spCb (K : PySem.W.Frag) (C CN CP : Addr) (ks : List Str) (zs : List V) : Sp := fun vs H Q E => ∃ a d H0, vs = [.ref a, .ref d] ∧ H0 d = none ∧ H = upd H0 d (.dK (kwD ks zs)) ∧ ks.length ≤ 100 ∧ zs.length = ks.length ∧ ks.Nodup ∧ spCh K C CN CP ks [.ref a] zs H0 Q E

theorem body_changed {C fI go CN CP FA fP : Addr} {fdI fdP : FuncData} {ks : List Str} {zs : List V} (T : Txt K mg) (TC : CTxt K C) (M : Mk K C fI) (gP : mg "Policy" = some (.ref C)) (F : FI K go fI fdI)
    (GI : FnOk P w K mg base (CX P w) 6 fI fdI psP (fun vs H Q E => spInit K C vs H Q E ∨ spBad K C CN CP vs H Q E)) (gF : mg "FIELDS" = some (.ref FA)) (tF : ∀ H, SqT K H FA (wds.map V.str))
    (TP : SupC P K mg CP) (EP : ExK P w K mg base "InvalidPolicy" CP fP fdP ["self", "field"] (spEx CP "field"))
    (A : Around) (outer : List Env) (s : Shared) (H : Hp) (vs : List V) (Q : VK) (E : XK) (f : Addr) (cdv : Value) (hr : Room 7 (A.deeper (envOfC "Policy.changed" (defScope s_Policy_changed) s.heap.objs.size f cdv))) (h : spCb K C CN CP ks zs vs H Q E) :
    ∃ t, PSs (cxOf (CX P w) P w K mg base N_Policy_changed "Policy.changed" (defScope s_Policy_changed) f cdv A outer s H E) (defBody s_Policy_changed) t ∧ t { nx := fun _ H' => Q .non H', rt := Q } (start N_Policy_changed vs) H := by
  obtain ⟨a0, d, H0, rfl, nd, rfl, kl, zl, kn, a, dx, q, pa, ga, ev, ha, -, h⟩ := h
  obtain rfl : a = a0 := by cases ev; rfl
  have hrI : Room 7 (A.deeper (envOfC "Policy.changed" (defScope s_Policy_changed) s.heap.objs.size f cdv)) := hr
  have bW := kb_six F
  refine ⟨_, (pss_cons (ps_lock (ps_for (passes_of rfl) rfl (pi_keys (pv 1)) (pg_name (i := 2) sc_Policy_changed.nd rfl (Or.inl rfl)) (pss_one (ps_if (pt_cmpR op_notIn_seq (pv 2) (pe_gx (v := .ref FA) rfl ⟨_, gF, rfl⟩) (by rfl)) (pss_one (ps_raise rfl (takes_of rfl rfl rfl rfl) (pmk_oex TP.ox EP.iC EP.tI EP.ok (hr.mono (by decide)) EP.bi .nil pass0 (by rfl) EP.gl (pa_cons (pv 2) pa_nil)))) pss_nil))))
      (pss_cons (ps_set (i := 3) sc_Policy_changed.nd rfl (Or.inl rfl) (pe_disp (pps_cons pe_str (pe_fld (pv 0) rfl) (pps_cons pe_str (pe_fld (pv 0) rfl) (pps_cons pe_str (pe_ifExp (pt_cmpR op_isN (pe_fld (pv 0) rfl) pe_non (nomark _)) (pe_fld (pv 0) rfl) pe_non) (pps_cons pe_str (pe_fld (pv 0) rfl) (pps_cons pe_str (pe_fld (pv 0) rfl) (pps_cons pe_str (pe_fld (pv 0) rfl) pps_nil)))))) rfl rfl (fun z => nomatch z) (by decide)))
      (pss_cons (ps_if (PW.pt (pw_or (pt_cmp (pc_din (Nat.lt_of_le_of_lt (Nat.add_le_add_left (by decide : 1 ≤ 64) _) hr.units) pe_str (pv 1)) (by rfl)) (pw_or1 (pt_cmp (pc_din (Nat.lt_of_le_of_lt (Nat.add_le_add_left (by decide : 1 ≤ 64) _) hr.units) pe_str (pv 1)) (by rfl))))) (pss_one (ps_asg pe_non (pg_sub (pv 3) pe_str (set_dict (Nat.lt_of_le_of_lt (Nat.add_le_add_left (by decide : 1 ≤ 64) _) hr.units))))) pss_nil)
      (pss_cons (ps_lock (ps_for (passes_of rfl) rfl (pi_keys (pv 1)) (pg_name (i := 2) sc_Policy_changed.nd rfl (Or.inl rfl)) (pss_one (ps_asg (pe_dget (Nat.lt_of_le_of_lt (Nat.add_le_add_left (by decide : 1 ≤ 64) _) hr.units) (pv 1) (pv 2) (fun _ _ => rfl)) (pg_sub (pv 3) (pv 2) (set_dict (Nat.lt_of_le_of_lt (Nat.add_le_add_left (by decide : 1 ≤ 64) _) hr.units)))))))
      (pss_one (ps_ret (pe_makeW M GI hrI (by rfl) gP bW (fun σ => passAt (takes_of rfl rfl rfl rfl) σ) (pa_cons (pe_fld (pv 0) rfl) pa_nil) (pv 3)))))))), ?_⟩
  have had : a ≠ d := ne_of_none ha nd
  have hd : upd H0 d (.dK (kwD ks zs)) d = some (.dK (kwD ks zs)) := upd_same
  have ha1 : upd H0 d (.dK (kwD ks zs)) a = some (.ins C dx (Pol.fs q pa ga)) := by rw [upd_ne had]; exact ha
  obtain ⟨H1, eH1⟩ : ∃ H1, H1 = upd H0 d (.dK (kwD ks zs)) := ⟨_, rfl⟩
  have S01 : Same H0 H1 := by rw [eH1]; exact same_new nd
  rw [← eH1] at hd ha1 ⊢
  walk_at "rd"
  refine g_lockS hd trivial fun od => ?_
  walk_at "rd"
  refine g_for ?_
  refine g_ikeys ?_
  walk_at "rd"
  refine ⟨d, od, rfl, .inl ⟨kwD ks zs, upd_same, ?_⟩⟩
  refine for_keys (fun i σ H => (∃ o2, σ = [some (.ref a), some (.ref d), o2, none]) ∧ H = upd H1 d (.frz od (.dK (kwD ks zs))) ∧ ∀ (j : Nat) (x : Str), j < i → ks[j]? = some x → x ∈ wds) ⟨⟨_, rfl⟩, rfl, fun j x z => absurd z (Nat.not_lt_zero j)⟩ (fun i σ H ⟨_, e, _⟩ => by rw [e]; exact upd_same) ?_ ?_
  rotate_left
  · rintro i k v σ H N lt hk ⟨⟨o2, rfl⟩, rfl, al⟩ hN
    obtain ⟨x, rfl, hx, hv⟩ := kwD_at hk
    refine g_fset ?_
    walk_at "rd"
    refine ⟨FA, _, rfl, .inr (tF _), rfl, by decide, ?_⟩
    have ein : (if true = true then !inV (kV (.inr x)) (wds.map V.str) else inV (kV (.inr x)) (wds.map V.str)) = !decide (x ∈ wds) := by
      rw [if_pos rfl]
      exact congrArg (fun b => !b) in_wds
    rw [ein]
    refine ⟨_, rfl, ?_⟩
    by_cases hw : x ∈ wds
    · rw [decide_eq_true hw]
      show (if false = true then _ else _)
      walk_at "rd"
      refine hN _ _ ⟨⟨_, rfl⟩, rfl, fun j y lj hy => ?_⟩
      rcases Nat.lt_succ_iff_lt_or_eq.mp lj with z | z
      · exact al j y z hy
      · subst z
        rw [hx] at hy
        obtain rfl := Option.some.inj hy
        exact hw
    · rw [decide_eq_false hw]
      show (if true = true then _ else _)
      walk_at "rd"
      rcases h with ⟨i0, k0, h1, h2, h3, h4⟩ | ⟨h1, _⟩
      · have e0 : i = i0 := by
          rcases Nat.lt_trichotomy i i0 with z | z | z
          · exact absurd (h3 i x z hx) hw
          · exact z
          · exact absurd (al i0 k0 z h1) h2
        subst e0
        rw [hx] at h1
        obtain rfl := Option.some.inj h1
        refine g_mko ?_
        walk_at "rd"
        refine ex_as fun dd H' S2 hdd => h4 dd H' ?_ hdd
        exact Same.trans (fun b o e => by rw [upd_ne (ne_of_none e nd)]; exact S01 b o e) S2
      · exact absurd (h1 x (List.mem_of_getElem? hx)) hw
  rintro σ H ⟨⟨o2, rfl⟩, rfl, al⟩
  refine ⟨upd_same, ?_⟩
  rw [upd_twice hd]
  have hall : ∀ k ∈ ks, k ∈ wds := fun k hk => by
    obtain ⟨j, hj⟩ := List.getElem?_of_mem hk
    exact al j k (by rw [kwD_len zl]; exact (List.getElem?_eq_some_iff.mp hj).1) hj
  have h : ∀ H2 x dx2, Same H0 H2 → H2 x = none → H2 dx2 = none → dx2 ≠ x →
     spInit K C ([.ref x, .str q.z] ++ setW (base6 q pa ga ks) (ks.zip zs)) (upd (upd H2 dx2 (.own x)) x (.ins C dx2 [])) (fun v H3 => v = .non ∧ Q (.ref x) H3) E ∨
     spBad K C CN CP ([.ref x, .str q.z] ++ setW (base6 q pa ga ks) (ks.zip zs)) (upd (upd H2 dx2 (.own x)) x (.ins C dx2 [])) (fun v H3 => v = .non ∧ Q (.ref x) H3) E := by
    rcases h with ⟨i0, k0, h1, h2, -⟩ | ⟨_, h⟩
    · exact absurd (hall k0 (List.mem_of_getElem? h1)) h2
    · exact h
  clear al
  walk_at "rd"
  refine g_disp fun t nt => ?_
  have hat : a ≠ t := ne_of_none ha1 nt
  have hdt : d ≠ t := ne_of_none hd nt
  have hat1 : upd H1 t (.dK []) a = some (.ins C dx (Pol.fs q pa ga)) := by rw [upd_ne hat]; exact ha1
  refine g_pp ?_
  walk_at "rd"
  refine ⟨a, C, dx, _, _, rfl, hat1, TC.cl, TC.n2, lk2, ?_⟩
  refine g_pp ?_
  walk_at "rd"
  refine ⟨a, C, dx, _, _, rfl, hat1, TC.cl, TC.n3, lk3, ?_⟩
  refine g_pp ?_
  walk_at "rd"
  refine ⟨a, C, dx, _, _, rfl, hat1, TC.cl, TC.n5, lk5, ?_⟩
  walk_at "rd"
  refine ⟨rfl, ?_⟩
  walk_at "rd"
  refine g_pick (u := .ref pa) (fun r => ⟨_, rfl, a, C, dx, _, _, rfl, hat1, TC.cl, TC.n4, lk4, r⟩) ?_
  obtain ⟨p0, ep0⟩ : ∃ p0, p0 = (if eV q.e = V.non then V.ref pa else V.non) := ⟨_, rfl⟩
  rw [← ep0]
  refine g_pp ?_
  walk_at "rd"
  refine ⟨a, C, dx, _, _, rfl, hat1, TC.cl, TC.n5, lk5, ?_⟩
  refine g_pp ?_
  walk_at "rd"
  refine ⟨a, C, dx, _, _, rfl, hat1, TC.cl, TC.n6, lk6, ?_⟩
  refine g_pp ?_
  walk_at "rd"
  refine ⟨a, C, dx, _, _, rfl, hat1, TC.cl, TC.n7, lk7, ?_⟩
  refine g_pn ?_
  refine ⟨upd_same, [(.inr "limit", .int q.l), (.inr "tries", .int q.t), (.inr "pauses", p0), (.inr "early", eV q.e), (.inr "lossy", .bl q.b), (.inr "ending", .ref ga)], rfl, (by show 6 ≤ 15; decide), ?_⟩
  have em : mergeK [] [((.inr "limit" : Key), V.int q.l), (.inr "tries", .int q.t), (.inr "pauses", p0), (.inr "early", eV q.e), (.inr "lossy", .bl q.b), (.inr "ending", .ref ga)] = kwD wds [.int q.l, .int q.t, p0, eV q.e, .bl q.b, .ref ga] := rfl
  rw [em, upd_upd']
  obtain ⟨H2, eH2⟩ : ∃ H2, H2 = upd H1 t (.dK (kwD wds [.int q.l, .int q.t, p0, eV q.e, .bl q.b, .ref ga])) := ⟨_, rfl⟩
  rw [← eH2]
  have hd2 : H2 d = some (.dK (kwD ks zs)) := by rw [eH2, upd_ne hdt]; exact hd
  have ht2 : H2 t = some (.dK (kwD wds [.int q.l, .int q.t, p0, eV q.e, .bl q.b, .ref ga])) := by rw [eH2]; exact upd_same
  walk_at "rd"
  refine g_din ?_
  walk_at "rd"
  refine ⟨d, _, rfl, DGet.k (k := .inr "tries") hd2, ?_⟩
  rw [val_in zl]
  refine ⟨_, rfl, ?_⟩
  by_cases h1 : ("tries" : Str) ∈ ks
  · rw [decide_eq_true h1]
    walk_at "rd"
    have eb : [V.int q.l, .int q.t, p0, eV q.e, .bl q.b, .ref ga].set (wds.idxOf ("pauses" : Str)) .non = base6 q pa ga ks := by
      unfold base6
      rw [if_pos (.inl h1)]
      rfl
    refine ⟨t, _, rfl, DPut.k (k := .inr "pauses") ht2 (by show 6 < sizeLine; decide), ?_⟩
    rw [put_w (by decide) rfl, eb]
    obtain ⟨H3, eH3⟩ : ∃ H3, H3 = upd H2 t (.dK (kwD wds (base6 q pa ga ks))) := ⟨_, rfl⟩
    rw [← eH3]
    have hd3 : H3 d = some (.dK (kwD ks zs)) := by rw [eH3, upd_ne hdt]; exact hd2
    have ht3 : H3 t = some (.dK (kwD wds (base6 q pa ga ks))) := by rw [eH3]; exact upd_same
    have S03 : Same H0 H3 := by rw [eH3, eH2, upd_upd']; exact Same.trans S01 (same_new nt)
    walk_at "rd"
    refine g_lockS hd3 trivial fun od2 => ?_
    walk_at "rd"
    refine g_for ?_
    refine g_ikeys ?_
    walk_at "rd"
    refine ⟨d, od2, rfl, .inl ⟨kwD ks zs, upd_same, ?_⟩⟩
    have base_len : (base6 q pa ga ks).length = 6 := rfl
    refine for_keys (fun i σ H => (∃ o2, σ = [some (.ref a), some (.ref d), o2, some (.ref t)]) ∧ H = upd (upd H3 d (.frz od2 (.dK (kwD ks zs)))) t (.dK (kwD wds (setW (base6 q pa ga ks) ((ks.zip zs).take i))))) ⟨⟨_, rfl⟩, ?_⟩ (fun i σ H ⟨_, e⟩ => by rw [e, upd_ne hdt]; exact upd_same) ?_ ?_
    · exact (upd_id (by rw [upd_ne (Ne.symm hdt)]; exact ht3)).symm
    · rintro σ H ⟨⟨o2, rfl⟩, rfl⟩
      refine ⟨by rw [upd_ne hdt]; exact upd_same, ?_⟩
      rw [show (ks.zip zs).take (kwD ks zs).length = ks.zip zs from List.take_of_length_le (by rw [kwD_len zl, List.length_zip]; omega)]
      obtain ⟨H4, eH4⟩ : ∃ H4, H4 = upd (upd (upd H3 d (.frz od2 (.dK (kwD ks zs)))) t (.dK (kwD wds (setW (base6 q pa ga ks) (ks.zip zs))))) d (.dK (kwD ks zs)) := ⟨_, rfl⟩
      have ht4 : H4 t = some (.dK (kwD wds (setW (base6 q pa ga ks) (ks.zip zs)))) := by rw [eH4, upd_ne (Ne.symm hdt)]; exact upd_same
      have S4 : Same H0 H4 := fun b o e => by
        have b1 : b ≠ d := ne_of_none e nd
        have b2 : b ≠ t := ne_of_none (S01 b o e) nt
        rw [eH4, upd_ne b1, upd_ne b2, upd_ne b1]
        exact S03 b o e
      rw [← eH4]
      walk_at "rd"
      refine g_makeW ?_
      walk_at "rd"
      refine ⟨a, C, dx, _, _, rfl, S4 _ _ ha, TC.cl, TC.n1, lk1, ?_⟩
      walk_at "rd"
      refine ⟨t, _, rfl, .inl ht4, (by rw [setW_len]; rfl), rfl, fun x dx2 nx ndx ne => ?_⟩
      exact h H4 x dx2 S4 nx ndx ne
    · rintro i k v σ H N lt hk ⟨⟨o2, rfl⟩, rfl⟩ hN
      obtain ⟨x, rfl, hx, hv⟩ := kwD_at hk
      refine g_fset ?_
      walk_at "rd"
      refine g_dget ?_
      walk_at "rd"
      refine ⟨d, v, rfl, .inl ⟨_, .inr x, .inr ⟨od2, (by rw [upd_ne hdt]; exact upd_same)⟩, rfl, (val_at kn hx hv).symm⟩, ?_⟩
      walk_at "rd"
      refine ⟨t, _, rfl, DPut.k (k := .inr x) upd_same (by rw [kwD_len (by rw [setW_len]; rfl)]; decide), ?_⟩
      rw [put_w (hall x (List.mem_of_getElem? hx)) (by rw [setW_len]; rfl), upd_upd']
      walk_at "rd"
      refine hN _ _ ⟨⟨_, rfl⟩, ?_⟩
      rw [List.take_succ, List.getElem?_zip_eq_some.mpr (show ks[i]? = some (x, v).1 ∧ zs[i]? = some (x, v).2 from ⟨hx, hv⟩)]
      exact congrArg (fun z => upd _ t (.dK (kwD wds z))) setW_app.symm
  rw [decide_eq_false h1]
  walk_at "rd"
  refine g_din ?_
  walk_at "rd"
  refine ⟨d, _, rfl, DGet.k (k := .inr "early") hd2, ?_⟩
  rw [val_in zl]
  refine ⟨_, rfl, ?_⟩
  by_cases h2 : ("early" : Str) ∈ ks
  · rw [decide_eq_true h2]
    walk_at "rd"
    have eb : [V.int q.l, .int q.t, p0, eV q.e, .bl q.b, .ref ga].set (wds.idxOf ("pauses" : Str)) .non = base6 q pa ga ks := by
      unfold base6
      rw [if_pos (.inr h2)]
      rfl
    refine ⟨t, _, rfl, DPut.k (k := .inr "pauses") ht2 (by show 6 < sizeLine; decide), ?_⟩
    rw [put_w (by decide) rfl, eb]
    obtain ⟨H3, eH3⟩ : ∃ H3, H3 = upd H2 t (.dK (kwD wds (base6 q pa ga ks))) := ⟨_, rfl⟩
    rw [← eH3]
    have hd3 : H3 d = some (.dK (kwD ks zs)) := by rw [eH3, upd_ne hdt]; exact hd2
    have ht3 : H3 t = some (.dK (kwD wds (base6 q pa ga ks))) := by rw [eH3]; exact upd_same
    have S03 : Same H0 H3 := by rw [eH3, eH2, upd_upd']; exact Same.trans S01 (same_new nt)
    walk_at "rd"
    refine g_lockS hd3 trivial fun od2 => ?_
    walk_at "rd"
    refine g_for ?_
    refine g_ikeys ?_
    walk_at "rd"
    refine ⟨d, od2, rfl, .inl ⟨kwD ks zs, upd_same, ?_⟩⟩
    have base_len : (base6 q pa ga ks).length = 6 := rfl
    refine for_keys (fun i σ H => (∃ o2, σ = [some (.ref a), some (.ref d), o2, some (.ref t)]) ∧ H = upd (upd H3 d (.frz od2 (.dK (kwD ks zs)))) t (.dK (kwD wds (setW (base6 q pa ga ks) ((ks.zip zs).take i))))) ⟨⟨_, rfl⟩, ?_⟩ (fun i σ H ⟨_, e⟩ => by rw [e, upd_ne hdt]; exact upd_same) ?_ ?_
    · exact (upd_id (by rw [upd_ne (Ne.symm hdt)]; exact ht3)).symm
    · rintro σ H ⟨⟨o2, rfl⟩, rfl⟩
      refine ⟨by rw [upd_ne hdt]; exact upd_same, ?_⟩
      rw [show (ks.zip zs).take (kwD ks zs).length = ks.zip zs from List.take_of_length_le (by rw [kwD_len zl, List.length_zip]; omega)]
      obtain ⟨H4, eH4⟩ : ∃ H4, H4 = upd (upd (upd H3 d (.frz od2 (.dK (kwD ks zs)))) t (.dK (kwD wds (setW (base6 q pa ga ks) (ks.zip zs))))) d (.dK (kwD ks zs)) := ⟨_, rfl⟩
      have ht4 : H4 t = some (.dK (kwD wds (setW (base6 q pa ga ks) (ks.zip zs)))) := by rw [eH4, upd_ne (Ne.symm hdt)]; exact upd_same
      have S4 : Same H0 H4 := fun b o e => by
        have b1 : b ≠ d := ne_of_none e nd
        have b2 : b ≠ t := ne_of_none (S01 b o e) nt
        rw [eH4, upd_ne b1, upd_ne b2, upd_ne b1]
        exact S03 b o e
      rw [← eH4]
      walk_at "rd"
      refine g_makeW ?_
      walk_at "rd"
      refine ⟨a, C, dx, _, _, rfl, S4 _ _ ha, TC.cl, TC.n1, lk1, ?_⟩
      walk_at "rd"
      refine ⟨t, _, rfl, .inl ht4, (by rw [setW_len]; rfl), rfl, fun x dx2 nx ndx ne => ?_⟩
      exact h H4 x dx2 S4 nx ndx ne
    · rintro i k v σ H N lt hk ⟨⟨o2, rfl⟩, rfl⟩ hN
      obtain ⟨x, rfl, hx, hv⟩ := kwD_at hk
      refine g_fset ?_
      walk_at "rd"
      refine g_dget ?_
      walk_at "rd"
      refine ⟨d, v, rfl, .inl ⟨_, .inr x, .inr ⟨od2, (by rw [upd_ne hdt]; exact upd_same)⟩, rfl, (val_at kn hx hv).symm⟩, ?_⟩
      walk_at "rd"
      refine ⟨t, _, rfl, DPut.k (k := .inr x) upd_same (by rw [kwD_len (by rw [setW_len]; rfl)]; decide), ?_⟩
      rw [put_w (hall x (List.mem_of_getElem? hx)) (by rw [setW_len]; rfl), upd_upd']
      walk_at "rd"
      refine hN _ _ ⟨⟨_, rfl⟩, ?_⟩
      rw [List.take_succ, List.getElem?_zip_eq_some.mpr (show ks[i]? = some (x, v).1 ∧ zs[i]? = some (x, v).2 from ⟨hx, hv⟩)]
      exact congrArg (fun z => upd _ t (.dK (kwD wds z))) setW_app.symm
  · rw [decide_eq_false h2]
    walk_at "rd"
    have eb : [V.int q.l, .int q.t, p0, eV q.e, .bl q.b, .ref ga] = base6 q pa ga ks := by
      unfold base6
      rw [if_neg (fun z => z.elim h1 h2), ep0]
    rw [eb] at ht2
    obtain ⟨H3, eH3⟩ : ∃ H3, H3 = H2 := ⟨_, rfl⟩
    rw [← eH3] at hd2 ht2 ⊢
    have hd3 := hd2
    have ht3 := ht2
    have S03 : Same H0 H3 := by rw [eH3, eH2]; exact Same.trans S01 (same_new nt)
    walk_at "rd"
    refine g_lockS hd3 trivial fun od2 => ?_
    walk_at "rd"
    refine g_for ?_
    refine g_ikeys ?_
    walk_at "rd"
    refine ⟨d, od2, rfl, .inl ⟨kwD ks zs, upd_same, ?_⟩⟩
    have base_len : (base6 q pa ga ks).length = 6 := rfl
    refine for_keys (fun i σ H => (∃ o2, σ = [some (.ref a), some (.ref d), o2, some (.ref t)]) ∧ H = upd (upd H3 d (.frz od2 (.dK (kwD ks zs)))) t (.dK (kwD wds (setW (base6 q pa ga ks) ((ks.zip zs).take i))))) ⟨⟨_, rfl⟩, ?_⟩ (fun i σ H ⟨_, e⟩ => by rw [e, upd_ne hdt]; exact upd_same) ?_ ?_
    · exact (upd_id (by rw [upd_ne (Ne.symm hdt)]; exact ht3)).symm
    · rintro σ H ⟨⟨o2, rfl⟩, rfl⟩
      refine ⟨by rw [upd_ne hdt]; exact upd_same, ?_⟩
      rw [show (ks.zip zs).take (kwD ks zs).length = ks.zip zs from List.take_of_length_le (by rw [kwD_len zl, List.length_zip]; omega)]
      obtain ⟨H4, eH4⟩ : ∃ H4, H4 = upd (upd (upd H3 d (.frz od2 (.dK (kwD ks zs)))) t (.dK (kwD wds (setW (base6 q pa ga ks) (ks.zip zs))))) d (.dK (kwD ks zs)) := ⟨_, rfl⟩
      have ht4 : H4 t = some (.dK (kwD wds (setW (base6 q pa ga ks) (ks.zip zs)))) := by rw [eH4, upd_ne (Ne.symm hdt)]; exact upd_same
      have S4 : Same H0 H4 := fun b o e => by
        have b1 : b ≠ d := ne_of_none e nd
        have b2 : b ≠ t := ne_of_none (S01 b o e) nt
        rw [eH4, upd_ne b1, upd_ne b2, upd_ne b1]
        exact S03 b o e
      rw [← eH4]
      walk_at "rd"
      refine g_makeW ?_
      walk_at "rd"
      refine ⟨a, C, dx, _, _, rfl, S4 _ _ ha, TC.cl, TC.n1, lk1, ?_⟩
      walk_at "rd"
      refine ⟨t, _, rfl, .inl ht4, (by rw [setW_len]; rfl), rfl, fun x dx2 nx ndx ne => ?_⟩
      exact h H4 x dx2 S4 nx ndx ne
    · rintro i k v σ H N lt hk ⟨⟨o2, rfl⟩, rfl⟩ hN
      obtain ⟨x, rfl, hx, hv⟩ := kwD_at hk
      refine g_fset ?_
      walk_at "rd"
      refine g_dget ?_
      walk_at "rd"
      refine ⟨d, v, rfl, .inl ⟨_, .inr x, .inr ⟨od2, (by rw [upd_ne hdt]; exact upd_same)⟩, rfl, (val_at kn hx hv).symm⟩, ?_⟩
      walk_at "rd"
      refine ⟨t, _, rfl, DPut.k (k := .inr x) upd_same (by rw [kwD_len (by rw [setW_len]; rfl)]; decide), ?_⟩
      rw [put_w (hall x (List.mem_of_getElem? hx)) (by rw [setW_len]; rfl), upd_upd']
      walk_at "rd"
      refine hN _ _ ⟨⟨_, rfl⟩, ?_⟩
      rw [List.take_succ, List.getElem?_zip_eq_some.mpr (show ks[i]? = some (x, v).1 ∧ zs[i]? = some (x, v).2 from ⟨hx, hv⟩)]
      exact congrArg (fun z => upd _ t (.dK (kwD wds z))) setW_app.symm
end
end K2

namespace K2
open PySem PySem.Spec PyProof.Rows L2 Mc Mx
section
variable {P : Program} {w : World} {K : PySem.W.Frag} {mg : Str → Option Value} {base : Heap}
/-- how changed(..) with the keywords ks is bound -/
def KwB (ks : List Str) : Prop := ∀ (kV doc pm : Value) (an : Option Addr) (cdv ct : Value) (u : Value) (ws : List Value), ws.length = ks.length →
  bindArgs (PySem.W.fnOf "changed" "Policy.changed" (defArgs s_Policy_changed) (defBody s_Policy_changed) (defScope s_Policy_changed) .none kV doc pm an cdv ct) ⟨[u], ks.zip ws⟩ =
      ((alloc ({ cls := .type "dict", data := .dict #[] } : Obj) : Sem Addr) >>= fun d => (forIn (ks.zip ws) PUnit.unit fun x _ => (nsSet d x.1 x.2 >>= fun _ => pure (ForInStep.yield PUnit.unit))) >>= fun _ => pure [(("self" : Str), u), (("fields" : Str), Value.ref d)])
theorem kb0 : KwB [] := fun kV doc pm an cdv ct u ws l => match ws, l with
  | [], _ => rfl
theorem kb1 : KwB ["limit"] := fun kV doc pm an cdv ct u ws l => match ws, l with
  | [a], _ => rfl
theorem kb2 : KwB ["ending", "lossy"] := fun kV doc pm an cdv ct u ws l => match ws, l with
  | [a, b], _ => rfl
theorem kb3 : KwB ["tries"] := fun kV doc pm an cdv ct u ws l => match ws, l with
  | [a], _ => rfl
theorem kb4 : KwB ["tries", "early"] := fun kV doc pm an cdv ct u ws l => match ws, l with
  | [a, b], _ => rfl
theorem kb5 : KwB ["tries", "pauses"] := fun kV doc pm an cdv ct u ws l => match ws, l with
  | [a, b], _ => rfl
theorem kb6 : KwB ["early"] := fun kV doc pm an cdv ct u ws l => match ws, l with
  | [a], _ => rfl
theorem kb7 : KwB ["pauses"] := fun kV doc pm an cdv ct u ws l => match ws, l with
  | [a], _ => rfl
theorem kb8 : KwB ["name"] := fun kV doc pm an cdv ct u ws l => match ws, l with
  | [a], _ => rfl
theorem kb9 : KwB ["limit", "limits", "name"] := fun kV doc pm an cdv ct u ws l => match ws, l with
  | [a, b, c], _ => rfl
theorem kb10 : KwB ["lossy"] := fun kV doc pm an cdv ct u ws l => match ws, l with
  | [a], _ => rfl
theorem kb11 : KwB ["ending"] := fun kV doc pm an cdv ct u ws l => match ws, l with
  | [a], _ => rfl
theorem fn_changed {C fI go CN CP FA fP f : Addr} {fdI fdP fd : FuncData} {ks : List Str} (D : Fun K "changed" "Policy.changed" s_Policy_changed f fd) (T : Txt K mg) (TC : CTxt K C) (M : Mk K C fI) (gP : mg "Policy" = some (.ref C)) (F : FI K go fI fdI)
    (GI : FnOk P w K mg base (CX P w) 6 fI fdI psP (fun vs H Q E => spInit K C vs H Q E ∨ spBad K C CN CP vs H Q E)) (gF : mg "FIELDS" = some (.ref FA)) (tF : ∀ H, SqT K H FA (wds.map V.str))
    (TP : SupC P K mg CP) (EP : ExK P w K mg base "InvalidPolicy" CP fP fdP ["self", "field"] (spEx CP "field")) (hn : ks.Nodup) (hl : ks.length ≤ 100) (hb : KwB ks) : FnW P w K mg base (CX P w) 8 f ks (spCh K C CN CP ks) := by
  obtain ⟨oc, od, kV, doc, pm, an, cdv, ct, osl, rfl, lk, hcd⟩ := D.ex
  have G := fn_kwd (CX := CX P w) (k := 7) (sp := fun vs H Q E => ∃ zs, spCb K C CN CP ks zs vs H Q E) lk hcd sc_Policy_changed StX.cxUp hn (Nat.le_trans hl (by decide)) (hb kV doc pm an cdv ct) (fun A outer s H vs Q E hr ⟨zs, h⟩ =>
    body_changed T TC M gP F GI gF tF TP EP A outer s H vs Q E f cdv hr h)
  intro A outer s H us vs ws zs Q E hr e0 r rz lz h
  refine G A outer s H us vs ws zs Q E hr e0 r rz lz ?_
  have h' := h
  obtain ⟨a, dx, q, pa, ga, rfl, ha, lz', h⟩ := h
  exact ⟨.ref a, rfl, fun d nd => ⟨zs, a, d, H, rfl, nd, rfl, hl, lz, hn, h'⟩⟩
end
end K2

namespace K2
open PySem PySem.Spec PyProof.Rows L2 Mc Mx
section
variable {P : Program} {w : World} {K : PySem.W.Frag} {mg : Str → Option Value} {base : Heap}
local macro_rules | `(tactic| walk_at "rd1") => `(tactic| first
  | with_reducible refine g_seq ?_
  | with_reducible refine g_asg ?_
  | with_reducible refine g_name ?_
  | with_reducible refine g_c ?_
  | with_reducible refine g_op ?_
  | with_reducible refine g_ifS ?_
  | with_reducible refine g_if ?_
  | with_reducible refine g_test ?_
  | with_reducible refine g_B ?_
  | with_reducible refine g_bl ?_
  | with_reducible refine g_blV ?_
  | with_reducible refine g_not ?_
  | with_reducible refine g_and ?_
  | with_reducible refine g_or ?_
  | with_reducible refine g_notV ?_
  | with_reducible refine g_andV ?_
  | with_reducible refine g_orV ?_
  | with_reducible refine g_ret ?_
  | with_reducible refine g_drop ?_
  | with_reducible refine g_next ?_
  | with_reducible refine g_retN ?_
  | with_reducible refine g_call ?_
  | with_reducible refine g_cb ?_
  | with_reducible refine g_cons ?_
  | with_reducible refine g_nil ?_
  | with_reducible refine g_tup ?_
  | with_reducible refine g_lst ?_
  | with_reducible refine g_prop ?_
  | with_reducible refine g_fld ?_
  | with_reducible refine g_meth ?_
  | with_reducible refine g_chain ?_
  | with_reducible refine g_yes ?_
  | with_reducible refine g_make ?_
  | with_reducible refine g_makeK ?_
  | with_reducible refine g_gsub ?_
  | with_reducible refine g_sfld ?_
  | with_reducible refine g_un ?_
  | with_reducible refine g_bm ?_
  | with_reducible refine g_iteT ?_
  | with_reducible refine g_iteF ?_
  | with_reducible refine g_I0 ?_
  | with_reducible refine g_add ?_
  | with_reducible refine g_sub ?_
  | ((with_reducible refine' g_var ?hv ?_); (case hv => rfl))
  | ((with_reducible refine g_eq ?hv ?_); (case hv => rfl))
  | ((with_reducible refine g_ne ?hv ?_); (case hv => rfl)))
local macro_rules | `(tactic| walk_at "rd") => `(tactic| repeat (walk_at "rd1"))

local macro_rules | `(tactic| walk_at "ty") => `(tactic| first | exact .non | exact .bl _ | exact .int _ | exact .str _ | exact .lst (by assumption) | exact .tup (by assumption) | exact .dK (by assumption) | exact .kTup (by assumption) (by assumption))
local macro_rules | `(tactic| walk_at "isiF") => `(tactic| refine g_isi (by walk_at "ty") (b := false) (by decide +kernel) ?_)
local macro_rules | `(tactic| walk_at "isiT") => `(tactic| refine g_isi (by walk_at "ty") (b := true) (by decide +kernel) ?_)

abbrev ksF : List Str := ["tries", "pauses", "early", "lossy", "ending"]
theorem kb_full {go f : Addr} {fd : FuncData} (F : FI K go f fd) : KBn K fd psP 3 ksF (fun us ws => us ++ ws) (fun vs zs => vs ++ zs) := by
  obtain ⟨mv, h⟩ := F.kbinds0 (ps := psP) 3 ksF [] (fun vs mz zs => vs ++ zs) (by simp) (by simp) (fun a _ c => a.append c) (fun D doc pm an cdv ct us mv ws h1 h2 h3 => match us, mv, ws, h1, h2, h3 with
    | [_, _, _], [], [_, _, _, _, _], _, _, _ => kc_nil rfl)
  exact h
/-- a new instance and its dict leave what was tracked -/
theorem same_made {H H1 : Hp} {x dx C : Addr} (nx : H x = none) (nd : H dx = none) (k : ∀ b o, (upd (upd H dx (.own x)) x (.ins C dx [])) b = some o → b ≠ x → H1 b = some o) : Same H H1 := fun b o e =>
  k b o (by rw [upd_ne (ne_of_none e nx), upd_ne (ne_of_none e nd)]; exact e) (ne_of_none e nx)
theorem same_ins {H : Hp} {x dx C : Addr} (nx : H x = none) (nd : H dx = none) : Same H (upd (upd H dx (.own x)) x (.ins C dx [])) := fun b o e => by
  rw [upd_ne (ne_of_none e nx), upd_ne (ne_of_none e nd)]; exact e
theorem g_par {σ : L2.St} {H : Hp} {D : Ends} {i j : Nat} {ta : TA} (q : ta σ H fun vs H1 => ∃ v w, vs = [v, w] ∧ D.nx ((σ.set i (some v)).set j (some w)) H1) : tPar i j ta D σ H := q
def PV (K : PySem.W.Frag) (H : Hp) (e : Option Int) (ps : List Int) (pv : V) : Prop := (pv = .non ∧ e ≠ none) ∨ (e = none ∧ ∃ pa, pv = .ref pa ∧ TupV K H pa (ps.map V.int))
theorem PV.ext {H H' : Hp} {e : Option Int} {ps : List Int} {pv : V} (s : Same H H') (h : PV K H e ps pv) : PV K H' e ps pv := h.imp id fun ⟨a, pa, b, t⟩ => ⟨a, pa, b, TupV.ext s t⟩
theorem PV.sx {p : Addr} {H H' : Hp} {e : Option Int} {ps : List Int} {pv : V} (pl : PoolAt H p) (s : Sx p H H') (h : PV K H e ps pv) : PV K H' e ps pv := h.imp id fun ⟨a, pa, b, t⟩ => ⟨a, pa, b, TupV.sx pl s t⟩

def spPolicy (K : PySem.W.Frag) (C : Addr) : Sp := fun vs H Q _ => ∃ p z m, vs = [.ref p, .str z, .int m] ∧ PoolAt H p ∧ isNm z = true ∧ z.length ≤ 1000 ∧ 1 ≤ m ∧ m ≤ 20 ∧ ∀ a q H', Pol.ok q → Sx p H H' → PoolAt H' p → H a = none → PolAt K C H' a q → Q (.ref a) H'
theorem ok_policy {C fI go : Addr} {fdI : FuncData} (D : Def K mg "_law_policy" s_law_policy ["_law_pool_here", "_law_label", "_law_most"]) (T : Txt K mg) (M : Mk K C fI) (G0 : FnOk P w K mg base CX0 6 fI fdI psP (spInit K C)) (gP : mg "Policy" = some (.ref C)) (F : FI K go fI fdI)
    (c_law_draw : Cal P w K mg base 1 "_law_draw" spDraw) (c_law_choose : Cal P w K mg base 2 "_law_choose" spChoose) : Cal P w K mg base 8 "_law_policy" (spPolicy K C) := by
  have bF := kb_full F
  refine cal_of D sc_law_policy (fun vs H Q E h => ?_) (fun f cdv A outer s H vs Q E hr h => ?_)
  · obtain ⟨p, z, m, rfl, _⟩ := h
    rfl
  · obtain ⟨p, z, m, rfl, pl, hz, hzl, m1, m2, k⟩ := h
    have hrI : Room 7 (A.deeper (envOfC "_law_policy" (defScope s_law_policy) s.heap.objs.size f cdv)) := hr
    refine ⟨_, (pss_cons (ps_par (i := 3) (j := 4) (by rfl) sc_law_policy.nd rfl rfl (by decide) rfl rfl (pa_cons (pe_op op_add pe_int (pe_f c_law_draw hr (by decide) (by rfl) (pa_cons (pv 0) (pa_cons (pv 2) pa_nil)))) (pa_cons (pe_op op_add pe_int (pe_f c_law_draw hr (by decide) (by rfl) (pa_cons (pv 0) (pa_cons pe_int pa_nil)))) pa_nil)) (by rfl))
      (pss_cons (ps_set (i := 5) sc_law_policy.nd rfl (Or.inl rfl) (pe_ix ix_list (pe_lst (pa_cons pe_non (pa_cons (pe_op op_add pe_int (pe_f c_law_draw hr (by decide) (by rfl) (pa_cons (pv 0) (pa_cons (pv 2) pa_nil)))) pa_nil))) (pe_op op_mul (pe_f c_law_draw hr (by decide) (by rfl) (pa_cons (pv 0) (pa_cons pe_int pa_nil))) (pe_callTy call_int1 (by rfl) T.n_int (by decide +kernel) (pa_cons (pe_cmpR op_gt (pv 4) pe_int (nomark _)) pa_nil))) (fun _ _ => rfl)))
      (pss_cons (ps_set (i := 6) sc_law_policy.nd rfl (Or.inl rfl) (pe_ifExp (pt_cmpR op_isN (pv 5) pe_non (nomark _)) (pe_callTy call_tuple_of (by rfl) T.n_tuple (by decide +kernel) (pa_cons (pe_lc (own := [("_law_turn", 7)]) (g := gName 7) (by rfl) sc_law_policy.nd (pi_range1 (by rfl) T.n_range (pa_cons (pe_op op_sub (pv 4) pe_int) pa_nil)) (blkOk_by (own := [("_law_turn", 7)]) (N := N_law_policy) (sc := defScope s_law_policy) (by decide +kernel)) (fun _ _ _ _ _ => pg_name (i := 7) sc_law_policy.nd rfl (Or.inl rfl)) (fun _ _ _ _ _ => pts_nil) (fun _ _ _ _ _ => (pe_f c_law_draw hr (by decide) (by rfl) (pa_cons (pv 0) (pa_cons pe_int pa_nil))))) pa_nil)) pe_non))
      (pss_cons (ps_set (i := 8) sc_law_policy.nd rfl (Or.inl rfl) (pe_f c_law_choose hr (by decide) (by rfl) (pa_cons (pv 0) (pa_cons (pe_lst (pa_cons (pe_tup (pa_cons pe_str pa_nil)) (pa_cons (pe_tup (pa_cons pe_str pa_nil)) (pa_cons (pe_tup (pa_cons pe_str (pa_cons pe_int pa_nil))) (pa_cons (pe_tup (pa_cons pe_str (pa_cons (pe_op op_add pe_int (pe_f c_law_draw hr (by decide) (by rfl) (pa_cons (pv 0) (pa_cons pe_int pa_nil)))) pa_nil))) pa_nil))))) pa_nil))))
      (pss_one (ps_ret (pe_makeK M G0 hrI (by rfl) gP bF pass0 (pa_cons (pv 1) (pa_cons (pv 3) pa_nil)) (pk_cons (pv 4) (pk_cons (pv 6) (pk_cons (pv 5) (pk_cons (pe_cmpR op_eq (pe_f c_law_draw hr (by decide) (by rfl) (pa_cons (pv 0) (pa_cons pe_int pa_nil))) pe_int (nomark _)) (pk_cons (pv 8) pk_nil)))))))))))), ?_⟩
    walk_at "rd"
    refine g_par ?_
    walk_at "rd"
    refine ⟨p, m, rfl, pl, m1, by omega, fun r1 H1 a0 a1 pl1 sx1 => ?_⟩
    walk_at "rd"
    refine ⟨p, 3, rfl, pl1, by decide, by decide, fun r2 H2 b0 b1 pl2 sx2 => ?_⟩
    walk_at "rd"
    refine ⟨_, _, rfl, ?_⟩
    walk_at "rd"
    refine ⟨p, m, rfl, pl2, m1, by omega, fun r3 H3 c0 c1 pl3 sx3 => ?_⟩
    walk_at "rd"
    refine lst_go ?hl fun l H4 l0 S4 hl => ?_
    case hl => exact Nat.le_of_ble_eq_true rfl
    have pl4 := pl3.ext S4
    have lp : l ≠ p := fun q => by obtain ⟨c, z, h1, _⟩ := pl3; rw [q, h1] at l0; cases l0
    have sx4 : Sx p H H4 := (sx1.trans (sx2.trans sx3)).trans (Same.sx S4)
    walk_at "rd"
    refine ⟨p, 2, rfl, pl4, by decide, by decide, fun r4 H5 d0 d1 pl5 sx5 => ?_⟩
    walk_at "rd"
    refine .inr ⟨_, rfl, ?_⟩
    walk_at "rd"
    have hl5 : H5 l = some (.lst [.non, .int (1 + r3)]) := sx5 _ _ lp hl
    have sxH : Sx p H H5 := sx4.trans sx5
    clear sx1 sx2 sx3 S4 sx4 sx5 pl1 pl2 pl3 pl4 hl
    obtain ⟨e, hidx, he2⟩ : ∃ e : Option Int, atI [V.non, V.int (1 + r3)] (r4 * (if decide (1 < 1 + r2) = true then 1 else 0)) = some (eV e) ∧ ∀ i, e = some i → 2 ≤ 1 + r2 ∧ 1 ≤ i ∧ i ≤ 20 := by
      have c4 : r4 = 0 ∨ r4 = 1 := by omega
      by_cases g1 : 1 < 1 + r2
      · rw [decide_eq_true g1, if_pos rfl]
        rcases c4 with rfl | rfl
        · exact ⟨none, rfl, (fun i h => by cases h)⟩
        · exact ⟨some (1 + r3), rfl, fun i h => by injection h with h; exact ⟨by omega, by omega, by omega⟩⟩
      · rw [decide_eq_false g1, if_neg Bool.false_ne_true]
        rcases c4 with rfl | rfl
        · exact ⟨none, rfl, (fun i h => by cases h)⟩
        · exact ⟨none, rfl, (fun i h => by cases h)⟩
    show rI CMul (fun i j => V.int (i * j)) (V.int r4) _ _ _
    refine g_I (.inl ⟨by omega, by omega⟩) ?_
    show rIxL K (.ref l) _ _ _
    refine g_ixL (SqL.of hl5) hidx ?_
    walk_at "rd"
    refine ⟨rfl, ?_⟩
    walk_at "rd"
    cases e with
    | none =>
      have e1 : decide (eV none = .non) = true := by decide +kernel
      rw [e1]
      walk_at "rd"
      unfold tLc iRng1
      walk_at "rd"
      refine ⟨_, rfl, by omega, by omega, fun L hL => ?_⟩
      have Lp : L ≠ p := fun q => by obtain ⟨c, z, h1, _⟩ := pl5; rw [q, h1] at hL; cases hL
      have L0 : H L = none := Sx.free pl5 sxH hL
      refine lc_range (lo := 0) (n := (1 + r2 - 1).toNat) (fun i H' => ∃ ns : List Int, ns.length = i ∧ (∀ x ∈ ns, 0 ≤ x ∧ x ≤ 8) ∧ H' L = some (.lst (ns.map V.int)) ∧ PoolAt H' p ∧ Sx p H H') ?_ ?_ ?_
      · exact ⟨[], rfl, (fun x hx => by cases hx), upd_same, pl5.ext (same_new hL), sxH.trans (Same.sx (same_new hL))⟩
      · rintro i H7 hi ⟨ns, hn, hb, hl7, pl7, sx7⟩
        walk_at "rd"
        refine ⟨rfl, ?_⟩
        walk_at "rd"
        refine ⟨p, 3, rfl, pl7, by decide, by decide, fun y H8 y0 y1 pl8 sx8 => ?_⟩
        refine ⟨_, sx8 _ _ Lp hl7, small1000 (by rw [List.length_map]; omega), ns ++ [y], by rw [List.length_append, hn]; rfl, ?_, ?_, ?_, ?_⟩
        · intro x hx
          rcases List.mem_append.mp hx with hx | hx
          · exact hb x hx
          · rw [List.mem_singleton.mp hx]
            exact ⟨y0, by omega⟩
        · rw [upd_same, List.map_append]
          rfl
        · obtain ⟨c, z, h1, h2⟩ := pl8
          exact ⟨c, z, by rw [upd_ne (Ne.symm Lp)]; exact h1, h2⟩
        · intro b o hb2 hbo
          have bL : b ≠ L := ne_of_none hbo L0
          rw [upd_ne bL]
          exact (sx7.trans sx8) b o hb2 hbo
      · rintro H7 ⟨ns, hn, hb, hl7, pl7, sx7⟩
        refine ⟨L, _, rfl, .inl ⟨SqL.of hl7, fun pa hpa => ?_⟩⟩
        walk_at "rd"
        have pl6 := pl7.ext (same_new (o := .tup (ns.map V.int)) hpa)
        have sx6 := sx7.trans (Same.sx (same_new (o := .tup (ns.map V.int)) hpa))
        have pv6 : PV K (upd H7 pa (.tup (ns.map V.int))) none ns (.ref pa) := .inr ⟨rfl, pa, rfl, ⟨.tup upd_same, SqT.of upd_same⟩⟩
        have okE : ∀ b g, En.ok g → Pol.ok ⟨z, 1 + r1, 1 + r2, ns, none, b, g⟩ := fun b g hg =>
          ⟨hz, hzl, by show 1 ≤ 1 + r1; omega, by show 1 + r1 ≤ 20; omega, by show 1 ≤ 1 + r2; omega, by show 1 + r2 ≤ 3; omega, (fun i hi => by cases hi), fun _ => ⟨by show (ns.length : Int) = 1 + r2 - 1; omega, hb⟩, hg⟩
        refine tup_go ?hl fun g1 H13 g10 S13 hg1 => ?_
        case hl => exact Nat.le_of_ble_eq_true rfl
        walk_at "rd"
        refine tup_go ?hl fun g2 H14 g20 S14 hg2 => ?_
        case hl => exact Nat.le_of_ble_eq_true rfl
        walk_at "rd"
        refine tup_go ?hl fun g3 H15 g30 S15 hg3 => ?_
        case hl => exact Nat.le_of_ble_eq_true rfl
        walk_at "rd"
        have S15' := Same.trans S13 (Same.trans S14 S15)
        have pl15 := pl6.ext S15'
        refine ⟨p, 2, rfl, pl15, by decide, by decide, fun r6 H16 s0 s1 pl16 sx16 => ?_⟩
        walk_at "rd"
        refine tup_go ?hl fun g4 H17 g40 S17 hg4 => ?_
        case hl => exact Nat.le_of_ble_eq_true rfl
        walk_at "rd"
        refine lst_go ?hl fun l2 H18 l20 S18 hl2 => ?_
        case hl => exact Nat.le_of_ble_eq_true rfl
        walk_at "rd"
        have pl18 := (pl16.ext S17).ext S18
        have l2p : l2 ≠ p := fun q => by obtain ⟨c, z, h1, _⟩ := pl16.ext S17; rw [q, h1] at l20; cases l20
        refine ⟨p, l2, _, rfl, pl18, l2p, hl2, Nat.le_of_ble_eq_true rfl, Nat.le_of_ble_eq_true rfl, fun x H19 hx pl19 sx19 => ?_⟩
        have tg1 : TupV K H13 g1 En.go.vs := ⟨.tup hg1, SqT.of hg1⟩
        have tg2 : TupV K H14 g2 En.deadline.vs := ⟨.tup hg2, SqT.of hg2⟩
        have tg3 : TupV K H15 g3 (En.stop 0).vs := ⟨.tup hg3, SqT.of hg3⟩
        have tg4 : TupV K H17 g4 (En.stop (1 + r6)).vs := ⟨.tup hg4, SqT.of hg4⟩
        have up : ∀ {b xs}, TupV K H15 b xs → TupV K H19 b xs := fun t => TupV.sx pl18 sx19 (TupV.ext S18 (TupV.ext S17 (TupV.sx pl15 sx16 t)))
        obtain ⟨ga, g, rfl, gok, tg19⟩ : ∃ ga g, x = .ref ga ∧ En.ok g ∧ TupV K H19 ga g.vs := by
          simp only [List.mem_cons, List.not_mem_nil, or_false] at hx
          rcases hx with rfl | rfl | rfl | rfl
          · exact ⟨g1, .go, rfl, trivial, up (TupV.ext S15 (TupV.ext S14 tg1))⟩
          · exact ⟨g2, .deadline, rfl, trivial, up (TupV.ext S15 tg2)⟩
          · exact ⟨g3, .stop 0, rfl, ⟨by decide, by decide⟩, up tg3⟩
          · exact ⟨g4, .stop (1 + r6), rfl, ⟨by omega, by omega⟩, TupV.sx pl18 sx19 (TupV.ext S18 tg4)⟩
        have pv19 := PV.sx pl18 sx19 (PV.ext S18 (PV.ext S17 (PV.sx pl15 sx16 (PV.ext S15' pv6))))
        have sx19' : Sx p H H19 := ((((sx6.trans (Same.sx S15')).trans sx16).trans (Same.sx S17)).trans (Same.sx S18)).trans sx19
        walk_at "rd"
        refine ⟨p, 4, rfl, pl19, by decide, by decide, fun r7 H20 _ _ pl20 sx20 => ?_⟩
        have pv20 := PV.sx pl19 sx20 pv19
        have tg20 := TupV.sx pl19 sx20 tg19
        have sxx := sx19'.trans sx20
        walk_at "rd"
        refine ⟨rfl, rfl, fun y dx ny nd ne => ?_⟩
        have S21 := same_ins (C := C) ny nd
        refine ⟨y, dx, _, _, ga, rfl, okE (decide (V.int r7 = V.int 0)) g gok, upd_same, TupV.ext S21 tg20, ?_, fun H' plA fr => ⟨rfl, k y _ H' (okE _ g gok) (sxx.trans (Same.sx (same_made ny nd fr))) (pl20.ext (same_made ny nd fr)) (Sx.free pl20 sxx ny) plA⟩⟩
        rcases pv20 with ⟨e9, e8⟩ | ⟨e9, pa9, e8, t9⟩
        · exact .inl ⟨e9, fun h => absurd h e8⟩
        · exact .inr ⟨e9, pa9, e8, TupV.ext S21 t9⟩
    | some i =>
      have e1 : decide (eV (some i) = .non) = false := rfl
      rw [e1]
      walk_at "rd"
      obtain ⟨g2, i1, i2⟩ := he2 i rfl
      have pl6 := pl5
      have sx6 := sxH
      have pv6 : PV K H5 (some i) [] .non := .inl ⟨rfl, by simp⟩
      have okE : ∀ b g, En.ok g → Pol.ok ⟨z, 1 + r1, 1 + r2, [], some i, b, g⟩ := fun b g hg =>
        ⟨hz, hzl, by show 1 ≤ 1 + r1; omega, by show 1 + r1 ≤ 20; omega, by show 1 ≤ 1 + r2; omega, by show 1 + r2 ≤ 3; omega, fun j hi => by injection hi with hi; subst hi; exact ⟨g2, i1, i2, rfl⟩, (fun hi => by cases hi), hg⟩
      refine tup_go ?hl fun g1 H13 g10 S13 hg1 => ?_
      case hl => exact Nat.le_of_ble_eq_true rfl
      walk_at "rd"
      refine tup_go ?hl fun g2 H14 g20 S14 hg2 => ?_
      case hl => exact Nat.le_of_ble_eq_true rfl
      walk_at "rd"
      refine tup_go ?hl fun g3 H15 g30 S15 hg3 => ?_
      case hl => exact Nat.le_of_ble_eq_true rfl
      walk_at "rd"
      have S15' := Same.trans S13 (Same.trans S14 S15)
      have pl15 := pl6.ext S15'
      refine ⟨p, 2, rfl, pl15, by decide, by decide, fun r6 H16 s0 s1 pl16 sx16 => ?_⟩
      walk_at "rd"
      refine tup_go ?hl fun g4 H17 g40 S17 hg4 => ?_
      case hl => exact Nat.le_of_ble_eq_true rfl
      walk_at "rd"
      refine lst_go ?hl fun l2 H18 l20 S18 hl2 => ?_
      case hl => exact Nat.le_of_ble_eq_true rfl
      walk_at "rd"
      have pl18 := (pl16.ext S17).ext S18
      have l2p : l2 ≠ p := fun q => by obtain ⟨c, z, h1, _⟩ := pl16.ext S17; rw [q, h1] at l20; cases l20
      refine ⟨p, l2, _, rfl, pl18, l2p, hl2, Nat.le_of_ble_eq_true rfl, Nat.le_of_ble_eq_true rfl, fun x H19 hx pl19 sx19 => ?_⟩
      have tg1 : TupV K H13 g1 En.go.vs := ⟨.tup hg1, SqT.of hg1⟩
      have tg2 : TupV K H14 g2 En.deadline.vs := ⟨.tup hg2, SqT.of hg2⟩
      have tg3 : TupV K H15 g3 (En.stop 0).vs := ⟨.tup hg3, SqT.of hg3⟩
      have tg4 : TupV K H17 g4 (En.stop (1 + r6)).vs := ⟨.tup hg4, SqT.of hg4⟩
      have up : ∀ {b xs}, TupV K H15 b xs → TupV K H19 b xs := fun t => TupV.sx pl18 sx19 (TupV.ext S18 (TupV.ext S17 (TupV.sx pl15 sx16 t)))
      obtain ⟨ga, g, rfl, gok, tg19⟩ : ∃ ga g, x = .ref ga ∧ En.ok g ∧ TupV K H19 ga g.vs := by
        simp only [List.mem_cons, List.not_mem_nil, or_false] at hx
        rcases hx with rfl | rfl | rfl | rfl
        · exact ⟨g1, .go, rfl, trivial, up (TupV.ext S15 (TupV.ext S14 tg1))⟩
        · exact ⟨g2, .deadline, rfl, trivial, up (TupV.ext S15 tg2)⟩
        · exact ⟨g3, .stop 0, rfl, ⟨by decide, by decide⟩, up tg3⟩
        · exact ⟨g4, .stop (1 + r6), rfl, ⟨by omega, by omega⟩, TupV.sx pl18 sx19 (TupV.ext S18 tg4)⟩
      have pv19 := PV.sx pl18 sx19 (PV.ext S18 (PV.ext S17 (PV.sx pl15 sx16 (PV.ext S15' pv6))))
      have sx19' : Sx p H H19 := ((((sx6.trans (Same.sx S15')).trans sx16).trans (Same.sx S17)).trans (Same.sx S18)).trans sx19
      walk_at "rd"
      refine ⟨p, 4, rfl, pl19, by decide, by decide, fun r7 H20 _ _ pl20 sx20 => ?_⟩
      have pv20 := PV.sx pl19 sx20 pv19
      have tg20 := TupV.sx pl19 sx20 tg19
      have sxx := sx19'.trans sx20
      walk_at "rd"
      refine ⟨rfl, rfl, fun y dx ny nd ne => ?_⟩
      have S21 := same_ins (C := C) ny nd
      refine ⟨y, dx, _, _, ga, rfl, okE (decide (V.int r7 = V.int 0)) g gok, upd_same, TupV.ext S21 tg20, ?_, fun H' plA fr => ⟨rfl, k y _ H' (okE _ g gok) (sxx.trans (Same.sx (same_made ny nd fr))) (pl20.ext (same_made ny nd fr)) (Sx.free pl20 sxx ny) plA⟩⟩
      rcases pv20 with ⟨e9, e8⟩ | ⟨e9, pa9, e8, t9⟩
      · exact .inl ⟨e9, fun h => absurd h e8⟩
      · exact .inr ⟨e9, pa9, e8, TupV.ext S21 t9⟩
end
end K2

namespace K2
open PySem PySem.Spec PyProof.Rows L2 Mc Mx
section
variable {P : Program} {w : World} {K : PySem.W.Frag} {mg : Str → Option Value} {base : Heap}
local macro_rules | `(tactic| walk_at "rd1") => `(tactic| first
  | with_reducible refine g_seq ?_
  | with_reducible refine g_asg ?_
  | with_reducible refine g_name ?_
  | with_reducible refine g_c ?_
  | with_reducible refine g_op ?_
  | with_reducible refine g_ifS ?_
  | with_reducible refine g_if ?_
  | with_reducible refine g_test ?_
  | with_reducible refine g_B ?_
  | with_reducible refine g_bl ?_
  | with_reducible refine g_blV ?_
  | with_reducible refine g_not ?_
  | with_reducible refine g_and ?_
  | with_reducible refine g_or ?_
  | with_reducible refine g_notV ?_
  | with_reducible refine g_andV ?_
  | with_reducible refine g_orV ?_
  | with_reducible refine g_ret ?_
  | with_reducible refine g_drop ?_
  | with_reducible refine g_next ?_
  | with_reducible refine g_retN ?_
  | with_reducible refine g_call ?_
  | with_reducible refine g_cb ?_
  | with_reducible refine g_cons ?_
  | with_reducible refine g_nil ?_
  | with_reducible refine g_tup ?_
  | with_reducible refine g_lst ?_
  | with_reducible refine g_prop ?_
  | with_reducible refine g_fld ?_
  | with_reducible refine g_meth ?_
  | with_reducible refine g_chain ?_
  | with_reducible refine g_yes ?_
  | with_reducible refine g_make ?_
  | with_reducible refine g_makeK ?_
  | with_reducible refine g_gsub ?_
  | with_reducible refine g_sfld ?_
  | with_reducible refine g_un ?_
  | with_reducible refine g_bm ?_
  | with_reducible refine g_iteT ?_
  | with_reducible refine g_iteF ?_
  | with_reducible refine g_I0 ?_
  | with_reducible refine g_add ?_
  | with_reducible refine g_sub ?_
  | ((with_reducible refine' g_var ?hv ?_); (case hv => rfl))
  | ((with_reducible refine g_eq ?hv ?_); (case hv => rfl))
  | ((with_reducible refine g_ne ?hv ?_); (case hv => rfl)))
local macro_rules | `(tactic| walk_at "rd") => `(tactic| repeat (walk_at "rd1"))

local macro_rules | `(tactic| walk_at "ty") => `(tactic| first | exact .non | exact .bl _ | exact .int _ | exact .str _ | exact .lst (by assumption) | exact .tup (by assumption) | exact .dK (by assumption) | exact .kTup (by assumption) (by assumption))
local macro_rules | `(tactic| walk_at "isiF") => `(tactic| refine g_isi (by walk_at "ty") (b := false) (by decide +kernel) ?_)
local macro_rules | `(tactic| walk_at "isiT") => `(tactic| refine g_isi (by walk_at "ty") (b := true) (by decide +kernel) ?_)

theorem takes_len {X : Cx} {W : WX} (tk : Takes X W) : Takes X (fun cls d σ H => σ.length = X.N.length → W cls d σ H) := fun u s' ⟨a, B, sI, pn1, σ1, H1, cls, d, e, JT, nb, up, sky, na, os, ag, w⟩ =>
  tk u s' ⟨a, B, sI, pn1, σ1, H1, cls, d, e, JT, nb, up, sky, na, os, ag, w JT.len⟩
/-- what the teller makes of what it calls -/
def TT4 (CP : Addr) : (XK → Hp → VK → Prop) → Hp → VK → Prop := fun tl H Q => ∃ Ech : XK, tl Ech H (fun _ H' => Q (.str "made") H') ∧
  ∀ cls d H', Ech cls d H' → cls = .ref CP ∧ ∃ dd fs v, d = some dd ∧ H' dd = some (.xd fs) ∧ fs.lookup ("field" : Str) = some v ∧ Q v H'
theorem told4 {X : Cx} {g CP : Addr} {cdg : Value} {q : Str} (XP : XfC X.K CP) (nfP : PySem.W.findIn X.K (.ref CP) "field" = some none) (gl : X.mg "InvalidPolicy" = some (.ref CP)) (xPP : PySem.W.exmOne X.K (.ref CP) (.ref CP) = some true) :
    LamX.GivesTo X N_law_told "_law_told" (defScope s_law_told) g cdg (defBody s_law_told) "_law_call" q (TT4 CP) := by
  intro f c' s H Q tl act hc h
  obtain ⟨Ech, h1, h2⟩ := h
  refine ⟨_, pss_one (ps_try_mas (Wout := fun _ _ _ _ => False)
      (tb := fun W D σ H => (∀ cls d σ' H', Ech cls d H' → σ'.length = N_law_told.length → W cls d σ' H') ∧ σ[0]? = some (some (.ref f)) ∧ H c' = some (LamX.CodeO c' q) ∧ tl Ech H (fun _ H' => D.rt (.str "made") H'))
      rfl rfl sc_law_told.nd LamX.takes0 (fun W pn xe tk _ => ?_) (.cons (i := 1) rfl rfl ⟨rfl, by decide, .inl gl⟩ (fun a oe cls d pn hz hf => pss_one (ps_ret (pe_xf XP nfP hz hf (pv 1)))) .nil)), ?_⟩
  · refine ⟨fun pins s' σ H' D I h' => ?_⟩
    obtain ⟨hW, h1, h2, h3⟩ := h'
    exact PSs.run (pss_cons (ps_expr (act _ pn xe Ech _ _ (takes_len tk) hW)) (pss_one (ps_ret pe_str))) pins s' σ H' D I ⟨h1, h2, h3⟩
  · refine ⟨fun cls d σ' H' hE hl => ?_, rfl, hc, h1⟩
    obtain ⟨rfl, dd, fs, v, ed, hdd, lf, hq⟩ := h2 cls d H' hE
    refine ⟨true, xPP, fun _ a _ => ?_, fun z => by cases z⟩
    match σ', hl with
    | [x0, x1], _ => exact ⟨_, rfl, rfl, rfl, dd, fs, v, ed, hdd, lf, hq⟩
end
end K2

namespace Mc
open PySem PySem.Spec PyProof.Rows L2
/-! the law run where it makes lambdas (tables of code objects) and shows containers (guards) -/
/-- one of the tables -/
def Tb (cs : List (Addr × Addr)) (b : Addr) : Prop := ∃ p ∈ cs, b = p.2
theorem law_runT {P : Program} {w : World} {K : PySem.W.Frag} {mg mb : Str → Option Value} {k : Nat} {fa a : Addr} {cs : List (Addr × Addr)} {fd : FuncData} {x : Str} {sp : Sp} {s1 : Shared} {vs : List Value} {ns : List Int}
    (inK : K.In s1.heap) (gl : s1.heap.Ns mainGlobals mg) (bl : s1.heap.Ns builtinsNs mb) (bb : ∀ y : Str, y ≠ "__name__" → mb y = bootBuiltins y) (nl : s1.heap.NoLimit) (ge : s1.gens = #[])
    (tb : ∀ p ∈ cs, s1.heap.get? p.2 = some { cls := .none, data := .fields #[] }) (tk : ∀ p ∈ cs, K.lookup p.2 = none) (tc : ∀ p ∈ cs, PySem.W.CodeHd s1.heap p.1 p.2)
    (bmo : ∃ (bm : Addr) (ob : Obj), mg "__builtins__" = some (.ref bm) ∧ bm ≠ builtinsNs ∧ s1.heap.get? bm = some ob ∧ ob.cls = .type "module" ∧ ob.dict = some builtinsNs ∧ ob.data = .plain)
    (obj : s1.heap.get? a = some { cls := .type "list", data := .seq vs.toArray }) (hIn : IntsAre vs ns) (len : ns.length ≤ sizeLine) (room : Room k callerA)
    (F : ∀ base : Heap, K.In base → base.Ns mainGlobals mg → (∀ p ∈ cs, LamX.TabB base mg p.1 p.2) → FnG P w K mg base CX0 k fa fd [x] sp) (bnd : ∀ (s : Shared) (u : Value), BindsTo s fd ⟨[u], []⟩ [(x, u)])
    (pr : ∀ H : Hp, (∀ p ∈ cs, H p.2 = some (.tbl #[])) → SqL K H a (ns.map V.int) → sp [.ref a] H (fun v _ => v = .bl true) E0) :
    codeAny (model P w) callerA (.call (.ref fa) ⟨[.ref a], []⟩) (fun r s' => r = .ok (.ret (.bool true)) ∧ OldK s1.heap s'.heap ∧ s'.os = s1.os ∧ AllBare s'.gens) s1 := by
  have rel := vals_ints hIn
  have lv := hIn.length
  have atT : ∀ {b : Addr}, Tb cs b → s1.heap.get? b = some { cls := .none, data := .fields #[] } := by
    rintro b ⟨p, hp, rfl⟩
    exact tb p hp
  have aT : ¬ Tb cs a := fun z => by
    have q := atT z
    rw [obj] at q
    exact Data.noConfusion (congrArg Obj.data (Option.some.inj q))
  have main : ∀ H : Hp, (∀ p ∈ cs, H p.2 = some (.tbl #[])) → (∀ b, H b = none ∨ Tb cs b ∨ ∃ o xs, H b = some (.frz o (.lst xs))) → SqL K H a (ns.map V.int) → HOk P w H s1.heap → (∀ b, H b ≠ none → b = a ∨ Tb cs b) → (H a ≠ none → K.lookup a = none) →
      codeAny (model P w) callerA (.call (.ref fa) ⟨[.ref a], []⟩) (fun r s' => r = .ok (.ret (.bool true)) ∧ OldK s1.heap s'.heap ∧ s'.os = s1.os ∧ AllBare s'.gens) s1 := by
    intro H tabs onl sq hok onlyA freeK
    -- what is no list and no empty record is not tracked
    have off : ∀ {b : Addr} {o : Obj}, s1.heap.get? b = some o → (∀ xs n, o.data = .seq xs n → False) → (o.data = .fields #[] → False) → H b = none := by
      intro b o e n1 n2
      rcases hq : H b with _ | u
      · rfl
      · rcases onlyA b (by rw [hq]; intro z; cases z) with eb | eb
        · rw [eb, obj] at e
          obtain rfl := Option.some.inj e
          exact (n1 _ _ rfl).elim
        · rw [atT eb] at e
          obtain rfl := Option.some.inj e
          exact (n2 rfl).elim
    have base : ∀ {b : Addr} {o : Obj}, s1.heap.get? b = some o → (∀ xs n, o.data = .seq xs n → False) → (o.data = .fields #[] → False) → (hidT s1.heap H).get? b = some o := fun e n1 n2 => hidT_get e (off e n1 n2)
    have keepNs : ∀ {b : Addr} {m : Str → Option Value}, s1.heap.Ns b m → (hidT s1.heap H).Ns b m := by
      rintro b m ⟨o, es, n, e, d, r⟩
      exact ⟨o, es, n, base e (fun _ _ z => by rw [d] at z; exact Data.noConfusion z) (fun z => by rw [d] at z; exact Data.noConfusion z), d, r⟩
    have inB : K.In (hidT s1.heap H) := by
      intro b o e
      refine hidT_get (inK b o e) ?_
      rcases hq : H b with _ | u
      · rfl
      · have nn : H b ≠ none := by rw [hq]; intro z; cases z
        rcases onlyA b nn with eb | ⟨p, hp, eb⟩
        · rw [eb] at nn e
          rw [freeK nn] at e
          cases e
        · rw [eb, tk p hp] at e
          cases e
    obtain ⟨mc, c1, c2⟩ := nl
    have md : Mod K mg (hidT s1.heap H) := ⟨inB, keepNs gl, ⟨mb, keepNs bl, bb⟩, ⟨mc, keepNs c1, c2⟩⟩
    have nsNe : ∀ {b c : Addr} {m : Str → Option Value} {o : Obj}, s1.heap.Ns b m → s1.heap.get? c = some o → (∀ es n, o.data = .dict es n → False) → c ≠ b := by
      rintro b c m o ⟨o', es, n, e, d, _⟩ hc nd rfl
      rw [hc] at e
      obtain rfl := Option.some.inj e
      exact nd _ _ d
    have TB : ∀ p ∈ cs, LamX.TabB (hidT s1.heap H) mg p.1 p.2 := by
      intro p hp
      obtain ⟨o, us, file, tf, flags, tg, inF, text, tt, e1, e2, e3, e4, rest⟩ := tc p hp
      refine ⟨⟨o, us, file, tf, flags, tg, inF, text, tt, base e1 (fun _ _ z => by rw [e3] at z; exact Data.noConfusion z) (fun z => ?_), e2, e3, e4, rest⟩, ?_, ?_⟩
      · rw [e3] at z
        obtain rfl : us = #[] := by injection z
        simp at e4
      · obtain ⟨bm, ob, b1, b2, b3, b4, b5, b6⟩ := bmo
        refine ⟨bm, ob, b1, b2, nsNe gl b3 (fun _ _ z => by rw [b6] at z; exact Data.noConfusion z), (fun q => ?_), base b3 (fun _ _ z => by rw [b6] at z; exact Data.noConfusion z) (fun z => by rw [b6] at z; exact Data.noConfusion z), b4, b5, b6⟩
        rw [q, tb p hp] at b3
        obtain rfl := Option.some.inj b3
        exact Data.noConfusion b6
      · exact Ne.symm (nsNe gl (tb p hp) (fun _ _ z => Data.noConfusion z))
    have env : Env0 P w K mg (hidT s1.heap H) callerA [] s1 H :=
      ⟨rfl, md, fun b o e => of_hidT e, Nat.le_of_eq (hidT_size _ _), trivial, (fun b hb => (List.not_mem_nil (show b ∈ ([] : List Addr) from hb)).elim), hok, AllBare.of_eq ge⟩
    have R := (F _ inB (keepNs gl) TB).run callerA [] s1 H ⟨[.ref a], []⟩ [.ref a] [.ref a] (fun v _ => v = .bl true) E0 rfl room env (bnd s1 (.ref a)) (.cons rfl .nil) (pr H tabs sq)
    refine codeAny_mono R ?_
    intro r s' z
    match r, z with
    | .ok (.ret u), z =>
      obtain ⟨v, H', eo, br, un, hok', rv, ev⟩ := z
      subst ev
      cases rv
      have kept : ∀ b o, ¬ Tb cs b → s1.heap.get? b = some o → s'.heap.get? b = some o := by
        intro b o nb e
        rcases hq : H b with _ | u
        · exact un.keep b o e hq (fun z => (List.not_mem_nil (show b ∈ ([] : List Addr) from z)).elim) (fun z => (List.not_mem_nil z).elim)
        · rcases onl b with q | q | ⟨ob, xs, q⟩
          · rw [hq] at q
            cases q
          · exact absurd q nb
          · have f1 := (hok b _ q).1
            have f2 := (hok' b _ (un.frzs b ob _ q)).1
            rw [e] at f1
            cases f1
            exact f2
      have grew : ∀ p ∈ cs, ∃ more : Array Value, s'.heap.get? p.2 = some { cls := .none, data := .fields more } := by
        intro p hp
        obtain ⟨more, q⟩ := un.tbls p.2 #[] (tabs p hp)
        exact ⟨_, hok' p.2 _ q⟩
      refine ⟨rfl, ⟨fun b o e => ?_, fun b o e => ?_⟩, eo, br⟩
      · by_cases nb : Tb cs b
        · obtain ⟨p, hp, rfl⟩ := nb
          obtain ⟨more, q⟩ := grew p hp
          rw [tb p hp] at e
          obtain rfl := Option.some.inj e
          exact .inr (.inl ⟨((tc p hp).tab (tb p hp)).isCodeTable, rfl, #[], more, rfl, by rw [Array.empty_append]; exact q⟩)
        · exact .inl (kept b o nb e)
      · by_cases nb : Tb cs b
        · obtain ⟨p, hp, rfl⟩ := nb
          obtain ⟨more, q⟩ := grew p hp
          exact ⟨_, q⟩
        · exact ⟨o, kept b o nb e⟩
  have dec : ∀ b, Decidable (Tb cs b) := fun b => Classical.propDecidable _
  rcases hk : K.lookup a with _ | o
  · let H : Hp := fun b => if b = a then some (.frz { cls := .type "list", data := .seq vs.toArray } (.lst (ns.map V.int))) else if Tb cs b then some (.tbl #[]) else none
    have at_a : H a = some (.frz { cls := .type "list", data := .seq vs.toArray } (.lst (ns.map V.int))) := if_pos rfl
    have at_t : ∀ b, Tb cs b → H b = some (.tbl #[]) := fun b hb => (if_neg (show ¬ b = a from fun z => aT (z ▸ hb))).trans (if_pos hb)
    have at_o : ∀ b, b ≠ a → ¬ Tb cs b → H b = none := fun b h1 h2 => (if_neg h1).trans (if_neg h2)
    refine main H (fun p hp => at_t _ ⟨p, hp, rfl⟩) (fun b => ?_) (.inl (.inr ⟨_, at_a⟩)) (fun b u z => ?_) (fun b z => ?_) (fun _ => hk)
    · by_cases h1 : b = a
      · subst h1
        exact .inr (.inr ⟨_, _, at_a⟩)
      · by_cases h2 : Tb cs b
        · exact .inr (.inl h2)
        · exact .inl (at_o b h1 h2)
    · by_cases h1 : b = a
      · subst h1
        rw [at_a] at z
        cases z
        exact ⟨obj, by rw [List.length_map]; exact len, vs, _, rel, obj⟩
      · by_cases h2 : Tb cs b
        · rw [at_t b h2] at z
          cases z
          exact atT h2
        · rw [at_o b h1 h2] at z
          cases z
    · by_cases h1 : b = a
      · exact .inl h1
      · by_cases h2 : Tb cs b
        · exact .inr h2
        · exact absurd (at_o b h1 h2) z
  · have e := inK a o hk
    rw [obj] at e
    cases e
    let H : Hp := fun b => if Tb cs b then some (.tbl #[]) else none
    have at_t : ∀ b, Tb cs b → H b = some (.tbl #[]) := fun b hb => if_pos hb
    have at_o : ∀ b, ¬ Tb cs b → H b = none := fun b h2 => if_neg h2
    refine main H (fun p hp => at_t _ ⟨p, hp, rfl⟩) (fun b => ?_) (Or.inr ⟨_, vs.toArray, _, hk, rfl, rfl, rfl, ?_, by simpa using rel⟩) (fun b u z => ?_) (fun b z => ?_) (fun z => absurd (at_o a aT) z)
    · by_cases h2 : Tb cs b
      · exact .inr (.inl h2)
      · exact .inl (at_o b h2)
    · rw [List.size_toArray, lv]
      exact len
    · by_cases h2 : Tb cs b
      · rw [at_t b h2] at z
        cases z
        exact atT h2
      · rw [at_o b h2] at z
        cases z
    · by_cases h2 : Tb cs b
      · exact .inr h2
      · exact absurd (at_o b h2) z
/-- what the law's head knows: its def, the tables, its promise -/
def LawT (l : PySem.W.OpenLaw) (w : World) (K : PySem.W.Frag) (k n : Nat) (x : Str) (mg : Str → Option Value) (fa : Addr) (h : Heap) : Prop :=
  ∃ (fd : FuncData) (cs : List (Addr × Addr)) (sp : Sp), (∀ p ∈ cs, h.get? p.2 = some { cls := .none, data := .fields #[] }) ∧ (∀ p ∈ cs, K.lookup p.2 = none) ∧ (∀ p ∈ cs, PySem.W.CodeHd h p.1 p.2) ∧ (∀ (s : Shared) (u : Value), BindsTo s fd ⟨[u], []⟩ [(x, u)]) ∧
    (∀ (H : Hp) (a : Addr) (ns : List Int), ns.length ≤ n → (∀ z ∈ ns, Builtin.Int.intBits z ≤ 1048576) → (∀ p ∈ cs, H p.2 = some (.tbl #[])) → SqL K H a (ns.map V.int) → sp [.ref a] H (fun v _ => v = .bl true) E0) ∧
    ∀ base : Heap, K.In base → base.Ns mainGlobals mg → (∀ p ∈ cs, LamX.TabB base mg p.1 p.2) → FnG l.prog w K mg base CX0 k fa fd [x] sp
theorem walk_runT {l : PySem.W.OpenLaw} {n k : Nat} {q : Program} {loose : List Str} {XP : (Str → Option Value) → Heap → Prop} {YP : World → Heap → Prop} {d : DefRec} {K : Params → PySem.W.Frag} {x : Str}
    (hn : l.most = some n) (hn2 : n ≤ sizeLine) (hdf : d.params.defaults = []) (room : Room k callerA) (hY : ∀ (w : World) (h : Heap), YP w h → (K w.params).In h)
    (F : ∀ (w : World) (mg : Str → Option Value) (fa : Addr) (h : Heap), YP w h → (K w.params).In h → h.Ns mainGlobals mg → mg d.name = some (.ref fa) → LawT l w (K w.params) k n x mg fa h) :
    PySem.W.WalkO q loose XP YP l.row.toRowW d [] (fun f vs => PySem.call f vs) := by
  refine Att.attach_callB hn hdf ?_
  intro w s0 s1 mg mb fa o pm cd doc a vs ns G Y ho hd hcd hmg hobj hints hlen hbits hg
  obtain ⟨fd, cs, sp, t1, t2, t3, hb, pr, hF⟩ := F w mg fa _ Y (hY w _ Y) G.T.g hmg
  exact law_runT (hY w _ Y) G.T.g G.T.b G.T.builtins G.T.nolimit hg t1 t2 t3 G.T.bmain hobj hints (Nat.le_trans hlen hn2) room hF hb (fun H hT hS => pr H a ns hlen hbits hT hS)
end Mc

namespace Mc
open PySem PySem.Spec PyProof.Rows L2
/-- a def whose code object is known -/
structure FunC (K : PySem.W.Frag) (x qual : Str) (st : Stmt) (f : Addr) (fd : FuncData) (c0 : Value) : Prop where
  ex : ∃ (oc : Value) (od : Option Addr) (kV doc pm : Value) (an : Option Addr) (ct : Value) (osl : Array (Option Value)),
    fd = PySem.W.fnOf x qual (defArgs st) (defBody st) (defScope st) .none kV doc pm an c0 ct ∧ K.lookup f = some ⟨oc, od, .func fd, osl⟩ ∧ PySem.W.codeIn K c0 qual = true
  kp : PySem.W.keepIn K (.ref f) = true
theorem fnG_ofC {CX : CXT} {P : Program} {w : World} {K : PySem.W.Frag} {mg : Str → Option Value} {base : Heap} {k : Nat} {f : Addr} {x qual : Str} {st : Stmt} {fd : FuncData}
    {N ps : List Str} {sp : Sp} {c0 : Value} (F : FunC K x qual st f fd c0) (S : FnScope N ps (defScope st)) (len : ∀ vs H Q E, sp vs H Q E → vs.length = ps.length)
    (hbody : ∀ (A : Around) (outer : List Env) (s : Shared) (H : Hp) (vs : List V) (Q : VK) (E : XK), A.guards = some [] →
      Room k (A.deeper (envOfC qual (defScope st) s.heap.objs.size f c0)) → sp vs H Q E →
      ∃ t, PSs (cxOf CX P w K mg base N qual (defScope st) f c0 A outer s H E).nox (defBody st) t ∧ t { nx := fun _ H' => Q .non H', rt := Q } (start N vs) H) :
    FnG P w K mg base CX (k + 1) f fd ps sp := by
  obtain ⟨oc, od, kV, doc, pm, an, ct, osl, rfl, lk, hcd⟩ := F.ex
  constructor
  · exact len
  intro A outer s H args us vs Q E hg room env bind rel want
  have inh : K.In s.heap := env.mod.kin.keeps fun b o e => (env.bs b o e).1
  have nol : s.heap.NoLimit := env.mod.nolimit.keeps fun b o e => (env.bs b o e).1
  have kinds : ∀ y ∈ ps.zip us, (defScope st).names.lookup y.1 = some .local ∨
      ((defScope st).names.lookup y.1 = some .cell ∧ ((cellsFrom (s.heap.objs.size + 1) (defScope st).names []).lookup y.1).isSome = true) := by
    rintro ⟨n, v⟩ hy
    have hn := (List.of_mem_zip hy).1
    rcases S.par n hn with q | q
    · exact Or.inl q
    · exact Or.inr ⟨q, PySem.W.cellsFrom_some _ _ _ (Or.inl q)⟩
  have go := hbody A outer s H vs Q E hg (room.deeper _) want
  obtain ⟨t, ht0, hq⟩ := go
  have ht := ht0.nox
  refine codeAny_call_function room.depth (inh _ _ lk) rfl S.co S.gen rfl (PySem.W.codeRec_of inh hcd) (bind _ _ _ _ ?_)
  refine wpAny_newFunctionEnv_cells S.kind kinds fun en hen s1 inc => ?_
  subst hen
  refine ⟨nol.keeps inc.toInCall.keep, codeAny_func ?_⟩
  have J := inv_start (CX := CX) (E := E) S room.hd env (len _ _ _ _ want) rel inc
  have R := ht.run [] s1 (start N vs) H _ J hq
  refine wpAny_mono R ?_ (fun _ _ z => z)
  intro fl s' z
  cases fl with
  | next => obtain ⟨σ', H', J', q⟩ := z; exact ⟨V.non, H', J'.os, J'.bare, J'.base, J'.hok, rfl, q⟩
  | ret u => obtain ⟨v, σ', H', J', rv, q⟩ := z; exact ⟨v, H', J'.os, J'.bare, J'.base, J'.hok, rv, q⟩
  | brk => obtain ⟨_, _, _, q⟩ := z; exact False.elim q
  | cont => obtain ⟨_, _, _, q⟩ := z; exact False.elim q

/-- .. of the module, by its name -/
structure DefC (K : PySem.W.Frag) (mg : Str → Option Value) (x : Str) (st : Stmt) (ps : List Str) (c0 : Value) : Prop where
  ex : ∃ (f : Addr) (fd : FuncData), FunC K x x st f fd c0 ∧ mg x = some (.ref f) ∧ Binds K fd ps []
theorem calG_ofC {P : Program} {w : World} {K : PySem.W.Frag} {mg : Str → Option Value} {base : Heap} {x : Str} {st : Stmt} {N ps : List Str} {k : Nat} {sp : Sp} {c0 : Value} (D : DefC K mg x st ps c0) (S : FnScope N ps (defScope st)) (len : ∀ vs H Q E, sp vs H Q E → vs.length = ps.length)
    (hbody : ∀ (f : Addr) (A : Around) (outer : List Env) (s : Shared) (H : Hp) (vs : List V) (Q : VK) (E : XK), A.guards = some [] → Room k (A.deeper (envOfC x (defScope st) s.heap.objs.size f c0)) → sp vs H Q E →
      ∃ t, PSs (cxOf CX0 P w K mg base N x (defScope st) f c0 A outer s H E).nox (defBody st) t ∧ t { nx := fun _ H' => Q .non H', rt := Q } (start N vs) H) : Mx.CalG P w K mg base (k + 1) x sp := by
  obtain ⟨f, fd, F, hm, b⟩ := D.ex
  exact ⟨f, fd, ps, fnG_ofC F S len (hbody f), hm, F.kp, b⟩
end Mc

namespace K2
open PySem PySem.Spec PyProof.Rows L2 Mc Mx
/-- _law_told(lambda: body) -/
theorem pe_told {X : Cx} {T : List (Addr × Str)} {g c Pt CP : Addr} {fd : FuncData} {k : Nat} {params : Arguments} {body : Expr} {scope : Scope} {t : XK → TE} {p lpos pos : Pos} (F : Fun X.K "_law_told" "_law_told" s_law_told g fd) (hm : X.mg "_law_told" = some (.ref g)) (b : Binds X.K fd ["_law_call"] [])
    (XP : XfC X.K CP) (nfP : PySem.W.findIn X.K (.ref CP) "field" = some none) (gl : X.mg "InvalidPolicy" = some (.ref CP)) (xPP : PySem.W.exmOne X.K (.ref CP) (.ref CP) = some true)
    (TB : LamX.TabB X.base X.mg c Pt) (hcode : X.env.code = .ref c) (hmT : (Pt, X.env.qual ++ "<lambda>") ∈ T) (hu : ∀ p ∈ T, p.1 = Pt → p.2 = X.env.qual ++ "<lambda>") (hr : Room (k + 2) X.A) (hg : Gl X "_law_told")
    (L : LamX.LamS X.env.scope scope) (hdef : defaultsOf params X.env = ([], []))
    (hbind : ∀ (q : Str) (cl : List (Str × Addr)) (pm cv ctv : Value), bindArgs (PySem.W.kla_fn "<lambda>" q params body scope cl pm cv ctv) ⟨[], []⟩ = pure [])
    (hbody : ∀ (A : Around) (outer : List Env) (s : Shared) (H : Hp) (E : XK) (f c' : Addr), Room k (A.deeper (LamX.lamEnv X scope s.heap.objs.size f c')) → PE (LamX.lamCx X A outer s H E scope f c') body (t E)) :
    PE X (.Call (.Name "_law_told" p) [.Lambda params body scope lpos] [] pos) (LamX.tLam T (TT4 CP) t) := by
  obtain ⟨oc, od, kV, doc, pm, an, cdv, ct, osl, rfl, lk, hcd⟩ := F.ex
  exact LamX.pe_lamcall (a := "_law_call") (c := c) (P := Pt) (Ng := N_law_told) hg hm F.kp lk hcd b sc_law_told rfl (Or.inl rfl) (told4 XP nfP gl xPP) TB hcode hmT hu hr L hdef hbind hbody
/-- what a lambda's body lets out is taken -/
theorem pass_lam {X : Cx} {A : Around} {outer : List Env} {s : Shared} {H : Hp} {E : XK} {scope : Scope} {f c' : Addr} : Passes (CX X.prog X.w) (LamX.lamCx X A outer s H E scope f c') E :=
  passes_call (takes_of (X := LamX.lamCx X A outer s H E scope f c') rfl rfl rfl rfl) (fun _ _ _ _ h => h)
end K2

namespace K2
open PySem PySem.Spec PyProof.Rows L2 Mc Mx
section
variable {P : Program} {w : World} {K : PySem.W.Frag} {mg : Str → Option Value} {base : Heap}
/-- changed(..) gives the policy q' -/
theorem ch_ok {C CN CP : Addr} {ks : List Str} {zs : List V} {H : Hp} {a dx pa ga ga' : Addr} {q q' : Pol} {p' : V} {Q : VK} {E : XK} (ha : H a = some (.ins C dx (Pol.fs q pa ga))) (lz : zs.length = ks.length) (hk : ∀ k ∈ ks, k ∈ wds)
    (eq : setW (base6 q pa ga ks) (ks.zip zs) = [.int q'.l, .int q'.t, p', eV q'.e, .bl q'.b, .ref ga']) (ok' : q'.ok) (nm : q'.z = q.z) (tg : TupV K H ga' q'.g.vs)
    (hp : (p' = .non ∧ (q'.e = none → q'.ps = List.replicate (q'.t - 1).toNat 0)) ∨ (q'.e = none ∧ ∃ pa', p' = .ref pa' ∧ TupV K H pa' (q'.ps.map V.int)))
    (k : ∀ x H', H x = none → Same H H' → PolAt K C H' x q' → Q (.ref x) H') : spCh K C CN CP ks [.ref a] zs H Q E := by
  refine ⟨a, dx, q, pa, ga, rfl, ha, lz, .inr ⟨hk, fun H2 x dx2 S nx nd ne => .inl ?_⟩⟩
  rw [eq]
  have S1 : Same H (upd (upd H2 dx2 (.own x)) x (.ins C dx2 [])) := Same.trans S (same_ins nx nd)
  have nx0 : H x = none := by
    cases e : H x with
    | none => rfl
    | some o => rw [S _ _ e] at nx; cases nx
  refine ⟨x, dx2, q', p', ga', by rw [nm]; rfl, ok', upd_same, TupV.ext S1 tg, ?_, fun H' pl fr => ⟨rfl, k x H' nx0 (Same.trans S (same_made nx nd fr)) pl⟩⟩
  rcases hp with h | ⟨h1, pa', h2, h3⟩
  · exact .inl h
  · exact .inr ⟨h1, pa', h2, TupV.ext S1 h3⟩
/-- changed(..) with a first word that is no field -/
theorem ch_word {C CN CP : Addr} {ks : List Str} {zs : List V} {H : Hp} {a dx pa ga : Addr} {q : Pol} {Q : VK} {E : XK} {wd : Str} {i : Nat} (ha : H a = some (.ins C dx (Pol.fs q pa ga))) (lz : zs.length = ks.length) (hi : ks[i]? = some wd) (hw : wd ∉ wds) (hb : ∀ (j : Nat) (x : Str), j < i → ks[j]? = some x → x ∈ wds)
    (k : ∀ d H', Same H H' → H' d = some (.xd [("field", .str wd)]) → E (.ref CP) (some d) H') : spCh K C CN CP ks [.ref a] zs H Q E :=
  ⟨a, dx, q, pa, ga, rfl, ha, lz, .inl ⟨i, wd, hi, hw, hb, k⟩⟩
/-- changed(..) with a value that a policy refuses -/
theorem ch_bad {C CN CP : Addr} {ks : List Str} {zs : List V} {H : Hp} {a dx pa ga : Addr} {q : Pol} {l t p e y g : V} {n1 n2 n3 n4 : String} {pb gb : Bool} {wd : Str} {Q : VK} {E : XK} (ha : H a = some (.ins C dx (Pol.fs q pa ga))) (lz : zs.length = ks.length) (hk : ∀ k ∈ ks, k ∈ wds)
    (eq : setW (base6 q pa ga ks) (ks.zip zs) = [l, t, p, e, y, g]) (ok : q.ok) (t1 : Mc.TyQ K H l n1) (t2 : Mc.TyQ K H t n2) (t3 : Mc.TyQ K H e n3) (t4 : Mc.TyQ K H y n4) (hp : ∀ i, t = .int i → SeqR K H p (fun xs => arePz xs i) pb) (hg : SeqR K H g endOk gb) (hw : wfV l t p e y pb gb = .str wd)
    (k : ∀ d H', Same H H' → H' d = some (.xd [("field", .str wd)]) → E (.ref CP) (some d) H') : spCh K C CN CP ks [.ref a] zs H Q E := by
  refine ⟨a, dx, q, pa, ga, rfl, ha, lz, .inr ⟨hk, fun H2 x dx2 S nx nd ne => .inr ?_⟩⟩
  rw [eq]
  have S1 : Same H (upd (upd H2 dx2 (.own x)) x (.ins C dx2 [])) := Same.trans S (same_ins nx nd)
  exact ⟨x, dx2, .str q.z, l, t, p, e, y, g, _, rfl, upd_same, .str _, (fun z h => by injection h with h; rw [← h]; exact ok.nl), .inr ⟨ok.nm, n1, n2, n3, n4, pb, gb, wd, TyQ.ext S1 t1, TyQ.ext S1 t2, TyQ.ext S1 t3, TyQ.ext S1 t4, (fun i hi => SeqR.ext S1 (hp i hi)), SeqR.ext S1 hg, hw, fun d H' S2 hd => k d H' (Same.trans S1 S2) hd⟩⟩
end
end K2

namespace K2
open PySem PySem.Spec PyProof.Rows L2 Mc Mx
section
variable {P : Program} {w : World} {K : PySem.W.Frag} {mg : Str → Option Value} {base : Heap}
local macro_rules | `(tactic| walk_at "rd1") => `(tactic| first
  | with_reducible refine g_seq ?_
  | with_reducible refine g_asg ?_
  | with_reducible refine g_name ?_
  | with_reducible refine g_c ?_
  | with_reducible refine g_op ?_
  | with_reducible refine g_ifS ?_
  | with_reducible refine g_if ?_
  | with_reducible refine g_test ?_
  | with_reducible refine g_B ?_
  | with_reducible refine g_bl ?_
  | with_reducible refine g_blV ?_
  | with_reducible refine g_not ?_
  | with_reducible refine g_and ?_
  | with_reducible refine g_or ?_
  | with_reducible refine g_notV ?_
  | with_reducible refine g_andV ?_
  | with_reducible refine g_orV ?_
  | with_reducible refine g_ret ?_
  | with_reducible refine g_drop ?_
  | with_reducible refine g_next ?_
  | with_reducible refine g_retN ?_
  | with_reducible refine g_call ?_
  | with_reducible refine g_cb ?_
  | with_reducible refine g_cons ?_
  | with_reducible refine g_nil ?_
  | with_reducible refine g_tup ?_
  | with_reducible refine g_lst ?_
  | with_reducible refine g_prop ?_
  | with_reducible refine g_fld ?_
  | with_reducible refine g_meth ?_
  | with_reducible refine g_chain ?_
  | with_reducible refine g_yes ?_
  | with_reducible refine g_make ?_
  | with_reducible refine g_makeK ?_
  | with_reducible refine g_gsub ?_
  | with_reducible refine g_sfld ?_
  | with_reducible refine g_un ?_
  | with_reducible refine g_bm ?_
  | with_reducible refine g_iteT ?_
  | with_reducible refine g_iteF ?_
  | with_reducible refine g_I0 ?_
  | with_reducible refine g_add ?_
  | with_reducible refine g_sub ?_
  | ((with_reducible refine' g_var ?hv ?_); (case hv => rfl))
  | ((with_reducible refine g_eq ?hv ?_); (case hv => rfl))
  | ((with_reducible refine g_ne ?hv ?_); (case hv => rfl)))
local macro_rules | `(tactic| walk_at "rd") => `(tactic| repeat (walk_at "rd1"))

local macro_rules | `(tactic| walk_at "ty") => `(tactic| first | exact .non | exact .bl _ | exact .int _ | exact .str _ | exact .lst (by assumption) | exact .tup (by assumption) | exact .dK (by assumption) | exact .kTup (by assumption) (by assumption))
local macro_rules | `(tactic| walk_at "isiF") => `(tactic| refine g_isi (by walk_at "ty") (b := false) (by decide +kernel) ?_)
local macro_rules | `(tactic| walk_at "isiT") => `(tactic| refine g_isi (by walk_at "ty") (b := true) (by decide +kernel) ?_)

theorem g_sl {σ : L2.St} {H : Hp} {Q : VK} {r : V → Option Int → Option Int → Hp → VK → Prop} {te : TE} {tl th : TO} (q : te σ H fun x H1 => tl σ H1 fun l H2 => th σ H2 fun u H3 => r x l u H3 Q) : tSl r te tl th σ H Q := q
theorem g_nopart {σ : L2.St} {H : Hp} {Q : Option Int → Hp → Prop} (q : Q none H) : tNoPart σ H Q := q
theorem g_part {σ : L2.St} {H : Hp} {Q : Option Int → Hp → Prop} {t : TE} (q : t σ H fun x H1 => ∃ i, x = .int i ∧ Q (some i) H1) : tPart t σ H Q := q
theorem sl_go {H : Hp} {Q : VK} {a : Addr} {xs : List V} {lo hi : Option Int} (h : SqL K H a xs) (k : ∀ s H', Same H H' → H' s = some (.lst (cutV xs lo hi)) → Q (.ref s) H') : rSlL K (.ref a) lo hi H Q :=
  ⟨a, xs, rfl, h, fun p hp => k p _ (same_new hp) upd_same⟩
theorem cat_go {H : Hp} {Q : VK} {a b : Addr} {xs ys : List V} (h : H a = some (.lst xs)) (h' : H b = some (.lst ys)) (hl : xs.length + ys.length ≤ 1000) (k : ∀ s H', Same H H' → H' s = some (.lst (xs ++ ys)) → Q (.ref s) H') : rCat (.ref a) (.ref b) H Q :=
  ⟨a, b, xs, ys, rfl, rfl, h, h', sz_le hl, fun p hp => k p _ (same_new hp) upd_same⟩
theorem g_methW {C : Addr} {m : Str} {ks : List Str} {sp : List V → List V → Hp → VK → XK → Prop} {E : XK} {ta : TE} {tk : TA} {σ : L2.St} {H : Hp} {Q : VK} (q : ta σ H fun x H1 => ∃ a dx fs, x = .ref a ∧ H1 a = some (.ins C dx fs) ∧ fs.lookup m = none ∧
  tk σ H1 fun zs H2 => zs.length = ks.length ∧ sp [x] zs H2 Q E) : tMethW C m ks sp E ta tk σ H Q := q
theorem rep_go {H : Hp} {Q : VK} {l : Addr} {n : Int} (tl : TupV K H l [.int 0]) (h0 : 0 ≤ n) (h1 : n ≤ 1000) (k : ∀ p H', Same H H' → TupV K H' p ((List.replicate n.toNat (0 : Int)).map V.int) → Q (.ref p) H') : rRepS K (.ref l) (.int n) H Q :=
  ⟨l, n, .int 0, rfl, rfl, tl.sq, h0, h1, fun e => k l H (Same.refl _) (by subst e; exact tl), fun e p hp => k p _ (same_new hp) (by rw [List.map_replicate]; exact ⟨.tup upd_same, SqT.of upd_same⟩)⟩
theorem btw_i {l a b : Int} (h1 : a ≤ l) (h2 : l ≤ b) : btw (.int l) a b = true := by
  show (decide _ && decide _) = true
  rw [decide_eq_true h1, decide_eq_true h2]
  rfl
theorem wf_early {l i : Int} {b gb : Bool} (l1 : 1 ≤ l) (l2 : l ≤ 20) : wfV (.int l) (.int 1) .non (.int i) (.bl b) false gb = .str "early" := by
  unfold wfV
  rw [btw_i l1 l2, decide_eq_false (show ¬ V.int i = .non from fun h => by cases h)]
  rfl
theorem wf_pauses {l t i : Int} {pt : Addr} {b pb gb : Bool} (l1 : 1 ≤ l) (l2 : l ≤ 20) (t1 : 1 ≤ t) (t2 : t ≤ 3) : wfV (.int l) (.int t) (.ref pt) (.int i) (.bl b) pb gb = .str "pauses" := by
  unfold wfV
  rw [btw_i l1 l2, btw_i t1 t2, decide_eq_false (show ¬ V.int i = .non from fun h => by cases h), decide_eq_false (show ¬ V.ref pt = .non from fun h => by cases h)]
  rfl
theorem extN_tup {H H' : Hp} {a : Addr} {xs : List V} (e : LamX.ExtN H H') (h : TupV K H a xs) : TupV K H' a xs := by
  obtain ⟨ty, sq⟩ := h
  constructor
  · generalize hn : "tuple" = n at ty ⊢
    cases ty with
    | tup z => exact .tup (e _ _ z (fun _ k => by cases k))
    | kTup z c => exact .kTup z c
    | lst z => exact absurd hn (by decide)
    | dK z => exact absurd hn (by decide)
  · rcases sq with (h | ⟨o, h⟩) | h
    · exact .inl (.inl (e _ _ h (fun _ k => by cases k)))
    · exact .inl (.inr ⟨o, e _ _ h (fun _ k => by cases k)⟩)
    · exact .inr h
theorem extN_tups {H H' : Hp} {q : Pol} {pa ga : Addr} (e : LamX.ExtN H H') (h : Tups K H q pa ga) : Tups K H' q pa ga := ⟨extN_tup e h.p, extN_tup e h.g⟩
theorem op_repSK {X : Cx} {K : PySem.W.Frag} (hK : X.K = K) : OpR X (binaryOp .Mult) (rRepS K) := by
  subst hK
  exact op_repS
/-- all that the makers of lambdas ask -/
structure Mkr (P : Program) (w : World) (K : PySem.W.Frag) (mg : Str → Option Value) (base : Heap) (T : List (Addr × Str)) (C CN CP g fc : Addr) (fdT : FuncData) : Prop where
  tc : CTxt K C
  mch : Meth K C "changed" fc
  dt : Fun K "_law_told" "_law_told" s_law_told g fdT
  hmT : mg "_law_told" = some (.ref g)
  bT : Binds K fdT ["_law_call"] []
  xp : XfC K CP
  nfP : PySem.W.findIn K (.ref CP) "field" = some none
  gPo : mg "InvalidPolicy" = some (.ref CP)
  xPP : PySem.W.exmOne K (.ref CP) (.ref CP) = some true
  w : ∀ ks ∈ ([[], ["limit"], ["ending", "lossy"], ["tries"], ["tries", "early"], ["tries", "pauses"], ["early"], ["pauses"], ["name"], ["limit", "limits", "name"], ["lossy"], ["ending"]] : List (List Str)), FnW P w K mg base (CX P w) 8 fc ks (spCh K C CN CP ks)
def spPR (K : PySem.W.Frag) (C : Addr) (T : List (Addr × Str)) : Sp := fun vs H Q _ => ∃ a l dx q pa ga, vs = [.ref a, .ref l] ∧ Pol.ok q ∧ H a = some (.ins C dx (Pol.fs q pa ga)) ∧ H l = some (.lst (q.vs pa ga)) ∧ Tups K H q pa ga ∧ LamX.Tabs T H ∧ ∀ H', LamX.ExtN H H' → LamX.Tabs T H' → Q (.bl true) H'

theorem ok_pauses_right {T : List (Addr × Str)} {C CN CP g fc c Pt : Addr} {fdT : FuncData} (TX : Txt K mg) (R : Mkr P w K mg base T C CN CP g fc fdT) (D : DefC K mg "_law_pauses_right" s_law_pauses_right ["_law_one", "_law_kept"] (.ref c)) (TBm : LamX.TabB base mg c Pt)
    (mT : (Pt, ("_law_pauses_right.<locals>.<lambda>" : Str)) ∈ T) (uT : ∀ p ∈ T, p.1 = Pt → p.2 = ("_law_pauses_right.<locals>.<lambda>" : Str))
    (c_law_fields_of : Cal P w K mg base 3 "_law_fields_of" (spFO C)) (pr_pauses : Prp P w K mg base 1 C "pauses" (getSp C "_pauses")) (pr_early : Prp P w K mg base 1 C "early" (getSp C "_early")) : CalG P w K mg base 11 "_law_pauses_right" (spPR K C T) := by
  have T := TX
  have TC := R.tc
  have mch := R.mch
  have DT := R.dt
  have hmT := R.hmT
  have bT := R.bT
  have XP := R.xp
  have nfP := R.nfP
  have gPo := R.gPo
  have xPP := R.xPP
  have w_tries := R.w ["tries"] (by decide)
  have w_tries_early := R.w ["tries", "early"] (by decide)
  have w_tries_pauses := R.w ["tries", "pauses"] (by decide)
  have w_early := R.w ["early"] (by decide)
  have w_pauses := R.w ["pauses"] (by decide)
  refine calG_ofC D sc_law_pauses_right (fun vs H Q E h => ?_) (fun f A outer s H vs Q E hgA hr h => ?_)
  · obtain ⟨a, l, dx, q, pa, ga, rfl, _⟩ := h
    rfl
  · obtain ⟨a, l, dx, q, pa, ga, rfl, ok, ha, hl, tu, tabs, k⟩ := h
    have hg : (A.deeper (envOfC "_law_pauses_right" (defScope s_law_pauses_right) s.heap.objs.size f (.ref c))).guards = some [] := hgA
    have hu : (A.deeper (envOfC "_law_pauses_right" (defScope s_law_pauses_right) s.heap.objs.size f (.ref c))).units + 64 < cLine := hr.units
    have hrW : Room 8 (A.deeper (envOfC "_law_pauses_right" (defScope s_law_pauses_right) s.heap.objs.size f (.ref c))) := hr.mono (by decide)
    have hrT : Room 10 (A.deeper (envOfC "_law_pauses_right" (defScope s_law_pauses_right) s.heap.objs.size f (.ref c))) := hr
    refine ⟨_, (pss_cons (ps_if (pt_cmpR op_isN (pe_pr pr_early hr (by decide) (pv 0)) pe_non (nomark _)) (pss_cons (ps_if (pt_cmpR op_ne (pe_callB (call_repr hg hu) (by rfl) T.n_repr (by decide +kernel) (pa_cons (pe_f c_law_fields_of hr (by decide) (by rfl) (pa_cons (pe_methW (pv 0) TC.cl mch w_tries hrW L2.passL (pk_cons pe_int pk_nil)) pa_nil)) pa_nil)) (pe_callB (call_repr hg hu) (by rfl) T.n_repr (by decide +kernel) (pa_cons (pe_op op_cat (pe_op op_cat (pe_slice sl_list (pv 1) po_none (po_some pe_int)) (pe_lst (pa_cons pe_int (pa_cons (pe_tup (pa_cons pe_int (pa_cons pe_int pa_nil))) (pa_cons pe_non pa_nil))))) (pe_slice sl_list (pv 1) (po_some pe_int) po_none)) pa_nil)) (nomark _)) (pss_one (ps_ret pe_bl)) pss_nil)
      (pss_cons (ps_if (pt_cmpR op_ne (pe_callB (call_repr hg hu) (by rfl) T.n_repr (by decide +kernel) (pa_cons (pe_f c_law_fields_of hr (by decide) (by rfl) (pa_cons (pe_methW (pv 0) TC.cl mch w_tries_early hrW L2.passL (pk_cons pe_int (pk_cons pe_int pk_nil))) pa_nil)) pa_nil)) (pe_callB (call_repr hg hu) (by rfl) T.n_repr (by decide +kernel) (pa_cons (pe_op op_cat (pe_op op_cat (pe_slice sl_list (pv 1) po_none (po_some pe_int)) (pe_lst (pa_cons pe_int (pa_cons (pe_tup pa_nil) (pa_cons pe_int pa_nil))))) (pe_slice sl_list (pv 1) (po_some pe_int) po_none)) pa_nil)) (nomark _)) (pss_one (ps_ret pe_bl)) pss_nil)
      (pss_one (ps_ret (pe_cmpR (op_eqD hu) (pe_pr pr_pauses hr (by decide) (pe_methW (pv 0) TC.cl mch w_tries_pauses hrW L2.passL (pk_cons pe_int (pk_cons (pe_tup (pa_cons pe_int (pa_cons pe_int pa_nil))) pk_nil)))) (pe_tup (pa_cons pe_int (pa_cons pe_int pa_nil))) (nomark _)))))) pss_nil)
      (pss_cons (ps_set (i := 2) sc_law_pauses_right.nd rfl (Or.inl rfl) (pe_op op_cat (pe_op op_cat (pe_slice sl_list (pv 1) po_none (po_some pe_int)) (pe_lst (pa_cons (pe_op op_repS (pe_tup (pa_cons pe_int pa_nil)) (pe_op op_sub (pe_ix ix_list (pv 1) pe_int (fun _ _ => rfl)) pe_int)) (pa_cons pe_non pa_nil)))) (pe_slice sl_list (pv 1) (po_some pe_int) po_none)))
      (pss_cons (ps_if (pt_cmpR op_ne (pe_callB (call_repr hg hu) (by rfl) T.n_repr (by decide +kernel) (pa_cons (pe_f c_law_fields_of hr (by decide) (by rfl) (pa_cons (pe_methW (pv 0) TC.cl mch w_early hrW L2.passL (pk_cons pe_non pk_nil)) pa_nil)) pa_nil)) (pe_callB (call_repr hg hu) (by rfl) T.n_repr (by decide +kernel) (pa_cons (pv 2) pa_nil)) (nomark _)) (pss_one (ps_ret pe_bl)) pss_nil)
      (pss_cons (ps_if (pt_cmpR op_ne (pe_pr pr_early hr (by decide) (pe_methW (pv 0) TC.cl mch w_tries hrW L2.passL (pk_cons pe_int pk_nil))) (pe_ix ix_list (pv 1) pe_int (fun _ _ => rfl)) (nomark _)) (pss_one (ps_ret pe_bl)) pss_nil)
      (pss_cons (ps_if (pt_cmpR op_ne (pe_told DT hmT bT XP nfP gPo xPP TBm rfl mT uT hrT rfl (LamX.lamS_by (by rfl)) rfl (fun _ _ _ _ _ => rfl) (fun A outer s H E f c' hrl => pe_methW (pv 0) TC.cl mch w_tries hrl pass_lam (pk_cons pe_int pk_nil))) pe_str (nomark _)) (pss_one (ps_ret pe_bl)) pss_nil)
      (pss_one (ps_ret (pe_cmpR op_eq (pe_told DT hmT bT XP nfP gPo xPP TBm rfl mT uT hrT rfl (LamX.lamS_by (by rfl)) rfl (fun _ _ _ _ _ => rfl) (fun A outer s H E f c' hrl => pe_methW (pv 0) TC.cl mch w_pauses hrl pass_lam (pk_cons (pe_op (op_repSK (K := K) rfl) (pe_tup (pa_cons pe_int pa_nil)) (pe_op op_sub (pe_ix (ix_listK (K := K) rfl) (pv 1) pe_int (fun _ _ => rfl)) pe_int)) pk_nil))) pe_str (nomark _))))))))), ?_⟩
    walk_at "rd"
    refine ⟨a, dx, _, rfl, ha, a, dx, _, _, rfl, ha, lk5, ?_⟩
    walk_at "rd"
    refine ⟨rfl, ?_⟩
    walk_at "rd"
    by_cases he : q.e = none
    · rw [decide_eq_true (eV_non.mpr he)]
      walk_at "rd"
      -- three tries
      refine g_methW ?_
      walk_at "rd"
      refine ⟨a, dx, _, rfl, ha, rfl, ?_⟩
      walk_at "rd"
      refine ⟨rfl, ?_⟩
      have okA : (⟨q.z, q.l, 3, [0, 0], none, q.b, q.g⟩ : Pol).ok := ⟨ok.nm, ok.nl, ok.l1, ok.l2, (by show (1 : Int) ≤ 3; decide), (by show (3 : Int) ≤ 3; decide), (fun i h => by cases h), (fun _ => ⟨(by show (((2 : Nat)) : Int) = 3 - 1; decide), (by show ∀ i ∈ [(0 : Int), 0], 0 ≤ i ∧ i ≤ 8; decide)⟩), ok.g1⟩
      refine ch_ok (q' := ⟨q.z, q.l, 3, [0, 0], none, q.b, q.g⟩) (p' := .non) (ga' := ga) ha rfl (by decide) (by unfold base6; rw [if_pos (by decide), he]; rfl) okA rfl tu.g (.inl ⟨rfl, fun _ => rfl⟩) fun x H1 _ S1 po => ?_
      obtain ⟨dx1, pa1, ga1, hx1, tu1⟩ := po
      walk_at "rd"
      refine ⟨x, dx1, _, pa1, ga1, rfl, hx1, fun r H2 _ S2 hr2 => ?_⟩
      walk_at "rd"
      refine repr_go (.lst (SqL.of hr2) (dp_pol (tu1.ext S2))) (good_pol okA).list (by decide) (by decide) ?_
      have rowNow := (Same.trans S1 S2) _ _ hl
      have S0 := Same.trans S1 S2
      walk_at "rd"
      refine g_sl ?_
      walk_at "rd"
      refine g_nopart (g_part ?_)
      walk_at "rd"
      refine ⟨_, rfl, ?_⟩
      refine sl_go (SqL.of rowNow) fun s1 H18 S18 hs1 => ?_
      walk_at "rd"
      refine tup_go ?hl fun pt H19a _ S19a hpt => ?_
      case hl => exact Nat.le_of_ble_eq_true rfl
      walk_at "rd"
      refine lst_go ?hl fun s2 H19 _ S19 hs2 => ?_
      case hl => exact Nat.le_of_ble_eq_true rfl
      walk_at "rd"
      refine cat_go (S19 _ _ (S19a _ _ hs1)) hs2 (Nat.le_of_ble_eq_true rfl) fun s3 H20 S20 hs3 => ?_
      walk_at "rd"
      refine g_sl ?_
      walk_at "rd"
      refine g_part ?_
      walk_at "rd"
      refine ⟨_, rfl, g_nopart ?_⟩
      refine sl_go (SqL.of (S20 _ _ (S19 _ _ (S19a _ _ (S18 _ _ rowNow))))) fun s4 H21 S21 hs4 => ?_
      walk_at "rd"
      refine cat_go (S21 _ _ hs3) hs4 (Nat.le_of_ble_eq_true rfl) fun s5 H22 S22 hs5 => ?_
      have hpt22 : TupV K H22 pt _ := TupV.ext (Same.trans S19 (Same.trans S20 (Same.trans S21 S22))) ⟨.tup hpt, SqT.of hpt⟩
      have SS : Same _ H22 := Same.trans S18 (Same.trans S19a (Same.trans S19 (Same.trans S20 (Same.trans S21 S22))))
      walk_at "rd"
      have hs5' : H22 s5 = some (.lst (Pol.vs ⟨q.z, q.l, 3, [0, 0], none, q.b, q.g⟩ pt ga)) := hs5
      have tu22 : Tups K H22 ⟨q.z, q.l, 3, [0, 0], none, q.b, q.g⟩ pt ga := ⟨hpt22, TupV.ext (Same.trans S0 SS) tu.g⟩
      refine repr_go (.lst (SqL.of hs5') (dp_pol tu22)) (good_pol okA).list (by decide) (by decide) ?_
      walk_at "rd"
      rw [decide_eq_true (Eq.refl _)]
      show (if false = true then _ else _)
      walk_at "rd"
      have S1x := Same.trans S0 SS
      have ha2 := S1x _ _ ha
      have hl2 := S1x _ _ hl
      have tu2 := tu.ext S1x
      clear SS S0 S1 S2 hs5 hs5' tu22 hpt22 rowNow hr2 hx1 tu1 S18 S19a S19 S20 S21 S22 hs1 hs2 hs3 hs4 hpt
      -- two tries with an early one
      refine g_methW ?_
      walk_at "rd"
      refine ⟨a, dx, _, rfl, ha2, rfl, ?_⟩
      walk_at "rd"
      refine ⟨rfl, ?_⟩
      have okB : (⟨q.z, q.l, 2, [], some 4, q.b, q.g⟩ : Pol).ok := ⟨ok.nm, ok.nl, ok.l1, ok.l2, (by show (1 : Int) ≤ 2; decide), (by show (2 : Int) ≤ 3; decide), (fun i h => by injection h with h; subst h; exact ⟨by show (2 : Int) ≤ 2; decide, by decide, by decide, rfl⟩), (fun h => by cases h), ok.g1⟩
      refine ch_ok (q' := ⟨q.z, q.l, 2, [], some 4, q.b, q.g⟩) (p' := .non) (ga' := ga) ha2 rfl (by decide) (by unfold base6; rw [if_pos (by decide)]; rfl) okB rfl tu2.g (.inl ⟨rfl, (fun h => by cases h)⟩) fun x2 H3 _ S3 po => ?_
      obtain ⟨dx3, pa3, ga3, hx3, tu3⟩ := po
      walk_at "rd"
      refine ⟨x2, dx3, _, pa3, ga3, rfl, hx3, fun r3 H4 _ S4 hr4 => ?_⟩
      walk_at "rd"
      refine repr_go (.lst (SqL.of hr4) (dp_pol (tu3.ext S4))) (good_pol okB).list (by decide) (by decide) ?_
      have rowNow := (Same.trans S3 S4) _ _ hl2
      have S0 := Same.trans S3 S4
      walk_at "rd"
      refine g_sl ?_
      walk_at "rd"
      refine g_nopart (g_part ?_)
      walk_at "rd"
      refine ⟨_, rfl, ?_⟩
      refine sl_go (SqL.of rowNow) fun s1 H18 S18 hs1 => ?_
      walk_at "rd"
      refine tup_go ?hl fun pt H19a _ S19a hpt => ?_
      case hl => exact Nat.le_of_ble_eq_true rfl
      walk_at "rd"
      refine lst_go ?hl fun s2 H19 _ S19 hs2 => ?_
      case hl => exact Nat.le_of_ble_eq_true rfl
      walk_at "rd"
      refine cat_go (S19 _ _ (S19a _ _ hs1)) hs2 (Nat.le_of_ble_eq_true rfl) fun s3 H20 S20 hs3 => ?_
      walk_at "rd"
      refine g_sl ?_
      walk_at "rd"
      refine g_part ?_
      walk_at "rd"
      refine ⟨_, rfl, g_nopart ?_⟩
      refine sl_go (SqL.of (S20 _ _ (S19 _ _ (S19a _ _ (S18 _ _ rowNow))))) fun s4 H21 S21 hs4 => ?_
      walk_at "rd"
      refine cat_go (S21 _ _ hs3) hs4 (Nat.le_of_ble_eq_true rfl) fun s5 H22 S22 hs5 => ?_
      have hpt22 : TupV K H22 pt _ := TupV.ext (Same.trans S19 (Same.trans S20 (Same.trans S21 S22))) ⟨.tup hpt, SqT.of hpt⟩
      have SS : Same _ H22 := Same.trans S18 (Same.trans S19a (Same.trans S19 (Same.trans S20 (Same.trans S21 S22))))
      walk_at "rd"
      have hs5' : H22 s5 = some (.lst (Pol.vs ⟨q.z, q.l, 2, [], some 4, q.b, q.g⟩ pt ga)) := hs5
      have tu22 : Tups K H22 ⟨q.z, q.l, 2, [], some 4, q.b, q.g⟩ pt ga := ⟨hpt22, TupV.ext (Same.trans S0 SS) tu2.g⟩
      refine repr_go (.lst (SqL.of hs5') (dp_pol tu22)) (good_pol okB).list (by decide) (by decide) ?_
      walk_at "rd"
      rw [decide_eq_true (Eq.refl _)]
      show (if false = true then _ else _)
      walk_at "rd"
      have S2x := Same.trans S1x (Same.trans S0 SS)
      have ha3 := S2x _ _ ha
      have tu4 := tu.ext S2x
      clear SS S0 S3 S4 hs5 hs5' tu22 hpt22 rowNow hr4 hx3 tu3 S18 S19a S19 S20 S21 S22 hs1 hs2 hs3 hs4 hpt S1x
      -- three tries with pauses
      refine g_methW ?_
      walk_at "rd"
      refine ⟨a, dx, _, rfl, ha3, rfl, ?_⟩
      walk_at "rd"
      refine tup_go ?hl fun pt H5 _ S5 hpt => ?_
      case hl => exact Nat.le_of_ble_eq_true rfl
      walk_at "rd"
      refine ⟨rfl, ?_⟩
      have okC : (⟨q.z, q.l, 3, [1, 8], none, q.b, q.g⟩ : Pol).ok := ⟨ok.nm, ok.nl, ok.l1, ok.l2, (by show (1 : Int) ≤ 3; decide), (by show (3 : Int) ≤ 3; decide), (fun i h => by cases h), (fun _ => ⟨(by show (((2 : Nat)) : Int) = 3 - 1; decide), (by show ∀ i ∈ [(1 : Int), 8], 0 ≤ i ∧ i ≤ 8; decide)⟩), ok.g1⟩
      refine ch_ok (q' := ⟨q.z, q.l, 3, [1, 8], none, q.b, q.g⟩) (p' := .ref pt) (ga' := ga) (S5 _ _ ha3) rfl (by decide) (by unfold base6; rw [if_pos (by decide), he]; rfl) okC rfl (TupV.ext S5 tu4.g) (.inr ⟨rfl, pt, rfl, ⟨.tup hpt, SqT.of hpt⟩⟩) fun x3 H6 _ S6 po => ?_
      obtain ⟨dx6, pa6, ga6, hx6, tu6⟩ := po
      walk_at "rd"
      refine ⟨x3, dx6, _, rfl, hx6, x3, dx6, _, _, rfl, hx6, lk4, ?_⟩
      walk_at "rd"
      refine tup_go ?hl fun t2 H7 _ S7 ht2 => ?_
      case hl => exact Nat.le_of_ble_eq_true rfl
      refine g_eqD (d := .tuple ([1, 8].map PyData.int)) (e := .tuple ([1, 8].map PyData.int)) (.tup (tu6.ext S7).p.sq (dp_ints [1, 8])) (.tup (SqT.of ht2) (dp_ints [1, 8])) ((good_ints (by decide)).tuple.shaped (by decide)) ((good_ints (by decide)).tuple.shaped (by decide)) ?_
      walk_at "rd"
      have e6 : PyData.eqv (.tuple ([1, 8].map PyData.int)) (.tuple ([1, 8].map PyData.int)) = true := by decide +kernel
      rw [e6]
      have SF : Same H H7 := Same.trans S2x (Same.trans S5 (Same.trans S6 S7))
      exact k _ (LamX.ExtN.of SF) (tabs.ext SF)
    · rw [decide_eq_false (fun z => he (eV_non.mp z))]
      walk_at "rd"
      obtain ⟨i, hi⟩ : ∃ i, q.e = some i := by
        cases e : q.e with
        | none => exact absurd e he
        | some i => exact ⟨i, rfl⟩
      obtain ⟨t2, i1, i2, ps0⟩ := ok.e1 i hi
      refine g_sl ?_
      walk_at "rd"
      refine g_nopart (g_part ?_)
      walk_at "rd"
      refine ⟨_, rfl, ?_⟩
      refine sl_go (SqL.of hl) fun s1 H18 S18 hs1 => ?_
      walk_at "rd"
      refine tup_go ?hl fun z1 H19a _ S19a hz1 => ?_
      case hl => exact Nat.le_of_ble_eq_true rfl
      walk_at "rd"
      refine g_ixL (SqL.of (S19a _ _ (S18 _ _ hl))) (v := .int q.t) (atI_nat (j := 2) rfl) ?_
      walk_at "rd"
      refine rep_go ⟨.tup hz1, SqT.of hz1⟩ (by omega) (by have := ok.t2; omega) fun pt H19b S19b hpt => ?_
      walk_at "rd"
      refine lst_go ?hl fun s2 H19 _ S19 hs2 => ?_
      case hl => exact Nat.le_of_ble_eq_true rfl
      walk_at "rd"
      refine cat_go (S19 _ _ (S19b _ _ (S19a _ _ hs1))) hs2 (Nat.le_of_ble_eq_true rfl) fun s3 H20 S20 hs3 => ?_
      walk_at "rd"
      refine g_sl ?_
      walk_at "rd"
      refine g_part ?_
      walk_at "rd"
      refine ⟨_, rfl, g_nopart ?_⟩
      refine sl_go (SqL.of (S20 _ _ (S19 _ _ (S19b _ _ (S19a _ _ (S18 _ _ hl)))))) fun s4 H21 S21 hs4 => ?_
      walk_at "rd"
      refine cat_go (S21 _ _ hs3) hs4 (Nat.le_of_ble_eq_true rfl) fun s5 H22 S22 hs5 => ?_
      have hpt22 : TupV K H22 pt _ := TupV.ext (Same.trans S19 (Same.trans S20 (Same.trans S21 S22))) hpt
      have S1x : Same H H22 := Same.trans S18 (Same.trans S19a (Same.trans S19b (Same.trans S19 (Same.trans S20 (Same.trans S21 S22)))))
      have ha2 := S1x _ _ ha
      have hl2 := S1x _ _ hl
      have tu2 := tu.ext S1x
      clear S18 S19a S19b S19 S20 S21 S22 hs1 hs2 hs3 hs4 hpt hz1
      walk_at "rd"
      -- no early one
      refine g_methW ?_
      walk_at "rd"
      refine ⟨a, dx, _, rfl, ha2, rfl, ?_⟩
      walk_at "rd"
      refine ⟨rfl, ?_⟩
      have okD : (⟨q.z, q.l, q.t, List.replicate (q.t - 1).toNat 0, none, q.b, q.g⟩ : Pol).ok := ⟨ok.nm, ok.nl, ok.l1, ok.l2, ok.t1, ok.t2, (fun i h => by cases h), (fun _ => ⟨(by show ((List.replicate (q.t - 1).toNat (0 : Int)).length : Int) = q.t - 1; rw [List.length_replicate]; omega), fun i h => by rw [List.eq_of_mem_replicate h]; decide⟩), ok.g1⟩
      refine ch_ok (q' := ⟨q.z, q.l, q.t, List.replicate (q.t - 1).toNat 0, none, q.b, q.g⟩) (p' := .non) (ga' := ga) ha2 rfl (by decide) (by unfold base6; rw [if_pos (by decide)]; rfl) okD rfl tu2.g (.inl ⟨rfl, fun _ => rfl⟩) fun x2 H3 _ S3 po => ?_
      obtain ⟨dx3, pa3, ga3, hx3, tu3⟩ := po
      walk_at "rd"
      refine ⟨x2, dx3, _, pa3, ga3, rfl, hx3, fun r3 H4 _ S4 hr4 => ?_⟩
      walk_at "rd"
      refine repr_go (.lst (SqL.of hr4) (dp_pol (tu3.ext S4))) (good_pol okD).list (by decide) (by decide) ?_
      have S34 := Same.trans S3 S4
      have hs5' : H4 s5 = some (.lst (Pol.vs ⟨q.z, q.l, q.t, List.replicate (q.t - 1).toNat 0, none, q.b, q.g⟩ pt ga)) := S34 _ _ hs5
      have tu22 : Tups K H4 ⟨q.z, q.l, q.t, List.replicate (q.t - 1).toNat 0, none, q.b, q.g⟩ pt ga := ⟨TupV.ext S34 hpt22, TupV.ext S34 tu2.g⟩
      walk_at "rd"
      refine repr_go (.lst (SqL.of hs5') (dp_pol tu22)) (good_pol okD).list (by decide) (by decide) ?_
      walk_at "rd"
      rw [decide_eq_true (Eq.refl _)]
      show (if false = true then _ else _)
      walk_at "rd"
      have S2x := Same.trans S1x S34
      have ha3 := S2x _ _ ha
      have hl3 := S2x _ _ hl
      have tu4 := tu.ext S2x
      clear S34 S3 S4 hs5' tu22 hpt22 hr4 hx3 tu3 hs5
      -- other tries
      refine g_methW ?_
      walk_at "rd"
      refine ⟨a, dx, _, rfl, ha3, rfl, ?_⟩
      walk_at "rd"
      refine ⟨rfl, ?_⟩
      have okE : (⟨q.z, q.l, 3, [], some i, q.b, q.g⟩ : Pol).ok := ⟨ok.nm, ok.nl, ok.l1, ok.l2, (by show (1 : Int) ≤ 3; decide), (by show (3 : Int) ≤ 3; decide), (fun j h => by injection h with h; subst h; exact ⟨by show (2 : Int) ≤ 3; decide, i1, i2, rfl⟩), (fun h => by cases h), ok.g1⟩
      refine ch_ok (q' := ⟨q.z, q.l, 3, [], some i, q.b, q.g⟩) (p' := .non) (ga' := ga) ha3 rfl (by decide) (by unfold base6; rw [if_pos (by decide), hi]; rfl) okE rfl tu4.g (.inl ⟨rfl, (fun h => by cases h)⟩) fun x3 H5 _ S5 po => ?_
      obtain ⟨dx5, pa5, ga5, hx5, tu5⟩ := po
      walk_at "rd"
      refine ⟨x3, dx5, _, rfl, hx5, x3, dx5, _, _, rfl, hx5, lk5, ?_⟩
      walk_at "rd"
      refine g_ixL (SqL.of (S5 _ _ hl3)) (v := .int i) (atI_nat (j := 4) (by show some (eV q.e) = some (V.int i); rw [hi]; rfl)) ?_
      show rNe (.int i) (.int i) _ _
      walk_at "rd"
      rw [decide_eq_true (Eq.refl _)]
      show (if false = true then _ else _)
      walk_at "rd"
      have S3x := Same.trans S2x S5
      have ha4 := S3x _ _ ha
      have hl4 := S3x _ _ hl
      have tu6 := tu.ext S3x
      clear S1x S2x S5 hx5 tu5
      -- one try: refused
      refine ⟨tabs.ext S3x, fun H9 X9 tabs9 => ?_⟩
      have ha9 := X9 _ _ ha4 (fun _ k => by cases k)
      have hl9 := X9 _ _ hl4 (fun _ k => by cases k)
      have tu9 := extN_tups X9 tu6
      refine ⟨fun cls d H' => cls = .ref CP ∧ ∃ dd, d = some dd ∧ H' dd = some (.xd [("field", .str "early")]) ∧ Same H9 H', ?_, fun cls d H10 ⟨e1, dd, e2, e3, S10⟩ => ⟨e1, dd, _, _, e2, e3, rfl, ?_⟩⟩
      · refine g_methW ?_
        walk_at "rd"
        refine ⟨a, dx, _, rfl, ha9, rfl, ?_⟩
        walk_at "rd"
        refine ⟨rfl, ?_⟩
        exact ch_bad (l := .int q.l) (t := .int 1) (p := .non) (e := .int i) (y := .bl q.b) (g := .ref ga) (pb := false) (gb := true) (wd := "early") ha9 rfl (by decide) (by unfold base6; rw [if_pos (by decide), hi]; rfl) ok (.int _) (.int _) (.int _) (.bl _)
          (fun j _ => .inl ⟨_, .non, by decide, rfl⟩) (.inr ⟨ga, _, rfl, tu9.g, typed_en, en_len, (endOk_ok ok.g1).symm⟩) (wf_early ok.l1 ok.l2) (fun d H' S' hd => ⟨rfl, d, rfl, hd, S'⟩)
      walk_at "rd"
      rw [decide_eq_true (Eq.refl _)]
      show (if false = true then _ else _)
      walk_at "rd"
      -- pauses beside an early one: refused
      refine ⟨tabs9.ext S10, fun H11 X11 tabs11 => ?_⟩
      have ha11 := X11 _ _ (S10 _ _ ha9) (fun _ k => by cases k)
      have hl11 := X11 _ _ (S10 _ _ hl9) (fun _ k => by cases k)
      have tu11 := extN_tups X11 (tu9.ext S10)
      have XF : LamX.ExtN H H11 := ((LamX.ExtN.of S3x).trans (X9.trans (LamX.ExtN.of S10))).trans X11
      refine ⟨fun cls d H' => cls = .ref CP ∧ ∃ dd, d = some dd ∧ H' dd = some (.xd [("field", .str "pauses")]) ∧ Same H11 H', ?_, fun cls d H12 ⟨e1, dd, e2, e3, S12⟩ => ⟨e1, dd, _, _, e2, e3, rfl, ?_⟩⟩
      · refine g_methW ?_
        walk_at "rd"
        refine ⟨a, dx, _, rfl, ha11, rfl, ?_⟩
        walk_at "rd"
        refine tup_go ?hl fun z2 H13 _ S13 hz2 => ?_
        case hl => exact Nat.le_of_ble_eq_true rfl
        walk_at "rd"
        refine g_ixL (SqL.of (S13 _ _ hl11)) (v := .int q.t) (atI_nat (j := 2) rfl) ?_
        walk_at "rd"
        refine rep_go ⟨.tup hz2, SqT.of hz2⟩ (by omega) (by have := ok.t2; omega) fun pt H14 S14 hpt => ?_
        walk_at "rd"
        refine ⟨rfl, ?_⟩
        have S1314 := Same.trans S13 S14
        exact ch_bad (l := .int q.l) (t := .int q.t) (p := .ref pt) (e := .int i) (y := .bl q.b) (g := .ref ga) (pb := arePz ((List.replicate (q.t - 1).toNat (0 : Int)).map V.int) q.t) (gb := true) (wd := "pauses") (S1314 _ _ ha11) rfl (by decide) (by unfold base6; rw [if_neg (by decide), hi]; rfl) ok (.int _) (.int _) (.int _) (.bl _)
          (fun j hj => .inr ⟨pt, _, rfl, hpt, typed_ints, (by have := ok.t2; rw [List.length_map, List.length_replicate]; omega), (by injection hj with hj; subst hj; rfl)⟩) (.inr ⟨ga, _, rfl, TupV.ext S1314 tu11.g, typed_en, en_len, (endOk_ok ok.g1).symm⟩) (wf_pauses ok.l1 ok.l2 ok.t1 ok.t2) (fun d H' S' hd => ⟨rfl, d, rfl, hd, Same.trans S1314 S'⟩)
      walk_at "rd"
      rw [decide_eq_true (Eq.refl _)]
      exact k _ (XF.trans (LamX.ExtN.of S12)) (tabs11.ext S12)
end
end K2

namespace K2
open PySem PySem.Spec PyProof.Rows L2 Mc Mx
section
variable {P : Program} {w : World} {K : PySem.W.Frag} {mg : Str → Option Value} {base : Heap}
local macro_rules | `(tactic| walk_at "rd1") => `(tactic| first
  | with_reducible refine g_seq ?_
  | with_reducible refine g_asg ?_
  | with_reducible refine g_name ?_
  | with_reducible refine g_c ?_
  | with_reducible refine g_op ?_
  | with_reducible refine g_ifS ?_
  | with_reducible refine g_if ?_
  | with_reducible refine g_test ?_
  | with_reducible refine g_B ?_
  | with_reducible refine g_bl ?_
  | with_reducible refine g_blV ?_
  | with_reducible refine g_not ?_
  | with_reducible refine g_and ?_
  | with_reducible refine g_or ?_
  | with_reducible refine g_notV ?_
  | with_reducible refine g_andV ?_
  | with_reducible refine g_orV ?_
  | with_reducible refine g_ret ?_
  | with_reducible refine g_drop ?_
  | with_reducible refine g_next ?_
  | with_reducible refine g_retN ?_
  | with_reducible refine g_call ?_
  | with_reducible refine g_cb ?_
  | with_reducible refine g_cons ?_
  | with_reducible refine g_nil ?_
  | with_reducible refine g_tup ?_
  | with_reducible refine g_lst ?_
  | with_reducible refine g_prop ?_
  | with_reducible refine g_fld ?_
  | with_reducible refine g_meth ?_
  | with_reducible refine g_chain ?_
  | with_reducible refine g_yes ?_
  | with_reducible refine g_make ?_
  | with_reducible refine g_makeK ?_
  | with_reducible refine g_gsub ?_
  | with_reducible refine g_sfld ?_
  | with_reducible refine g_un ?_
  | with_reducible refine g_bm ?_
  | with_reducible refine g_iteT ?_
  | with_reducible refine g_iteF ?_
  | with_reducible refine g_I0 ?_
  | with_reducible refine g_add ?_
  | with_reducible refine g_sub ?_
  | ((with_reducible refine' g_var ?hv ?_); (case hv => rfl))
  | ((with_reducible refine g_eq ?hv ?_); (case hv => rfl))
  | ((with_reducible refine g_ne ?hv ?_); (case hv => rfl)))
local macro_rules | `(tactic| walk_at "rd") => `(tactic| repeat (walk_at "rd1"))

local macro_rules | `(tactic| walk_at "ty") => `(tactic| first | exact .non | exact .bl _ | exact .int _ | exact .str _ | exact .lst (by assumption) | exact .tup (by assumption) | exact .dK (by assumption) | exact .kTup (by assumption) (by assumption))
local macro_rules | `(tactic| walk_at "isiF") => `(tactic| refine g_isi (by walk_at "ty") (b := false) (by decide +kernel) ?_)
local macro_rules | `(tactic| walk_at "isiT") => `(tactic| refine g_isi (by walk_at "ty") (b := true) (by decide +kernel) ?_)

theorem g_irng {ta : TA} {σ : L2.St} {H : Hp} {R : It → Hp → Prop} (q : ta σ H fun vs H1 => ∃ j : Int, vs = [.int j] ∧ -(2 ^ 62) ≤ j ∧ j < 2 ^ 62 ∧ R (Itr 0 j.toNat) H1) : iRng1 ta σ H R := q
theorem extN_seq {H H' : Hp} {a : Addr} {xs : List V} (e : LamX.ExtN H H') (h : SqL K H a xs) : SqL K H' a xs := by
  rcases h with (h | ⟨o, h⟩) | h
  · exact .inl (.inl (e _ _ h (fun _ k => by cases k)))
  · exact .inl (.inr ⟨o, e _ _ h (fun _ k => by cases k)⟩)
  · exact .inr h
theorem tabs_sx {T : List (Addr × Str)} {p : Addr} {H H' : Hp} (pl : PoolAt H p) (e : Sx p H H') (h : LamX.Tabs T H) : LamX.Tabs T H' := fun x hx => by
  obtain ⟨ps, h1, h2, h3⟩ := h x hx
  refine ⟨ps, e _ _ (pl.not h1 (by intro _ k; cases k)) h1, h2, fun pos cv hc => ?_⟩
  obtain ⟨c, e1, e2⟩ := h3 pos cv hc
  exact ⟨c, e1, e _ _ (pl.not e2 (by intro _ k; cases k)) e2⟩
theorem wf_lim {l t p e y : V} {pb gb : Bool} (h : btw l 1 20 = false) : wfV l t p e y pb gb = .str "limit" := by
  unfold wfV
  rw [h]
  rfl
theorem wf_try {l t p e y : V} {pb gb : Bool} (h : btw l 1 20 = true) (h' : btw t 1 3 = false) : wfV l t p e y pb gb = .str "tries" := by
  unfold wfV
  rw [h, h']
  rfl
theorem p0_seq {H : Hp} {q : Pol} {pa : Addr} (ok : q.ok) (tp : TupV K H pa (q.ps.map V.int)) : ∃ pb, (∀ j, V.int q.t = .int j → SeqR K H (if eV q.e = .non then .ref pa else .non) (fun xs => arePz xs j) pb) ∧ ((if eV q.e = V.non then V.ref pa else V.non) = .non ∨ (q.e = none ∧ pb = true)) := by
  by_cases he : q.e = none
  · refine ⟨true, fun j hj => ?_, .inr ⟨he, rfl⟩⟩
    rw [if_pos (eV_non.mpr he)]
    injection hj with hj
    subst hj
    obtain ⟨hl, hb⟩ := ok.e0 he
    refine .inr ⟨pa, _, rfl, tp, typed_ints, ?_, ?_⟩
    · rw [List.length_map]
      have := ok.t2
      omega
    · show true = (decide (V.int (((q.ps.map V.int).length : Nat) : Int) = V.int (q.t - 1)) && (q.ps.map V.int).all fun x => btw x 0 8)
      rw [all_btw hb, List.length_map, hl]
      simp
  · refine ⟨false, fun j _ => .inl ⟨"NoneType", ?_, by decide, rfl⟩, .inl (if_neg (fun z => he (eV_non.mp z)))⟩
    rw [if_neg (fun z => he (eV_non.mp z))]
    exact .non
theorem te_of {H : Hp} {e : Option Int} : ∃ n, Mc.TyQ K H (eV e) n := by
  cases e with
  | none => exact ⟨_, .non⟩
  | some i => exact ⟨_, .int i⟩
theorem wf_gen {q : Pol} {p y : V} {pb gb : Bool} (ok : q.ok) (hp : p = .non ∨ (q.e = none ∧ pb = true)) : wfV (.int q.l) (.int q.t) p (eV q.e) y pb gb = if isB y then (if gb then .non else .str "ending") else .str "lossy" := by
  unfold wfV
  rw [btw_i ok.l1 ok.l2, btw_i ok.t1 ok.t2]
  have a1 : (!decide (p = .non) && !(decide (eV q.e = .non) && pb)) = false := by
    rcases hp with rfl | ⟨he, rfl⟩
    · rw [decide_eq_true (Eq.refl _)]; rfl
    · rw [decide_eq_true (eV_non.mpr he)]; simp
  have a2 : (!decide (eV q.e = .non) && !(gt1 (.int q.t) && btw (eV q.e) 1 20)) = false := by
    cases he : q.e with
    | none => rw [decide_eq_true (eV_non.mpr rfl)]; rfl
    | some i =>
      obtain ⟨t2, i1, i2, _⟩ := ok.e1 i he
      have g1 : gt1 (.int q.t) = true := decide_eq_true (by omega)
      rw [g1, show btw (eV (some i)) 1 20 = true from btw_i i1 i2]
      simp
  rw [a1, a2]
  rfl
def spLaw (K : PySem.W.Frag) (T : List (Addr × Str)) : Sp := fun vs H Q _ => ∃ (a : Addr) (ns : List Int), vs = [.ref a] ∧ SqL K H a (ns.map V.int) ∧ ns.length ≤ 63 ∧ LamX.Tabs T H ∧ ∀ H', Q (.bl true) H'
theorem ok_law {TT : List (Addr × Str)} {C CN CP g fc c Pt f : Addr} {fdT fd : FuncData} (T : Txt K mg) (R : Mkr P w K mg base TT C CN CP g fc fdT) (F : FunC K "law" "law" s_law f fd (.ref c)) (TBm : LamX.TabB base mg c Pt)
    (mT : (Pt, ("law.<locals>.<lambda>" : Str)) ∈ TT) (uT : ∀ p ∈ TT, p.1 = Pt → p.2 = ("law.<locals>.<lambda>" : Str))
    (c_law_pool : Cal P w K mg base 1 "_law_pool" (spPool K)) (c_law_policy : Cal P w K mg base 8 "_law_policy" (spPolicy K C)) (c_law_pauses_right : Mx.CalG P w K mg base 11 "_law_pauses_right" (spPR K C TT))
    (c_law_fields_of : Cal P w K mg base 3 "_law_fields_of" (spFO C)) (pr_limit : Prp P w K mg base 1 C "limit" (getSp C "_limit")) : FnG P w K mg base CX0 12 f fd ["_law_script"] (spLaw K TT) := by
  have TC := R.tc
  have mch := R.mch
  have DT := R.dt
  have hmT := R.hmT
  have bT := R.bT
  have XP := R.xp
  have nfP := R.nfP
  have gPo := R.gPo
  have xPP := R.xPP
  have w_ := R.w [] (by decide)
  have w_limit := R.w ["limit"] (by decide)
  have w_ending_lossy := R.w ["ending", "lossy"] (by decide)
  have w_name := R.w ["name"] (by decide)
  have w_limit_limits_name := R.w ["limit", "limits", "name"] (by decide)
  have w_tries := R.w ["tries"] (by decide)
  have w_lossy := R.w ["lossy"] (by decide)
  have w_ending := R.w ["ending"] (by decide)
  refine fnG_ofC F sc_law (fun vs H Q E h => ?_) (fun A outer s H vs Q E hgA hr h => ?_)
  · obtain ⟨a, ns, rfl, _⟩ := h
    rfl
  · obtain ⟨a, ns, rfl, hS, hlen, tabs, k⟩ := h
    have hg : (A.deeper (envOfC "law" (defScope s_law) s.heap.objs.size f (.ref c))).guards = some [] := hgA
    have hu : (A.deeper (envOfC "law" (defScope s_law) s.heap.objs.size f (.ref c))).units + 64 < cLine := hr.units
    have hrW : Room 8 (A.deeper (envOfC "law" (defScope s_law) s.heap.objs.size f (.ref c))) := hr.mono (by decide)
    have hrT : Room 10 (A.deeper (envOfC "law" (defScope s_law) s.heap.objs.size f (.ref c))) := hr.mono (by decide)
    refine ⟨_, (pss_cons (ps_for PassesOwn.never rfl (pi_range1 (by rfl) T.n_range (pa_cons (pe_callB (call_max2 rfl) (by rfl) T.n_max (by decide +kernel) (pa_cons pe_int (pa_cons (pe_callB (call_min2 rfl) (by rfl) T.n_min (by decide +kernel) (pa_cons (pe_callB call_len_seq (by rfl) T.n_len (by decide +kernel) (pa_cons (pv 0) pa_nil)) (pa_cons pe_int pa_nil))) pa_nil))) pa_nil)) (pg_name (i := 1) sc_law.nd rfl (Or.inl rfl)) (pss_cons (ps_set (i := 2) sc_law.nd rfl (Or.inl rfl) (pe_f c_law_pool hr (by decide) (by rfl) (pa_cons (pv 0) (pa_cons (pv 1) pa_nil))))
      (pss_cons (ps_set (i := 3) sc_law.nd rfl (Or.inr rfl) (pe_f c_law_policy hr (by decide) (by rfl) (pa_cons (pv 2) (pa_cons pe_str (pa_cons pe_int pa_nil)))))
      (pss_cons (ps_set (i := 4) sc_law.nd rfl (Or.inl rfl) (pe_f c_law_fields_of hr (by decide) (by rfl) (pa_cons (pv 3) pa_nil)))
      (pss_cons (ps_if (PW.pt (pw_or (pt_cmpR (op_neD hu) (pe_f c_law_fields_of hr (by decide) (by rfl) (pa_cons (pe_methW (pv 3) TC.cl mch w_ hrW L2.passL pk_nil) pa_nil)) (pv 4) (nomark _)) (pw_or1 (pt_cmpR op_ne (pe_pr pr_limit hr (by decide) (pe_methW (pv 3) TC.cl mch w_limit hrW L2.passL (pk_cons pe_int pk_nil))) pe_int (nomark _))))) (pss_one (ps_ret pe_bl)) pss_nil)
      (pss_cons (ps_set (i := 5) sc_law.nd rfl (Or.inl rfl) (pe_op op_cat (pe_slice sl_list (pv 4) po_none (po_some pe_int)) (pe_lst (pa_cons (pe_not (pe_ix ix_list (pv 4) pe_int (fun _ _ => rfl))) (pa_cons (pe_tup (pa_cons pe_str (pa_cons pe_int pa_nil))) pa_nil)))))
      (pss_cons (ps_if (pt_cmpR op_ne (pe_callB (call_repr hg hu) (by rfl) T.n_repr (by decide +kernel) (pa_cons (pe_f c_law_fields_of hr (by decide) (by rfl) (pa_cons (pe_methW (pv 3) TC.cl mch w_ending_lossy hrW L2.passL (pk_cons (pe_tup (pa_cons pe_str (pa_cons pe_int pa_nil))) (pk_cons (pe_not (pe_ix ix_list (pv 4) pe_int (fun _ _ => rfl))) pk_nil))) pa_nil)) pa_nil)) (pe_callB (call_repr hg hu) (by rfl) T.n_repr (by decide +kernel) (pa_cons (pv 5) pa_nil)) (nomark _)) (pss_one (ps_ret pe_bl)) pss_nil)
      (pss_cons (ps_if (pt_not (pt_val (pe_fG c_law_pauses_right hg hr (by decide) (by rfl) (pa_cons (pv 3) (pa_cons (pv 4) pa_nil))))) (pss_one (ps_ret pe_bl)) pss_nil)
      (pss_cons (ps_if (pt_cmpR op_ne (pe_told DT hmT bT XP nfP gPo xPP TBm rfl mT uT hrT rfl (LamX.lamS_by (by rfl)) rfl (fun _ _ _ _ _ => rfl) (fun A outer s H E f c' hrl => pe_methW (pv 3) TC.cl mch w_name hrl pass_lam (pk_cons pe_str pk_nil))) pe_str (nomark _)) (pss_one (ps_ret pe_bl)) pss_nil)
      (pss_cons (ps_if (pt_cmpR op_ne (pe_told DT hmT bT XP nfP gPo xPP TBm rfl mT uT hrT rfl (LamX.lamS_by (by rfl)) rfl (fun _ _ _ _ _ => rfl) (fun A outer s H E f c' hrl => pe_methW (pv 3) TC.cl mch w_limit_limits_name hrl pass_lam (pk_cons pe_int (pk_cons pe_int (pk_cons pe_str pk_nil))))) pe_str (nomark _)) (pss_one (ps_ret pe_bl)) pss_nil)
      (pss_cons (ps_if (pt_cmpR op_ne (pe_told DT hmT bT XP nfP gPo xPP TBm rfl mT uT hrT rfl (LamX.lamS_by (by rfl)) rfl (fun _ _ _ _ _ => rfl) (fun A outer s H E f c' hrl => pe_methW (pv 3) TC.cl mch w_limit hrl pass_lam (pk_cons pe_int pk_nil))) pe_str (nomark _)) (pss_one (ps_ret pe_bl)) pss_nil)
      (pss_cons (ps_if (pt_cmpR op_ne (pe_told DT hmT bT XP nfP gPo xPP TBm rfl mT uT hrT rfl (LamX.lamS_by (by rfl)) rfl (fun _ _ _ _ _ => rfl) (fun A outer s H E f c' hrl => pe_methW (pv 3) TC.cl mch w_tries hrl pass_lam (pk_cons pe_int pk_nil))) pe_str (nomark _)) (pss_one (ps_ret pe_bl)) pss_nil)
      (pss_cons (ps_if (pt_cmpR op_ne (pe_told DT hmT bT XP nfP gPo xPP TBm rfl mT uT hrT rfl (LamX.lamS_by (by rfl)) rfl (fun _ _ _ _ _ => rfl) (fun A outer s H E f c' hrl => pe_methW (pv 3) TC.cl mch w_lossy hrl pass_lam (pk_cons pe_int pk_nil))) pe_str (nomark _)) (pss_one (ps_ret pe_bl)) pss_nil)
      (pss_one (ps_if (PW.pt (pw_or (pt_cmpR op_ne (pe_told DT hmT bT XP nfP gPo xPP TBm rfl mT uT hrT rfl (LamX.lamS_by (by rfl)) rfl (fun _ _ _ _ _ => rfl) (fun A outer s H E f c' hrl => pe_methW (pv 3) TC.cl mch w_ending hrl pass_lam (pk_cons (pe_tup pa_nil) pk_nil))) pe_str (nomark _)) (pw_or1 (pt_cmpR (op_neD hu) (pe_f c_law_fields_of hr (by decide) (by rfl) (pa_cons (pv 3) pa_nil)) (pv 4) (nomark _))))) (pss_one (ps_ret pe_bl)) pss_nil)))))))))))))))
      (pss_one (ps_ret pe_bl))), ?_⟩
    walk_at "rd"
    refine g_for (g_irng ?_)
    walk_at "rd"
    refine ⟨a, _, rfl, .inl hS, ?_⟩
    walk_at "rd"
    refine ⟨_, _, rfl, ?_⟩
    walk_at "rd"
    refine ⟨_, _, rfl, ?_⟩
    walk_at "rd"
    obtain ⟨j, ej, j0, j8⟩ : ∃ j : Int, (if (if (8 : Int) < ((ns.map V.int).length : Int) then 8 else ((ns.map V.int).length : Int)) > 1 then (if (8 : Int) < ((ns.map V.int).length : Int) then 8 else ((ns.map V.int).length : Int)) else 1) = j ∧ 0 ≤ j ∧ j ≤ 8 := by
      refine ⟨_, rfl, ?_, ?_⟩ <;> (split <;> split <;> omega)
    rw [ej]
    refine ⟨j, rfl, by omega, by omega, ?_⟩
    unfold ForW
    refine for_range (lo := 0) (n := j.toNat) (fun i σ H' => ∃ o1 o2 o3 o4 o5 : Option V, σ = [some (.ref a), o1, o2, o3, o4, o5] ∧ LamX.ExtN H H' ∧ LamX.Tabs TT H') ⟨_, _, _, _, _, rfl, LamX.ExtN.refl _, tabs⟩ ?_ ?_
    · rintro kk σ H1 hi ⟨o1, o2, o3, o4, o5, rfl, X1, tabs1⟩
      walk_at "rd"
      refine ⟨a, 0 + (kk : Int), ns, rfl, extN_seq X1 hS, by omega, by omega, fun p H2 p0 S2 pl2 => ?_⟩
      walk_at "rd"
      refine ⟨p, "a", 20, rfl, pl2, by decide +kernel, by decide +kernel, by decide, by decide, fun b q H3 ok sx3 pl3 b0 po => ?_⟩
      obtain ⟨dx, pa, ga, hb3, tu3⟩ := po
      walk_at "rd"
      refine ⟨b, dx, q, pa, ga, rfl, hb3, fun l H4 nl S4 hl => ?_⟩
      have S14 : Same H1 H4 := fun x o e => S4 _ _ (sx3 _ _ (ne_of_none e p0) (S2 _ _ e))
      have hb := S4 _ _ hb3
      have tu := tu3.ext S4
      have X4 : LamX.ExtN H H4 := X1.trans (LamX.ExtN.of S14)
      have tabs4 := tabs1.ext S14
      clear S14 S4 sx3 S2 pl2 pl3 p0 b0 hb3 tu3 nl X1 tabs1 hi
      have gq := good_pol ok
      have eqq : PyData.eqv (.list q.ds) (.list q.ds) = true := PySem.SeqAt.eqv_refl _ gq.list.cl
      walk_at "rd"
      -- as it is
      refine g_methW ?_
      walk_at "rd"
      refine ⟨b, dx, _, rfl, hb, rfl, ?_⟩
      walk_at "rd"
      refine ⟨rfl, ?_⟩
      refine ch_ok (q' := q) (p' := if eV q.e = .non then .ref pa else .non) (ga' := ga) hb rfl (by decide) (by unfold base6; rw [if_neg (by decide)]; rfl) ok rfl tu.g ?hp0 fun x H5 _ S5 po => ?_
      case hp0 =>
        by_cases he : q.e = none
        · exact .inr ⟨he, pa, if_pos (eV_non.mpr he), tu.p⟩
        · exact .inl ⟨if_neg (fun z => he (eV_non.mp z)), fun z => absurd z he⟩
      obtain ⟨dx5, pa5, ga5, hx5, tu5⟩ := po
      walk_at "rd"
      refine ⟨x, dx5, q, pa5, ga5, rfl, hx5, fun r6 H6 _ S6 hr6 => ?_⟩
      walk_at "rd"
      have S46 := Same.trans S5 S6
      refine ⟨.list q.ds, .list q.ds, .lst (SqL.of hr6) (dp_pol (tu5.ext S6)), .lst (SqL.of (S46 _ _ hl)) (dp_pol (tu.ext S46)), gq.list.shaped (by decide), gq.list.shaped (by decide), ?_⟩
      rw [eqq]
      refine ⟨_, rfl, ?_⟩
      show (if false = true then _ else _)
      walk_at "rd"
      have hb2 := S46 _ _ hb
      have hl2 := S46 _ _ hl
      have tu2 := tu.ext S46
      have X6 := X4.trans (LamX.ExtN.of S46)
      have tabs6 := tabs4.ext S46
      clear S46 S5 S6 hr6 hx5 tu5 X4 tabs4 hb hl tu
      -- another limit
      refine g_methW ?_
      walk_at "rd"
      refine ⟨b, dx, _, rfl, hb2, rfl, ?_⟩
      walk_at "rd"
      refine ⟨rfl, ?_⟩
      have ok7 : (⟨q.z, 7, q.t, q.ps, q.e, q.b, q.g⟩ : Pol).ok := ⟨ok.nm, ok.nl, (by show (1 : Int) ≤ 7; decide), (by show (7 : Int) ≤ 20; decide), ok.t1, ok.t2, ok.e1, ok.e0, ok.g1⟩
      refine ch_ok (q' := ⟨q.z, 7, q.t, q.ps, q.e, q.b, q.g⟩) (p' := if eV q.e = .non then .ref pa else .non) (ga' := ga) hb2 rfl (by decide) (by unfold base6; rw [if_neg (by decide)]; rfl) ok7 rfl tu2.g ?hp0 fun x7 H7 _ S7 po => ?_
      case hp0 =>
        by_cases he : q.e = none
        · exact .inr ⟨he, pa, if_pos (eV_non.mpr he), tu2.p⟩
        · exact .inl ⟨if_neg (fun z => he (eV_non.mp z)), fun z => absurd z he⟩
      obtain ⟨dx7, pa7, ga7, hx7, tu7⟩ := po
      walk_at "rd"
      refine ⟨x7, dx7, _, rfl, hx7, x7, dx7, _, _, rfl, hx7, lk2, ?_⟩
      walk_at "rd"
      rw [decide_eq_true (Eq.refl _)]
      show (if false = true then _ else _)
      walk_at "rd"
      -- what is due with another ending
      refine g_sl ?_
      walk_at "rd"
      refine g_nopart (g_part ?_)
      walk_at "rd"
      refine ⟨_, rfl, ?_⟩
      refine sl_go (SqL.of (S7 _ _ hl2)) fun s1 H8 S8 hs1 => ?_
      walk_at "rd"
      refine g_ixL (SqL.of (S8 _ _ (S7 _ _ hl2))) (v := .bl q.b) (atI_nat (j := 5) rfl) ?_
      walk_at "rd"
      refine tup_go ?hl fun gt H9 _ S9 hgt => ?_
      case hl => exact Nat.le_of_ble_eq_true rfl
      walk_at "rd"
      refine lst_go ?hl fun s2 H10 _ S10 hs2 => ?_
      case hl => exact Nat.le_of_ble_eq_true rfl
      walk_at "rd"
      refine cat_go (S10 _ _ (S9 _ _ hs1)) hs2 (Nat.le_of_ble_eq_true rfl) fun s3 H11 S11 hs3 => ?_
      have S611 : Same H6 H11 := Same.trans S7 (Same.trans S8 (Same.trans S9 (Same.trans S10 S11)))
      have hgt11 : TupV K H11 gt (En.stop 3).vs := TupV.ext (Same.trans S10 S11) ⟨.tup hgt, SqT.of hgt⟩
      have hb3 := S611 _ _ hb2
      have hl3 := S611 _ _ hl2
      have tu3 := tu2.ext S611
      have X11 := X6.trans (LamX.ExtN.of S611)
      have tabs11 := tabs6.ext S611
      clear S7 S8 S9 S10 S11 hs1 hs2 hgt hx7 tu7 hb2 hl2 tu2 X6 tabs6
      walk_at "rd"
      -- another ending, the other way of losing
      refine g_methW ?_
      walk_at "rd"
      refine ⟨b, dx, _, rfl, hb3, rfl, ?_⟩
      walk_at "rd"
      refine tup_go ?hl fun gu H12 _ S12 hgu => ?_
      case hl => exact Nat.le_of_ble_eq_true rfl
      walk_at "rd"
      refine g_ixL (SqL.of (S12 _ _ hl3)) (v := .bl q.b) (atI_nat (j := 5) rfl) ?_
      walk_at "rd"
      refine ⟨rfl, ?_⟩
      have ok8 : (⟨q.z, q.l, q.t, q.ps, q.e, !q.b, .stop 3⟩ : Pol).ok := ⟨ok.nm, ok.nl, ok.l1, ok.l2, ok.t1, ok.t2, ok.e1, ok.e0, ⟨by decide, by decide⟩⟩
      refine ch_ok (q' := ⟨q.z, q.l, q.t, q.ps, q.e, !q.b, .stop 3⟩) (p' := if eV q.e = .non then .ref pa else .non) (ga' := gu) (S12 _ _ hb3) rfl (by decide) (by unfold base6; rw [if_neg (by decide)]; rfl) ok8 rfl ⟨.tup hgu, SqT.of hgu⟩ ?hp0 fun x8 H13 _ S13 po => ?_
      case hp0 =>
        by_cases he : q.e = none
        · exact .inr ⟨he, pa, if_pos (eV_non.mpr he), TupV.ext S12 tu3.p⟩
        · exact .inl ⟨if_neg (fun z => he (eV_non.mp z)), fun z => absurd z he⟩
      obtain ⟨dx8, pa8, ga8, hx8, tu8⟩ := po
      walk_at "rd"
      refine ⟨x8, dx8, _, pa8, ga8, rfl, hx8, fun r14 H14 _ S14 hr14 => ?_⟩
      walk_at "rd"
      refine repr_go (.lst (SqL.of hr14) (dp_pol (tu8.ext S14))) (good_pol ok8).list (by decide) (by decide) ?_
      walk_at "rd"
      have S1114 := Same.trans S12 (Same.trans S13 S14)
      have hs3' : H14 s3 = some (.lst (Pol.vs ⟨q.z, q.l, q.t, q.ps, q.e, !q.b, .stop 3⟩ pa gt)) := S1114 _ _ hs3
      have tu22 : Tups K H14 ⟨q.z, q.l, q.t, q.ps, q.e, !q.b, .stop 3⟩ pa gt := ⟨TupV.ext S1114 tu3.p, TupV.ext S1114 hgt11⟩
      refine repr_go (.lst (SqL.of hs3') (dp_pol tu22)) (good_pol ok8).list (by decide) (by decide) ?_
      walk_at "rd"
      rw [decide_eq_true (Eq.refl _)]
      show (if false = true then _ else _)
      walk_at "rd"
      have hb4 := S1114 _ _ hb3
      have hl4 := S1114 _ _ hl3
      have tu4 := tu3.ext S1114
      have X14 := X11.trans (LamX.ExtN.of S1114)
      have tabs14 := tabs11.ext S1114
      clear S1114 S12 S13 S14 hs3' tu22 hr14 hx8 tu8 hgu hgt11 hb3 hl3 tu3 X11 tabs11 hs3
      -- the pauses
      refine ⟨b, l, dx, q, pa, ga, rfl, ok, hb4, hl4, tu4, tabs14, fun H15 X15 tabs15 => ?_⟩
      walk_at "rd"
      have hbN := X15 _ _ hb4 (fun _ k => by cases k)
      have hlN := X15 _ _ hl4 (fun _ k => by cases k)
      have tuN := extN_tups X15 tu4
      have XN := X14.trans X15
      have tabsN := tabs15
      clear hb4 hl4 tu4 X14 X15 tabs14 tabs15
      show (if false = true then _ else _)
      walk_at "rd"
      refine ⟨tabsN, fun H9 X9 tabs9 => ?_⟩
      have hb9 := X9 _ _ hbN (fun _ k => by cases k)
      have hl9 := X9 _ _ hlN (fun _ k => by cases k)
      have tu9 := extN_tups X9 tuN
      have XX := XN.trans X9
      clear hbN hlN tuN XN tabsN X9
      refine ⟨fun cls d H' => cls = .ref CP ∧ ∃ dd, d = some dd ∧ H' dd = some (.xd [("field", .str "name")]) ∧ Same H9 H', ?_, fun cls d H10 ⟨e1, dd, e2, e3, S10⟩ => ⟨e1, dd, _, _, e2, e3, rfl, ?_⟩⟩
      · refine g_methW ?_
        walk_at "rd"
        refine ⟨b, dx, _, rfl, hb9, rfl, ?_⟩
        walk_at "rd"
        refine ⟨rfl, ?_⟩
        exact ch_word (i := 0) (wd := "name") hb9 rfl rfl (by decide) (fun j x hj _ => absurd hj (Nat.not_lt_zero j)) (fun d H' S' hd => ⟨rfl, d, rfl, hd, S'⟩)
      walk_at "rd"
      rw [decide_eq_true (Eq.refl _)]
      show (if false = true then _ else _)
      walk_at "rd"
      have hbN := S10 _ _ hb9
      have hlN := S10 _ _ hl9
      have tuN := tu9.ext S10
      have XN := XX.trans (LamX.ExtN.of S10)
      have tabsN := tabs9.ext S10
      clear hb9 hl9 tu9 XX tabs9 S10 e1 e2 e3
      refine ⟨tabsN, fun H9 X9 tabs9 => ?_⟩
      have hb9 := X9 _ _ hbN (fun _ k => by cases k)
      have hl9 := X9 _ _ hlN (fun _ k => by cases k)
      have tu9 := extN_tups X9 tuN
      have XX := XN.trans X9
      clear hbN hlN tuN XN tabsN X9
      refine ⟨fun cls d H' => cls = .ref CP ∧ ∃ dd, d = some dd ∧ H' dd = some (.xd [("field", .str "limits")]) ∧ Same H9 H', ?_, fun cls d H10 ⟨e1, dd, e2, e3, S10⟩ => ⟨e1, dd, _, _, e2, e3, rfl, ?_⟩⟩
      · refine g_methW ?_
        walk_at "rd"
        refine ⟨b, dx, _, rfl, hb9, rfl, ?_⟩
        walk_at "rd"
        refine ⟨rfl, ?_⟩
        exact ch_word (i := 1) (wd := "limits") hb9 rfl rfl (by decide) (fun j x hj hx => by (obtain rfl : j = 0 := (by omega)); (obtain rfl := Option.some.inj hx); decide) (fun d H' S' hd => ⟨rfl, d, rfl, hd, S'⟩)
      walk_at "rd"
      rw [decide_eq_true (Eq.refl _)]
      show (if false = true then _ else _)
      walk_at "rd"
      have hbN := S10 _ _ hb9
      have hlN := S10 _ _ hl9
      have tuN := tu9.ext S10
      have XN := XX.trans (LamX.ExtN.of S10)
      have tabsN := tabs9.ext S10
      clear hb9 hl9 tu9 XX tabs9 S10 e1 e2 e3
      refine ⟨tabsN, fun H9 X9 tabs9 => ?_⟩
      have hb9 := X9 _ _ hbN (fun _ k => by cases k)
      have hl9 := X9 _ _ hlN (fun _ k => by cases k)
      have tu9 := extN_tups X9 tuN
      have XX := XN.trans X9
      clear hbN hlN tuN XN tabsN X9
      refine ⟨fun cls d H' => cls = .ref CP ∧ ∃ dd, d = some dd ∧ H' dd = some (.xd [("field", .str "limit")]) ∧ Same H9 H', ?_, fun cls d H10 ⟨e1, dd, e2, e3, S10⟩ => ⟨e1, dd, _, _, e2, e3, rfl, ?_⟩⟩
      · refine g_methW ?_
        walk_at "rd"
        refine ⟨b, dx, _, rfl, hb9, rfl, ?_⟩
        walk_at "rd"
        refine ⟨rfl, ?_⟩
        obtain ⟨pb, hp, hpp⟩ := p0_seq ok tu9.p
        obtain ⟨ne, te⟩ := te_of (K := K) (H := H9) (e := q.e)
        exact ch_bad (l := .int 0) (t := .int q.t) (p := if eV q.e = .non then .ref pa else .non) (e := eV q.e) (y := .bl q.b) (g := .ref ga) (pb := pb) (gb := true) (wd := "limit") hb9 rfl (by decide) (by unfold base6; rw [if_neg (by decide)]; rfl) ok (.int _) (.int _) te (.bl _) hp (.inr ⟨ga, _, rfl, tu9.g, typed_en, en_len, (endOk_ok ok.g1).symm⟩) (wf_lim rfl) (fun d H' S' hd => ⟨rfl, d, rfl, hd, S'⟩)
      walk_at "rd"
      rw [decide_eq_true (Eq.refl _)]
      show (if false = true then _ else _)
      walk_at "rd"
      have hbN := S10 _ _ hb9
      have hlN := S10 _ _ hl9
      have tuN := tu9.ext S10
      have XN := XX.trans (LamX.ExtN.of S10)
      have tabsN := tabs9.ext S10
      clear hb9 hl9 tu9 XX tabs9 S10 e1 e2 e3
      refine ⟨tabsN, fun H9 X9 tabs9 => ?_⟩
      have hb9 := X9 _ _ hbN (fun _ k => by cases k)
      have hl9 := X9 _ _ hlN (fun _ k => by cases k)
      have tu9 := extN_tups X9 tuN
      have XX := XN.trans X9
      clear hbN hlN tuN XN tabsN X9
      refine ⟨fun cls d H' => cls = .ref CP ∧ ∃ dd, d = some dd ∧ H' dd = some (.xd [("field", .str "tries")]) ∧ Same H9 H', ?_, fun cls d H10 ⟨e1, dd, e2, e3, S10⟩ => ⟨e1, dd, _, _, e2, e3, rfl, ?_⟩⟩
      · refine g_methW ?_
        walk_at "rd"
        refine ⟨b, dx, _, rfl, hb9, rfl, ?_⟩
        walk_at "rd"
        refine ⟨rfl, ?_⟩
        obtain ⟨pb, hp, hpp⟩ := p0_seq ok tu9.p
        obtain ⟨ne, te⟩ := te_of (K := K) (H := H9) (e := q.e)
        exact ch_bad (l := .int q.l) (t := .int 4) (p := .non) (e := eV q.e) (y := .bl q.b) (g := .ref ga) (pb := false) (gb := true) (wd := "tries") hb9 rfl (by decide) (by unfold base6; rw [if_pos (by decide)]; rfl) ok (.int _) (.int _) te (.bl _) (fun j _ => .inl ⟨_, .non, by decide, rfl⟩) (.inr ⟨ga, _, rfl, tu9.g, typed_en, en_len, (endOk_ok ok.g1).symm⟩) (wf_try (btw_i ok.l1 ok.l2) rfl) (fun d H' S' hd => ⟨rfl, d, rfl, hd, S'⟩)
      walk_at "rd"
      rw [decide_eq_true (Eq.refl _)]
      show (if false = true then _ else _)
      walk_at "rd"
      have hbN := S10 _ _ hb9
      have hlN := S10 _ _ hl9
      have tuN := tu9.ext S10
      have XN := XX.trans (LamX.ExtN.of S10)
      have tabsN := tabs9.ext S10
      clear hb9 hl9 tu9 XX tabs9 S10 e1 e2 e3
      refine ⟨tabsN, fun H9 X9 tabs9 => ?_⟩
      have hb9 := X9 _ _ hbN (fun _ k => by cases k)
      have hl9 := X9 _ _ hlN (fun _ k => by cases k)
      have tu9 := extN_tups X9 tuN
      have XX := XN.trans X9
      clear hbN hlN tuN XN tabsN X9
      refine ⟨fun cls d H' => cls = .ref CP ∧ ∃ dd, d = some dd ∧ H' dd = some (.xd [("field", .str "lossy")]) ∧ Same H9 H', ?_, fun cls d H10 ⟨e1, dd, e2, e3, S10⟩ => ⟨e1, dd, _, _, e2, e3, rfl, ?_⟩⟩
      · refine g_methW ?_
        walk_at "rd"
        refine ⟨b, dx, _, rfl, hb9, rfl, ?_⟩
        walk_at "rd"
        refine ⟨rfl, ?_⟩
        obtain ⟨pb, hp, hpp⟩ := p0_seq ok tu9.p
        obtain ⟨ne, te⟩ := te_of (K := K) (H := H9) (e := q.e)
        exact ch_bad (l := .int q.l) (t := .int q.t) (p := if eV q.e = .non then .ref pa else .non) (e := eV q.e) (y := .int 1) (g := .ref ga) (pb := pb) (gb := true) (wd := "lossy") hb9 rfl (by decide) (by unfold base6; rw [if_neg (by decide)]; rfl) ok (.int _) (.int _) te (.int _) hp (.inr ⟨ga, _, rfl, tu9.g, typed_en, en_len, (endOk_ok ok.g1).symm⟩) (by rw [wf_gen ok hpp]; rfl) (fun d H' S' hd => ⟨rfl, d, rfl, hd, S'⟩)
      walk_at "rd"
      rw [decide_eq_true (Eq.refl _)]
      show (if false = true then _ else _)
      walk_at "rd"
      have hbN := S10 _ _ hb9
      have hlN := S10 _ _ hl9
      have tuN := tu9.ext S10
      have XN := XX.trans (LamX.ExtN.of S10)
      have tabsN := tabs9.ext S10
      clear hb9 hl9 tu9 XX tabs9 S10 e1 e2 e3
      refine ⟨tabsN, fun H9 X9 tabs9 => ?_⟩
      have hb9 := X9 _ _ hbN (fun _ k => by cases k)
      have hl9 := X9 _ _ hlN (fun _ k => by cases k)
      have tu9 := extN_tups X9 tuN
      have XX := XN.trans X9
      clear hbN hlN tuN XN tabsN X9
      refine ⟨fun cls d H' => cls = .ref CP ∧ ∃ dd, d = some dd ∧ H' dd = some (.xd [("field", .str "ending")]) ∧ Same H9 H', ?_, fun cls d H10 ⟨e1, dd, e2, e3, S10⟩ => ⟨e1, dd, _, _, e2, e3, rfl, ?_⟩⟩
      · refine g_methW ?_
        walk_at "rd"
        refine ⟨b, dx, _, rfl, hb9, rfl, ?_⟩
        walk_at "rd"
        refine tup_go ?hl fun ge H12 _ S12 hge => ?_
        case hl => exact Nat.le_of_ble_eq_true rfl
        walk_at "rd"
        refine ⟨rfl, ?_⟩
        obtain ⟨pb, hp, hpp⟩ := p0_seq ok (TupV.ext S12 tu9.p)
        obtain ⟨ne, te⟩ := te_of (K := K) (H := H12) (e := q.e)
        exact ch_bad (l := .int q.l) (t := .int q.t) (p := if eV q.e = .non then .ref pa else .non) (e := eV q.e) (y := .bl q.b) (g := .ref ge) (pb := pb) (gb := false) (wd := "ending") (S12 _ _ hb9) rfl (by decide) (by unfold base6; rw [if_neg (by decide)]; rfl) ok (.int _) (.int _) te (.bl _) hp (.inr ⟨ge, [], rfl, ⟨.tup hge, SqT.of hge⟩, (fun x hx => by cases hx), by decide, rfl⟩) (by rw [wf_gen ok hpp]; rfl) (fun d H' S' hd => ⟨rfl, d, rfl, hd, Same.trans S12 S'⟩)
      walk_at "rd"
      rw [decide_eq_true (Eq.refl _)]
      show (if false = true then _ else _)
      walk_at "rd"
      have hbN := S10 _ _ hb9
      have hlN := S10 _ _ hl9
      have tuN := tu9.ext S10
      have XN := XX.trans (LamX.ExtN.of S10)
      have tabsN := tabs9.ext S10
      clear hb9 hl9 tu9 XX tabs9 S10 e1 e2 e3
      refine ⟨b, dx, q, pa, ga, rfl, hbN, fun r6 H6 _ S6 hr6 => ?_⟩
      walk_at "rd"
      refine ⟨.list q.ds, .list q.ds, .lst (SqL.of hr6) (dp_pol (tuN.ext S6)), .lst (SqL.of (S6 _ _ hlN)) (dp_pol (tuN.ext S6)), gq.list.shaped (by decide), gq.list.shaped (by decide), ?_⟩
      rw [eqq]
      refine ⟨_, rfl, ?_⟩
      show (if false = true then _ else _)
      walk_at "rd"
      exact ⟨_, _, _, _, _, rfl, XN.trans (LamX.ExtN.of S6), tabsN.ext S6⟩
    · rintro σ H1 ⟨o1, o2, o3, o4, o5, rfl, X1, tabs1⟩
      walk_at "rd"
      exact k _
end
end K2

namespace K2
open PySem PySem.Spec PyProof.Rows L2 Mc Mx
theorem exm_is {K : PySem.W.Frag} {A B : Addr} {b : Bool} (be : PySem.W.subIn K (.ref B) (.type "BaseException") = some true) (ty : PySem.W.typeIn K (.ref B) = some (.type "type")) (hd : PySem.W.hasDictIn K B = true) (s : PySem.W.subIn K (.ref A) (.ref B) = some b) : PySem.W.exmOne K (.ref A) (.ref B) = some b := by
  obtain ⟨cd, hc, _⟩ := PySem.W.any_some hd
  unfold PySem.W.exmOne
  rw [be]
  show (if ((PySem.W.clsIn K B).isSome && PySem.W.typeIn K (.ref B) == some (.type "type")) = true then PySem.W.subIn K (.ref A) (.ref B) else none) = some b
  rw [hc, ty, s]
  simp
theorem all_mk {l : PySem.W.OpenLaw} {w : World} {K : PySem.W.Frag} {h : Heap} {mg : Str → Option Value} {fa : Addr} {fg0 : Addr} {odg0 ang0 : Option Addr} {slg0 : Array (Option Value)} {ocg0 dcg0 pmg0 cdg0 ctg0 kVg0 : Value} {fg1 : Addr} {odg1 ang1 : Option Addr} {slg1 : Array (Option Value)} {ocg1 dcg1 pmg1 cdg1 ctg1 kVg1 : Value} {fg2 : Addr} {odg2 ang2 : Option Addr} {slg2 : Array (Option Value)} {ocg2 dcg2 pmg2 cdg2 ctg2 kVg2 : Value} {fg3 : Addr} {odg3 ang3 : Option Addr} {slg3 : Array (Option Value)} {ocg3 dcg3 pmg3 cdg3 ctg3 kVg3 : Value} {fg4 : Addr} {odg4 ang4 : Option Addr} {slg4 : Array (Option Value)} {ocg4 dcg4 pmg4 cdg4 ctg4 kVg4 : Value} {fg5 : Addr} {odg5 ang5 : Option Addr} {slg5 : Array (Option Value)} {ocg5 dcg5 pmg5 cdg5 ctg5 kVg5 : Value} {fg6 : Addr} {odg6 ang6 : Option Addr} {slg6 : Array (Option Value)} {ocg6 dcg6 pmg6 cdg6 ctg6 kVg6 : Value} {fg7 : Addr} {odg7 ang7 : Option Addr} {slg7 : Array (Option Value)} {ocg7 dcg7 pmg7 cdg7 ctg7 kVg7 : Value} {fg8 : Addr} {odg8 ang8 : Option Addr} {slg8 : Array (Option Value)} {ocg8 dcg8 pmg8 cdg8 ctg8 kVg8 : Value} {fg9 : Addr} {odg9 ang9 : Option Addr} {slg9 : Array (Option Value)} {ocg9 dcg9 pmg9 cdg9 ctg9 kVg9 : Value} {fg10 : Addr} {odg10 ang10 : Option Addr} {slg10 : Array (Option Value)} {ocg10 dcg10 pmg10 cdg10 ctg10 kVg10 : Value} {fg11 : Addr} {odg11 ang11 : Option Addr} {slg11 : Array (Option Value)} {ocg11 dcg11 pmg11 cdg11 ctg11 kVg11 : Value} {fg12 : Addr} {odg12 ang12 : Option Addr} {slg12 : Array (Option Value)} {ocg12 dcg12 pmg12 cdg12 ctg12 kVg12 : Value} {ts : List Addr} {qL PL : Addr} {qvL : Array Value} {qcL : Value} {qdL : Option Addr} {qsL : Array (Option Value)} {fL : Addr} {odL anL : Option Addr} {slL : Array (Option Value)} {ocL dcL pmL ctL kVL : Value} {qR PR : Addr} {qvR : Array Value} {qcR : Value} {qdR : Option Addr} {qsR : Array (Option Value)} {fR : Addr} {odR anR : Option Addr} {slR : Array (Option Value)} {ocR dcR pmR ctR kVR : Value} {fO : Addr} {odO anO : Option Addr} {slO : Array (Option Value)} {ocO dcO pmO cdO ctO kVO : Value} {tL : Tok} {tML tMT : Tok} {FA : Addr} {tF0 tF1 tF2 tF3 tF4 tF5 : Tok} {fgd : Option Addr} {fgn : Nat} {fgs : Array (Option Value)} {C : Addr} {Dk : Addr} {fI : Addr} {odI anI : Option Addr} {slI : Array (Option Value)} {ocI dcI pmI cdI ctI : Value} {fH : Addr} {odH anH : Option Addr} {slH : Array (Option Value)} {ocH dcH pmH cdH ctH kVH : Value} {go : Addr} {tk1 tk2 : Tok} {gd : Option Addr} {gn : Nat} {gs : Array (Option Value)} {p_name : Addr} {r_name : List Value} {fpname : Addr} {odpname anpname : Option Addr} {slpname : Array (Option Value)} {ocpname dcpname pmpname cdpname ctpname kVpname : Value} {p_limit : Addr} {r_limit : List Value} {fplimit : Addr} {odplimit anplimit : Option Addr} {slplimit : Array (Option Value)} {ocplimit dcplimit pmplimit cdplimit ctplimit kVplimit : Value} {p_tries : Addr} {r_tries : List Value} {fptries : Addr} {odptries anptries : Option Addr} {slptries : Array (Option Value)} {ocptries dcptries pmptries cdptries ctptries kVptries : Value} {p_pauses : Addr} {r_pauses : List Value} {fppauses : Addr} {odppauses anppauses : Option Addr} {slppauses : Array (Option Value)} {ocppauses dcppauses pmppauses cdppauses ctppauses kVppauses : Value} {p_early : Addr} {r_early : List Value} {fpearly : Addr} {odpearly anpearly : Option Addr} {slpearly : Array (Option Value)} {ocpearly dcpearly pmpearly cdpearly ctpearly kVpearly : Value} {p_lossy : Addr} {r_lossy : List Value} {fplossy : Addr} {odplossy anplossy : Option Addr} {slplossy : Array (Option Value)} {ocplossy dcplossy pmplossy cdplossy ctplossy kVplossy : Value} {p_ending : Addr} {r_ending : List Value} {fpending : Addr} {odpending anpending : Option Addr} {slpending : Array (Option Value)} {ocpending dcpending pmpending cdpending ctpending kVpending : Value} {CN : Addr} {nmN qnN : Str} {NN : Addr} {bsN bmN : List Value} {snN : List Str} {subN : List Value} {abN : Bool} {colN : Option Bool} {ddN : Option Addr} {k0N k1N k2N k3N k5N : Option Value} {fN cN ccN : Addr} {odN anN cddN cldN : Option Addr} {oslN ccsN cslN : Array (Option Value)} {ocN kVN dcN pmN ctN cclN clN : Value} {vsN : Array Value} {flN : Str} {tfN : Tok} {CP : Addr} {nmP qnP : Str} {NP : Addr} {bsP bmP : List Value} {snP : List Str} {subP : List Value} {abP : Bool} {colP : Option Bool} {ddP : Option Addr} {k0P k1P k2P k3P k5P : Option Value} {fP cP ccP : Addr} {odP anP cddP cldP : Option Addr} {oslP ccsP cslP : Array (Option Value)} {ocP kVP dcP pmP ctP cclP clP : Value} {vsP : Array Value} {flP : Str} {tfP : Tok}
    (X : K.In h) (hT8 : ∀ P ∈ ts, h.get? P = some (PySem.W.tabObj #[])) (G : h.Ns mainGlobals mg) (hfa : mg "law" = some (.ref fa))
    (ag0 : PySem.W.nsIn K mainGlobals "is_integer" = some (some (.ref fg0)))
    (lg0 : K.lookup fg0 = some ⟨ocg0, odg0, .func (PySem.W.fnOf "is_integer" "is_integer" (defArgs s_is_integer) (defBody s_is_integer) (defScope s_is_integer) .none kVg0 dcg0 pmg0 ang0 cdg0 ctg0), slg0⟩)
    (cg0 : PySem.W.codeIn K cdg0 "is_integer" = true)
    (kg0 : PySem.W.keepIn K (.ref fg0) = true)
    (ag1 : PySem.W.nsIn K mainGlobals "is_between" = some (some (.ref fg1)))
    (lg1 : K.lookup fg1 = some ⟨ocg1, odg1, .func (PySem.W.fnOf "is_between" "is_between" (defArgs s_is_between) (defBody s_is_between) (defScope s_is_between) .none kVg1 dcg1 pmg1 ang1 cdg1 ctg1), slg1⟩)
    (cg1 : PySem.W.codeIn K cdg1 "is_between" = true)
    (kg1 : PySem.W.keepIn K (.ref fg1) = true)
    (ag2 : PySem.W.nsIn K mainGlobals "is_name" = some (some (.ref fg2)))
    (lg2 : K.lookup fg2 = some ⟨ocg2, odg2, .func (PySem.W.fnOf "is_name" "is_name" (defArgs s_is_name) (defBody s_is_name) (defScope s_is_name) .none kVg2 dcg2 pmg2 ang2 cdg2 ctg2), slg2⟩)
    (cg2 : PySem.W.codeIn K cdg2 "is_name" = true)
    (kg2 : PySem.W.keepIn K (.ref fg2) = true)
    (ag3 : PySem.W.nsIn K mainGlobals "accepts" = some (some (.ref fg3)))
    (lg3 : K.lookup fg3 = some ⟨ocg3, odg3, .func (PySem.W.fnOf "accepts" "accepts" (defArgs s_accepts) (defBody s_accepts) (defScope s_accepts) .none kVg3 dcg3 pmg3 ang3 cdg3 ctg3), slg3⟩)
    (cg3 : PySem.W.codeIn K cdg3 "accepts" = true)
    (kg3 : PySem.W.keepIn K (.ref fg3) = true)
    (ag4 : PySem.W.nsIn K mainGlobals "_wrong_field" = some (some (.ref fg4)))
    (lg4 : K.lookup fg4 = some ⟨ocg4, odg4, .func (PySem.W.fnOf "_wrong_field" "_wrong_field" (defArgs s_wrong_field) (defBody s_wrong_field) (defScope s_wrong_field) .none kVg4 dcg4 pmg4 ang4 cdg4 ctg4), slg4⟩)
    (cg4 : PySem.W.codeIn K cdg4 "_wrong_field" = true)
    (kg4 : PySem.W.keepIn K (.ref fg4) = true)
    (ag5 : PySem.W.nsIn K mainGlobals "_are_pauses" = some (some (.ref fg5)))
    (lg5 : K.lookup fg5 = some ⟨ocg5, odg5, .func (PySem.W.fnOf "_are_pauses" "_are_pauses" (defArgs s_are_pauses) (defBody s_are_pauses) (defScope s_are_pauses) .none kVg5 dcg5 pmg5 ang5 cdg5 ctg5), slg5⟩)
    (cg5 : PySem.W.codeIn K cdg5 "_are_pauses" = true)
    (kg5 : PySem.W.keepIn K (.ref fg5) = true)
    (ag6 : PySem.W.nsIn K mainGlobals "_is_ending" = some (some (.ref fg6)))
    (lg6 : K.lookup fg6 = some ⟨ocg6, odg6, .func (PySem.W.fnOf "_is_ending" "_is_ending" (defArgs s_is_ending) (defBody s_is_ending) (defScope s_is_ending) .none kVg6 dcg6 pmg6 ang6 cdg6 ctg6), slg6⟩)
    (cg6 : PySem.W.codeIn K cdg6 "_is_ending" = true)
    (kg6 : PySem.W.keepIn K (.ref fg6) = true)
    (ag7 : PySem.W.nsIn K mainGlobals "_all_pauses" = some (some (.ref fg7)))
    (lg7 : K.lookup fg7 = some ⟨ocg7, odg7, .func (PySem.W.fnOf "_all_pauses" "_all_pauses" (defArgs s_all_pauses) (defBody s_all_pauses) (defScope s_all_pauses) .none kVg7 dcg7 pmg7 ang7 cdg7 ctg7), slg7⟩)
    (cg7 : PySem.W.codeIn K cdg7 "_all_pauses" = true)
    (kg7 : PySem.W.keepIn K (.ref fg7) = true)
    (ag8 : PySem.W.nsIn K mainGlobals "_law_pool" = some (some (.ref fg8)))
    (lg8 : K.lookup fg8 = some ⟨ocg8, odg8, .func (PySem.W.fnOf "_law_pool" "_law_pool" (defArgs s_law_pool) (defBody s_law_pool) (defScope s_law_pool) .none kVg8 dcg8 pmg8 ang8 cdg8 ctg8), slg8⟩)
    (cg8 : PySem.W.codeIn K cdg8 "_law_pool" = true)
    (kg8 : PySem.W.keepIn K (.ref fg8) = true)
    (ag9 : PySem.W.nsIn K mainGlobals "_law_draw" = some (some (.ref fg9)))
    (lg9 : K.lookup fg9 = some ⟨ocg9, odg9, .func (PySem.W.fnOf "_law_draw" "_law_draw" (defArgs s_law_draw) (defBody s_law_draw) (defScope s_law_draw) .none kVg9 dcg9 pmg9 ang9 cdg9 ctg9), slg9⟩)
    (cg9 : PySem.W.codeIn K cdg9 "_law_draw" = true)
    (kg9 : PySem.W.keepIn K (.ref fg9) = true)
    (ag10 : PySem.W.nsIn K mainGlobals "_law_choose" = some (some (.ref fg10)))
    (lg10 : K.lookup fg10 = some ⟨ocg10, odg10, .func (PySem.W.fnOf "_law_choose" "_law_choose" (defArgs s_law_choose) (defBody s_law_choose) (defScope s_law_choose) .none kVg10 dcg10 pmg10 ang10 cdg10 ctg10), slg10⟩)
    (cg10 : PySem.W.codeIn K cdg10 "_law_choose" = true)
    (kg10 : PySem.W.keepIn K (.ref fg10) = true)
    (ag11 : PySem.W.nsIn K mainGlobals "_law_policy" = some (some (.ref fg11)))
    (lg11 : K.lookup fg11 = some ⟨ocg11, odg11, .func (PySem.W.fnOf "_law_policy" "_law_policy" (defArgs s_law_policy) (defBody s_law_policy) (defScope s_law_policy) .none kVg11 dcg11 pmg11 ang11 cdg11 ctg11), slg11⟩)
    (cg11 : PySem.W.codeIn K cdg11 "_law_policy" = true)
    (kg11 : PySem.W.keepIn K (.ref fg11) = true)
    (ag12 : PySem.W.nsIn K mainGlobals "_law_fields_of" = some (some (.ref fg12)))
    (lg12 : K.lookup fg12 = some ⟨ocg12, odg12, .func (PySem.W.fnOf "_law_fields_of" "_law_fields_of" (defArgs s_law_fields_of) (defBody s_law_fields_of) (defScope s_law_fields_of) .none kVg12 dcg12 pmg12 ang12 cdg12 ctg12), slg12⟩)
    (cg12 : PySem.W.codeIn K cdg12 "_law_fields_of" = true)
    (kg12 : PySem.W.keepIn K (.ref fg12) = true)
    (aL : PySem.W.nsIn K mainGlobals "law" = some (some (.ref fL)))
    (lL : K.lookup fL = some ⟨ocL, odL, .func (PySem.W.fnOf "law" "law" (defArgs s_law) (defBody s_law) (defScope s_law) .none kVL dcL pmL anL (.ref qL) ctL), slL⟩)
    (cL : PySem.W.codeIn K (.ref qL) "law" = true)
    (kL : PySem.W.keepIn K (.ref fL) = true)
    (tbL : K.lookup qL = some ⟨qcL, qdL, .fields qvL, qsL⟩)
    (t1L : qvL[11]? = some (.ref PL))
    (chL : PySem.W.codeHdIn K qL PL = true)
    (nlL : K.lookup PL = none)
    (mmL : PL ∈ ts)
    (aR : PySem.W.nsIn K mainGlobals "_law_pauses_right" = some (some (.ref fR)))
    (lR : K.lookup fR = some ⟨ocR, odR, .func (PySem.W.fnOf "_law_pauses_right" "_law_pauses_right" (defArgs s_law_pauses_right) (defBody s_law_pauses_right) (defScope s_law_pauses_right) .none kVR dcR pmR anR (.ref qR) ctR), slR⟩)
    (cR : PySem.W.codeIn K (.ref qR) "_law_pauses_right" = true)
    (kR : PySem.W.keepIn K (.ref fR) = true)
    (tbR : K.lookup qR = some ⟨qcR, qdR, .fields qvR, qsR⟩)
    (t1R : qvR[11]? = some (.ref PR))
    (chR : PySem.W.codeHdIn K qR PR = true)
    (nlR : K.lookup PR = none)
    (mmR : PR ∈ ts)
    (nLR : (PL == PR) = false)
    (aO : PySem.W.nsIn K mainGlobals "_law_told" = some (some (.ref fO)))
    (lO : K.lookup fO = some ⟨ocO, odO, .func (PySem.W.fnOf "_law_told" "_law_told" (defArgs s_law_told) (defBody s_law_told) (defScope s_law_told) .none kVO dcO pmO anO cdO ctO), slO⟩)
    (cO : PySem.W.codeIn K cdO "_law_told" = true)
    (kO : PySem.W.keepIn K (.ref fO) = true)
    (z_isinstance : PySem.W.nsIn K mainGlobals "isinstance" = some none)
    (z_int : PySem.W.nsIn K mainGlobals "int" = some none)
    (z_bool : PySem.W.nsIn K mainGlobals "bool" = some none)
    (z_str : PySem.W.nsIn K mainGlobals "str" = some none)
    (z_tuple : PySem.W.nsIn K mainGlobals "tuple" = some none)
    (z_len : PySem.W.nsIn K mainGlobals "len" = some none)
    (z_all : PySem.W.nsIn K mainGlobals "all" = some none)
    (z_range : PySem.W.nsIn K mainGlobals "range" = some none)
    (z_repr : PySem.W.nsIn K mainGlobals "repr" = some none)
    (z_max : PySem.W.nsIn K mainGlobals "max" = some none)
    (z_min : PySem.W.nsIn K mainGlobals "min" = some none)
    (z_super : PySem.W.nsIn K mainGlobals "super" = some none)
    (gLET : PySem.W.nsIn K mainGlobals "LETTERS" = some (some (.str letters tL)))
    (gML : PySem.W.nsIn K mainGlobals "MOST_LIMIT" = some (some (.int 20 tML)))
    (gMT : PySem.W.nsIn K mainGlobals "MOST_TRIES" = some (some (.int 3 tMT)))
    (gFA : PySem.W.nsIn K mainGlobals "FIELDS" = some (some (.ref FA)))
    (dFA : K.lookup FA = some ⟨.type "tuple", fgd, .seq #[.str "limit" tF0, .str "tries" tF1, .str "pauses" tF2, .str "early" tF3, .str "lossy" tF4, .str "ending" tF5] fgn, fgs⟩)
    (aC : PySem.W.nsIn K mainGlobals "Policy" = some (some (.ref C)))
    (aI : PySem.W.findIn K (.ref C) "__init__" = some (some (.ref fI)))
    (lI : K.lookup fI = some ⟨ocI, odI, .func (PySem.W.fnOf "__init__" "Policy.__init__" (defArgs s_Policyinit) (defBody s_Policyinit) (defScope s_Policyinit) .none (.ref Dk) dcI pmI anI cdI ctI), slI⟩)
    (cI : PySem.W.codeIn K cdI "Policy.__init__" = true)
    (kI : PySem.W.keepIn K (.ref fI) = true)
    (iI : PySem.W.isFn K (.ref fI) = true)
    (aH : PySem.W.findIn K (.ref C) "changed" = some (some (.ref fH)))
    (lH : K.lookup fH = some ⟨ocH, odH, .func (PySem.W.fnOf "changed" "Policy.changed" (defArgs s_Policy_changed) (defBody s_Policy_changed) (defScope s_Policy_changed) .none kVH dcH pmH anH cdH ctH), slH⟩)
    (cH : PySem.W.codeIn K cdH "Policy.changed" = true)
    (kH : PySem.W.keepIn K (.ref fH) = true)
    (iH : PySem.W.isFn K (.ref fH) = true)
    (d1 : PySem.W.nsIn K Dk "tries" = some (some (.int 1 tk1)))
    (d2 : PySem.W.nsIn K Dk "pauses" = some (some .none))
    (d3 : PySem.W.nsIn K Dk "early" = some (some .none))
    (d4 : PySem.W.nsIn K Dk "lossy" = some (some (.bool false)))
    (d5 : PySem.W.nsIn K Dk "ending" = some (some (.ref go)))
    (d6 : K.lookup go = some ⟨.type "tuple", gd, .seq #[.str "go" tk2] gn, gs⟩)
    (pg : PySem.W.plainGet K C Str.empty = true)
    (hd : PySem.W.hasDictIn K C = true)
    (po : PySem.W.plainOver K C = true)
    (sa : PySem.W.findIn K (.ref C) "__setattr__" = some (some (.builtin "object.__setattr__")))
    (mk : PySem.W.makesIn K C = true)
    (kc : PySem.W.keepIn K (.ref C) = true)
    (n1 : PySem.W.findIn K (.ref C) "_name" = some none)
    (n2 : PySem.W.findIn K (.ref C) "_limit" = some none)
    (n3 : PySem.W.findIn K (.ref C) "_tries" = some none)
    (n4 : PySem.W.findIn K (.ref C) "_pauses" = some none)
    (n5 : PySem.W.findIn K (.ref C) "_early" = some none)
    (n6 : PySem.W.findIn K (.ref C) "_lossy" = some none)
    (n7 : PySem.W.findIn K (.ref C) "_ending" = some none)
    (p1_name : PySem.W.findIn K (.ref C) "name" = some (some (.ref p_name)))
    (p2_name : PySem.W.specialIn K (.ref p_name) "__get__" = some (some (.builtin "property.__get__")))
    (p3_name : PySem.W.takesIn K (.ref p_name) = some true)
    (apname : PySem.W.recIn K p_name "property" = some ((.ref fpname) :: r_name))
    (lpname : K.lookup fpname = some ⟨ocpname, odpname, .func (PySem.W.fnOf "name" "Policy.name" (defArgs s_Policy_name) (defBody s_Policy_name) (defScope s_Policy_name) .none kVpname dcpname pmpname anpname cdpname ctpname), slpname⟩)
    (cpname : PySem.W.codeIn K cdpname "Policy.name" = true)
    (kpname : PySem.W.keepIn K (.ref fpname) = true)
    (p1_limit : PySem.W.findIn K (.ref C) "limit" = some (some (.ref p_limit)))
    (p2_limit : PySem.W.specialIn K (.ref p_limit) "__get__" = some (some (.builtin "property.__get__")))
    (p3_limit : PySem.W.takesIn K (.ref p_limit) = some true)
    (aplimit : PySem.W.recIn K p_limit "property" = some ((.ref fplimit) :: r_limit))
    (lplimit : K.lookup fplimit = some ⟨ocplimit, odplimit, .func (PySem.W.fnOf "limit" "Policy.limit" (defArgs s_Policy_limit) (defBody s_Policy_limit) (defScope s_Policy_limit) .none kVplimit dcplimit pmplimit anplimit cdplimit ctplimit), slplimit⟩)
    (cplimit : PySem.W.codeIn K cdplimit "Policy.limit" = true)
    (kplimit : PySem.W.keepIn K (.ref fplimit) = true)
    (p1_tries : PySem.W.findIn K (.ref C) "tries" = some (some (.ref p_tries)))
    (p2_tries : PySem.W.specialIn K (.ref p_tries) "__get__" = some (some (.builtin "property.__get__")))
    (p3_tries : PySem.W.takesIn K (.ref p_tries) = some true)
    (aptries : PySem.W.recIn K p_tries "property" = some ((.ref fptries) :: r_tries))
    (lptries : K.lookup fptries = some ⟨ocptries, odptries, .func (PySem.W.fnOf "tries" "Policy.tries" (defArgs s_Policy_tries) (defBody s_Policy_tries) (defScope s_Policy_tries) .none kVptries dcptries pmptries anptries cdptries ctptries), slptries⟩)
    (cptries : PySem.W.codeIn K cdptries "Policy.tries" = true)
    (kptries : PySem.W.keepIn K (.ref fptries) = true)
    (p1_pauses : PySem.W.findIn K (.ref C) "pauses" = some (some (.ref p_pauses)))
    (p2_pauses : PySem.W.specialIn K (.ref p_pauses) "__get__" = some (some (.builtin "property.__get__")))
    (p3_pauses : PySem.W.takesIn K (.ref p_pauses) = some true)
    (appauses : PySem.W.recIn K p_pauses "property" = some ((.ref fppauses) :: r_pauses))
    (lppauses : K.lookup fppauses = some ⟨ocppauses, odppauses, .func (PySem.W.fnOf "pauses" "Policy.pauses" (defArgs s_Policy_pauses) (defBody s_Policy_pauses) (defScope s_Policy_pauses) .none kVppauses dcppauses pmppauses anppauses cdppauses ctppauses), slppauses⟩)
    (cppauses : PySem.W.codeIn K cdppauses "Policy.pauses" = true)
    (kppauses : PySem.W.keepIn K (.ref fppauses) = true)
    (p1_early : PySem.W.findIn K (.ref C) "early" = some (some (.ref p_early)))
    (p2_early : PySem.W.specialIn K (.ref p_early) "__get__" = some (some (.builtin "property.__get__")))
    (p3_early : PySem.W.takesIn K (.ref p_early) = some true)
    (apearly : PySem.W.recIn K p_early "property" = some ((.ref fpearly) :: r_early))
    (lpearly : K.lookup fpearly = some ⟨ocpearly, odpearly, .func (PySem.W.fnOf "early" "Policy.early" (defArgs s_Policy_early) (defBody s_Policy_early) (defScope s_Policy_early) .none kVpearly dcpearly pmpearly anpearly cdpearly ctpearly), slpearly⟩)
    (cpearly : PySem.W.codeIn K cdpearly "Policy.early" = true)
    (kpearly : PySem.W.keepIn K (.ref fpearly) = true)
    (p1_lossy : PySem.W.findIn K (.ref C) "lossy" = some (some (.ref p_lossy)))
    (p2_lossy : PySem.W.specialIn K (.ref p_lossy) "__get__" = some (some (.builtin "property.__get__")))
    (p3_lossy : PySem.W.takesIn K (.ref p_lossy) = some true)
    (aplossy : PySem.W.recIn K p_lossy "property" = some ((.ref fplossy) :: r_lossy))
    (lplossy : K.lookup fplossy = some ⟨ocplossy, odplossy, .func (PySem.W.fnOf "lossy" "Policy.lossy" (defArgs s_Policy_lossy) (defBody s_Policy_lossy) (defScope s_Policy_lossy) .none kVplossy dcplossy pmplossy anplossy cdplossy ctplossy), slplossy⟩)
    (cplossy : PySem.W.codeIn K cdplossy "Policy.lossy" = true)
    (kplossy : PySem.W.keepIn K (.ref fplossy) = true)
    (p1_ending : PySem.W.findIn K (.ref C) "ending" = some (some (.ref p_ending)))
    (p2_ending : PySem.W.specialIn K (.ref p_ending) "__get__" = some (some (.builtin "property.__get__")))
    (p3_ending : PySem.W.takesIn K (.ref p_ending) = some true)
    (apending : PySem.W.recIn K p_ending "property" = some ((.ref fpending) :: r_ending))
    (lpending : K.lookup fpending = some ⟨ocpending, odpending, .func (PySem.W.fnOf "ending" "Policy.ending" (defArgs s_Policy_ending) (defBody s_Policy_ending) (defScope s_Policy_ending) .none kVpending dcpending pmpending anpending cdpending ctpending), slpending⟩)
    (cpending : PySem.W.codeIn K cdpending "Policy.ending" = true)
    (kpending : PySem.W.keepIn K (.ref fpending) = true)
    (tp : PySem.W.nsIn K cStatics "thirdparty.any" = some none)
    (top : (l.prog.main.scope.names.lookup ("super" : Str)).isSome = false)
    (gN : PySem.W.nsIn K mainGlobals "InvalidName" = some (some (.ref CN)))
    (xN : K.lookup CN = some (excClassObj nmN qnN CN NN bsN bmN true snN subN abN colN ddN k0N k1N k2N k3N k5N "ValueError.__new__"))
    (rvN : PySem.HandSPX.refsVE bmN = true)
    (saN : PySem.W.findIn K (.ref CN) "__setattr__" = some (some (.builtin "object.__setattr__")))
    (beN : PySem.W.subIn K (.ref CN) (.type "BaseException") = some true)
    (tyN : PySem.W.typeIn K (.ref CN) = some (.type "type"))
    (kpN : PySem.W.keepIn K (.ref CN) = true)
    (suN : PySem.W.ks_superIn K CN CN "__init__" = some (some (.builtin "ValueError.__init__")))
    (veN : PySem.W.subIn K (.ref CN) (.type "ValueError") = some true)
    (gaN : PySem.W.findIn K (.ref CN) "__getattribute__" = some (some (.builtin "BaseException.__getattribute__")))
    (ggN : PySem.W.findIn K (.ref CN) "__getattr__" = some none)
    (hdN : PySem.W.hasDictIn K CN = true)
    (nfN : PySem.W.findIn K (.ref CN) "value" = some none)
    (iN : PySem.W.findIn K (.ref CN) "__init__" = some (some (.ref fN)))
    (lN : K.lookup fN = some ⟨ocN, odN, .func (PySem.W.ksFn "__init__" "InvalidName.__init__" (defArgs s_InvalidNameinit) (defBody s_InvalidNameinit) (defScope s_InvalidNameinit) .none kVN dcN pmN anN (.ref cN) ctN ccN), oslN⟩)
    (tN : PySem.W.typeIn K (.ref fN) = some (.type "function"))
    (cdN : PySem.W.codeIn K (.ref cN) "InvalidName.__init__" = true)
    (lcN : K.lookup cN = some ⟨cclN, cddN, .fields vsN, ccsN⟩)
    (v2N : vsN[2]? = some (.str flN tfN))
    (fiN : ((l.prog.main.file : Str) == flN) = true)
    (llN : K.lookup ccN = some ⟨clN, cldN, .cell (some (.ref CN)), cslN⟩)
    (gP : PySem.W.nsIn K mainGlobals "InvalidPolicy" = some (some (.ref CP)))
    (xP : K.lookup CP = some (excClassObj nmP qnP CP NP bsP bmP true snP subP abP colP ddP k0P k1P k2P k3P k5P "ValueError.__new__"))
    (rvP : PySem.HandSPX.refsVE bmP = true)
    (saP : PySem.W.findIn K (.ref CP) "__setattr__" = some (some (.builtin "object.__setattr__")))
    (beP : PySem.W.subIn K (.ref CP) (.type "BaseException") = some true)
    (tyP : PySem.W.typeIn K (.ref CP) = some (.type "type"))
    (kpP : PySem.W.keepIn K (.ref CP) = true)
    (suP : PySem.W.ks_superIn K CP CP "__init__" = some (some (.builtin "ValueError.__init__")))
    (veP : PySem.W.subIn K (.ref CP) (.type "ValueError") = some true)
    (gaP : PySem.W.findIn K (.ref CP) "__getattribute__" = some (some (.builtin "BaseException.__getattribute__")))
    (ggP : PySem.W.findIn K (.ref CP) "__getattr__" = some none)
    (hdP : PySem.W.hasDictIn K CP = true)
    (nfP : PySem.W.findIn K (.ref CP) "field" = some none)
    (iP : PySem.W.findIn K (.ref CP) "__init__" = some (some (.ref fP)))
    (lP : K.lookup fP = some ⟨ocP, odP, .func (PySem.W.ksFn "__init__" "InvalidPolicy.__init__" (defArgs s_InvalidPolicyinit) (defBody s_InvalidPolicyinit) (defScope s_InvalidPolicyinit) .none kVP dcP pmP anP (.ref cP) ctP ccP), oslP⟩)
    (tP : PySem.W.typeIn K (.ref fP) = some (.type "function"))
    (cdP : PySem.W.codeIn K (.ref cP) "InvalidPolicy.__init__" = true)
    (lcP : K.lookup cP = some ⟨cclP, cddP, .fields vsP, ccsP⟩)
    (v2P : vsP[2]? = some (.str flP tfP))
    (fiP : ((l.prog.main.file : Str) == flP) = true)
    (llP : K.lookup ccP = some ⟨clP, cldP, .cell (some (.ref CP)), cslP⟩)
    (subPP : PySem.W.subIn K (.ref CP) (.ref CP) = some true)
    : Mc.LawT l w K 12 63 "_law_script" mg fa h := by
  have Dg0 : Mc.Def K mg "is_integer" s_is_integer ["value"] := ⟨fg0, _, fun_mk (st := s_is_integer) lg0 cg0 kg0, PySem.W.mg_of X G ag0, (fun_mk (st := s_is_integer) lg0 cg0 kg0).binds (ps := ["value"]) fun _ _ _ _ _ _ us hl => match us, hl with | [_], _ => rfl⟩
  have Dg1 : Mc.Def K mg "is_between" s_is_between ["value", "least", "most"] := ⟨fg1, _, fun_mk (st := s_is_between) lg1 cg1 kg1, PySem.W.mg_of X G ag1, (fun_mk (st := s_is_between) lg1 cg1 kg1).binds (ps := ["value", "least", "most"]) fun _ _ _ _ _ _ us hl => match us, hl with | [_, _, _], _ => rfl⟩
  have Dg2 : Mc.Def K mg "is_name" s_is_name ["value"] := ⟨fg2, _, fun_mk (st := s_is_name) lg2 cg2 kg2, PySem.W.mg_of X G ag2, (fun_mk (st := s_is_name) lg2 cg2 kg2).binds (ps := ["value"]) fun _ _ _ _ _ _ us hl => match us, hl with | [_], _ => rfl⟩
  have Dg3 : Mc.Def K mg "accepts" s_accepts ["field", "value"] := ⟨fg3, _, fun_mk (st := s_accepts) lg3 cg3 kg3, PySem.W.mg_of X G ag3, (fun_mk (st := s_accepts) lg3 cg3 kg3).binds (ps := ["field", "value"]) fun _ _ _ _ _ _ us hl => match us, hl with | [_, _], _ => rfl⟩
  have Dg4 : Mc.Def K mg "_wrong_field" s_wrong_field ["limit", "tries", "pauses", "early", "lossy", "ending"] := ⟨fg4, _, fun_mk (st := s_wrong_field) lg4 cg4 kg4, PySem.W.mg_of X G ag4, (fun_mk (st := s_wrong_field) lg4 cg4 kg4).binds (ps := ["limit", "tries", "pauses", "early", "lossy", "ending"]) fun _ _ _ _ _ _ us hl => match us, hl with | [_, _, _, _, _, _], _ => rfl⟩
  have Dg5 : Mc.Def K mg "_are_pauses" s_are_pauses ["value", "tries"] := ⟨fg5, _, fun_mk (st := s_are_pauses) lg5 cg5 kg5, PySem.W.mg_of X G ag5, (fun_mk (st := s_are_pauses) lg5 cg5 kg5).binds (ps := ["value", "tries"]) fun _ _ _ _ _ _ us hl => match us, hl with | [_, _], _ => rfl⟩
  have Dg6 : Mc.Def K mg "_is_ending" s_is_ending ["value"] := ⟨fg6, _, fun_mk (st := s_is_ending) lg6 cg6 kg6, PySem.W.mg_of X G ag6, (fun_mk (st := s_is_ending) lg6 cg6 kg6).binds (ps := ["value"]) fun _ _ _ _ _ _ us hl => match us, hl with | [_], _ => rfl⟩
  have Dg7 : Mc.Def K mg "_all_pauses" s_all_pauses ["tries", "pauses", "early"] := ⟨fg7, _, fun_mk (st := s_all_pauses) lg7 cg7 kg7, PySem.W.mg_of X G ag7, (fun_mk (st := s_all_pauses) lg7 cg7 kg7).binds (ps := ["tries", "pauses", "early"]) fun _ _ _ _ _ _ us hl => match us, hl with | [_, _, _], _ => rfl⟩
  have Dg8 : Mc.Def K mg "_law_pool" s_law_pool ["_law_script", "_law_k"] := ⟨fg8, _, fun_mk (st := s_law_pool) lg8 cg8 kg8, PySem.W.mg_of X G ag8, (fun_mk (st := s_law_pool) lg8 cg8 kg8).binds (ps := ["_law_script", "_law_k"]) fun _ _ _ _ _ _ us hl => match us, hl with | [_, _], _ => rfl⟩
  have Dg9 : Mc.Def K mg "_law_draw" s_law_draw ["_law_pool_here", "_law_many"] := ⟨fg9, _, fun_mk (st := s_law_draw) lg9 cg9 kg9, PySem.W.mg_of X G ag9, (fun_mk (st := s_law_draw) lg9 cg9 kg9).binds (ps := ["_law_pool_here", "_law_many"]) fun _ _ _ _ _ _ us hl => match us, hl with | [_, _], _ => rfl⟩
  have Dg10 : Mc.Def K mg "_law_choose" s_law_choose ["_law_pool_here", "_law_items"] := ⟨fg10, _, fun_mk (st := s_law_choose) lg10 cg10 kg10, PySem.W.mg_of X G ag10, (fun_mk (st := s_law_choose) lg10 cg10 kg10).binds (ps := ["_law_pool_here", "_law_items"]) fun _ _ _ _ _ _ us hl => match us, hl with | [_, _], _ => rfl⟩
  have Dg11 : Mc.Def K mg "_law_policy" s_law_policy ["_law_pool_here", "_law_label", "_law_most"] := ⟨fg11, _, fun_mk (st := s_law_policy) lg11 cg11 kg11, PySem.W.mg_of X G ag11, (fun_mk (st := s_law_policy) lg11 cg11 kg11).binds (ps := ["_law_pool_here", "_law_label", "_law_most"]) fun _ _ _ _ _ _ us hl => match us, hl with | [_, _, _], _ => rfl⟩
  have Dg12 : Mc.Def K mg "_law_fields_of" s_law_fields_of ["_law_one"] := ⟨fg12, _, fun_mk (st := s_law_fields_of) lg12 cg12 kg12, PySem.W.mg_of X G ag12, (fun_mk (st := s_law_fields_of) lg12 cg12 kg12).binds (ps := ["_law_one"]) fun _ _ _ _ _ _ us hl => match us, hl with | [_], _ => rfl⟩
  have T : Txt K mg := ⟨PySem.W.mg_none_of X G z_isinstance, PySem.W.mg_none_of X G z_int, PySem.W.mg_none_of X G z_bool, PySem.W.mg_none_of X G z_str, PySem.W.mg_none_of X G z_tuple, PySem.W.mg_none_of X G z_len, PySem.W.mg_none_of X G z_all, PySem.W.mg_none_of X G z_range, PySem.W.mg_none_of X G z_repr, PySem.W.mg_none_of X G z_max, PySem.W.mg_none_of X G z_min, ⟨_, PySem.W.mg_of X G gLET, ⟨_, rfl⟩⟩, ⟨_, PySem.W.mg_of X G gML, ⟨_, rfl⟩⟩, ⟨_, PySem.W.mg_of X G gMT, ⟨_, rfl⟩⟩⟩
  have scN : Mx.SupC l.prog K mg CN := ⟨⟨⟨_, _, _, _, _, _, _, _, _, _, _, _, _, _, _, xN, rvN⟩, saN, beN, tyN, kpN⟩, suN, veN, tp, PySem.W.mg_none_of X G z_super, top⟩
  have sdN : Mx.SupD l.prog K "__init__" "InvalidName.__init__" (defArgs s_InvalidNameinit) (defBody s_InvalidNameinit) (defScope s_InvalidNameinit) CN fN _ cN ccN := ⟨_, _, _, _, _, _, _, _, _, _, _, _, _, _, _, _, _, _, rfl, lN, cdN, lcN, v2N, fiN, llN⟩
  have xfN : XfC K CN := ⟨gaN, ggN, beN, hdN⟩
  have glN := PySem.W.mg_of X G gN
  have scP : Mx.SupC l.prog K mg CP := ⟨⟨⟨_, _, _, _, _, _, _, _, _, _, _, _, _, _, _, xP, rvP⟩, saP, beP, tyP, kpP⟩, suP, veP, tp, PySem.W.mg_none_of X G z_super, top⟩
  have sdP : Mx.SupD l.prog K "__init__" "InvalidPolicy.__init__" (defArgs s_InvalidPolicyinit) (defBody s_InvalidPolicyinit) (defScope s_InvalidPolicyinit) CP fP _ cP ccP := ⟨_, _, _, _, _, _, _, _, _, _, _, _, _, _, _, _, _, _, rfl, lP, cdP, lcP, v2P, fiP, llP⟩
  have xfP : XfC K CP := ⟨gaP, ggP, beP, hdP⟩
  have glP := PySem.W.mg_of X G gP
  have cl : Cls K C := ⟨pg, hd, po, sa⟩
  have TC : CTxt K C := ⟨cl, n1, n2, n3, n4, n5, n6, n7⟩
  have gP := PySem.W.mg_of X G aC
  have gF := PySem.W.mg_of X G gFA
  have tF : ∀ H, SqT K H FA (wds.map V.str) := fun H => .inr ⟨_, #[.str "limit" tF0, .str "tries" tF1, .str "pauses" tF2, .str "early" tF3, .str "lossy" tF4, .str "ending" tF5], _, dFA, rfl, rfl, (by show 6 ≤ sizeLine; decide), .cons ⟨_, rfl⟩ (.cons ⟨_, rfl⟩ (.cons ⟨_, rfl⟩ (.cons ⟨_, rfl⟩ (.cons ⟨_, rfl⟩ (.cons ⟨_, rfl⟩ (.nil))))))⟩
  have FD : FI K go fI _ := ⟨⟨_, _, _, _, _, _, _, _, _, _, rfl, lI, cI, .inl ⟨rfl, rfl⟩, .inr ⟨Dk, rfl, by
    intro q hq
    simp only [kwsP, List.mem_cons, List.not_mem_nil, or_false] at hq
    rcases hq with rfl | rfl | rfl | rfl | rfl
    · exact ⟨_, d1, ⟨_, rfl⟩⟩
    · exact ⟨_, d2, rfl⟩
    · exact ⟨_, d3, rfl⟩
    · exact ⟨_, d4, rfl⟩
    · exact ⟨_, d5, rfl⟩⟩⟩, kI⟩
  have M : Mk K C fI := ⟨mk, aI, iI, kc⟩
  have FH := fun_mk (st := s_Policy_changed) lH cH kH
  have FO := fun_mk (st := s_law_told) lO cO kO
  have bO := FO.binds (ps := ["_law_call"]) fun _ _ _ _ _ _ us hl => match us, hl with | [_], _ => rfl
  have F_name := fun_mk (st := s_Policy_name) lpname cpname kpname
  have b_name := F_name.binds (ps := ["self"]) fun _ _ _ _ _ _ us hl => match us, hl with | [_], _ => rfl
  have F_limit := fun_mk (st := s_Policy_limit) lplimit cplimit kplimit
  have b_limit := F_limit.binds (ps := ["self"]) fun _ _ _ _ _ _ us hl => match us, hl with | [_], _ => rfl
  have F_tries := fun_mk (st := s_Policy_tries) lptries cptries kptries
  have b_tries := F_tries.binds (ps := ["self"]) fun _ _ _ _ _ _ us hl => match us, hl with | [_], _ => rfl
  have F_pauses := fun_mk (st := s_Policy_pauses) lppauses cppauses kppauses
  have b_pauses := F_pauses.binds (ps := ["self"]) fun _ _ _ _ _ _ us hl => match us, hl with | [_], _ => rfl
  have F_early := fun_mk (st := s_Policy_early) lpearly cpearly kpearly
  have b_early := F_early.binds (ps := ["self"]) fun _ _ _ _ _ _ us hl => match us, hl with | [_], _ => rfl
  have F_lossy := fun_mk (st := s_Policy_lossy) lplossy cplossy kplossy
  have b_lossy := F_lossy.binds (ps := ["self"]) fun _ _ _ _ _ _ us hl => match us, hl with | [_], _ => rfl
  have F_ending := fun_mk (st := s_Policy_ending) lpending cpending kpending
  have b_ending := F_ending.binds (ps := ["self"]) fun _ _ _ _ _ _ us hl => match us, hl with | [_], _ => rfl
  have ef := hfa.symm.trans (PySem.W.mg_of X G aL)
  cases ef
  have nPQ : PL ≠ PR := fun z => by rw [z] at nLR; simp at nLR
  have tab0 : ∀ {H : Hp} {a : Addr} {q : Str}, H a = some (.tbl #[]) → LamX.TabS H a q := fun h => LamX.TabS.nil h
  refine ⟨PySem.W.fnOf "law" "law" (defArgs s_law) (defBody s_law) (defScope s_law) .none kVL dcL pmL anL (.ref qL) ctL, [(qL, PL), (qR, PR)], spLaw K [(PL, "law.<locals>.<lambda>"), (PR, "_law_pauses_right.<locals>.<lambda>")], ?_, ?_, ?_, fun s v => .of_eq rfl, ?_, fun base _ _ TBs => ?_⟩
  · intro p hp
    simp only [List.mem_cons, List.not_mem_nil, or_false] at hp
    rcases hp with rfl | rfl
    · exact hT8 _ mmL
    · exact hT8 _ mmR
  · intro p hp
    simp only [List.mem_cons, List.not_mem_nil, or_false] at hp
    rcases hp with rfl | rfl
    · exact nlL
    · exact nlR
  · intro p hp
    simp only [List.mem_cons, List.not_mem_nil, or_false] at hp
    rcases hp with rfl | rfl
    · exact PySem.W.codeHd_of_K X chL
    · exact PySem.W.codeHd_of_K X chR
  · intro H a ns hl _ hT hS
    refine ⟨a, ns, rfl, hS, hl, ?_, fun _ => rfl⟩
    intro p hp
    simp only [List.mem_cons, List.not_mem_nil, or_false] at hp
    rcases hp with rfl | rfl
    · exact tab0 (hT (qL, PL) (by simp))
    · exact tab0 (hT (qR, PR) (by simp))
  · have c_int := ok_is_integer (P := l.prog) (w := w) (base := base) T Dg0
    have c_btw := ok_is_between T Dg1 c_int
    have c_nm := ok_is_name (P := l.prog) (w := w) (base := base) T Dg2
    have c_are := ok_are_pauses T Dg5 c_btw
    have c_end := ok_is_ending T Dg6 c_btw
    have c_acc := ok_accepts T Dg3 c_btw c_end
    have c_wf := ok_wrong_field T Dg4 c_btw c_are c_acc
    have c_all := ok_all_pauses (P := l.prog) (w := w) (base := base) T Dg7
    have EN : Mx.ExK l.prog w K mg base "InvalidName" CN fN _ ["self", "value"] (Mx.spEx CN "value") := ⟨iN, tN, ok_InvalidName sdN scN nfN, .all (fun us hl => match us, hl with | [_, _], _ => rfl), glN⟩
    have EP : Mx.ExK l.prog w K mg base "InvalidPolicy" CP fP _ ["self", "field"] (Mx.spEx CP "field") := ⟨iP, tP, ok_InvalidPolicy sdP scP nfP, .all (fun us hl => match us, hl with | [_, _], _ => rfl), glP⟩
    have G0 := ok_init FD T TC c_nm c_wf c_all
    have GI := Mx.fn_or (ok_init FD T TC c_nm c_wf c_all) (ok_bad FD T TC c_nm c_wf c_all scN scP EN EP)
    have c_pool := ok_pool (P := l.prog) (w := w) (base := base) T Dg8
    have c_draw := ok_draw (P := l.prog) (w := w) (base := base) T Dg9
    have c_choose := ok_choose T Dg10 c_draw
    have c_policy := ok_policy Dg11 T M G0 gP FD c_draw c_choose
    have pr_name : Prp l.prog w K mg base 1 C "name" (getSp C "_name") := prp_of F_name ⟨p1_name, p2_name, p3_name, ⟨_, apname⟩⟩ sc_Policy_name rfl cl n1 b_name
    have pr_limit : Prp l.prog w K mg base 1 C "limit" (getSp C "_limit") := prp_of F_limit ⟨p1_limit, p2_limit, p3_limit, ⟨_, aplimit⟩⟩ sc_Policy_limit rfl cl n2 b_limit
    have pr_tries : Prp l.prog w K mg base 1 C "tries" (getSp C "_tries") := prp_of F_tries ⟨p1_tries, p2_tries, p3_tries, ⟨_, aptries⟩⟩ sc_Policy_tries rfl cl n3 b_tries
    have pr_pauses : Prp l.prog w K mg base 1 C "pauses" (getSp C "_pauses") := prp_of F_pauses ⟨p1_pauses, p2_pauses, p3_pauses, ⟨_, appauses⟩⟩ sc_Policy_pauses rfl cl n4 b_pauses
    have pr_early : Prp l.prog w K mg base 1 C "early" (getSp C "_early") := prp_of F_early ⟨p1_early, p2_early, p3_early, ⟨_, apearly⟩⟩ sc_Policy_early rfl cl n5 b_early
    have pr_lossy : Prp l.prog w K mg base 1 C "lossy" (getSp C "_lossy") := prp_of F_lossy ⟨p1_lossy, p2_lossy, p3_lossy, ⟨_, aplossy⟩⟩ sc_Policy_lossy rfl cl n6 b_lossy
    have pr_ending : Prp l.prog w K mg base 1 C "ending" (getSp C "_ending") := prp_of F_ending ⟨p1_ending, p2_ending, p3_ending, ⟨_, apending⟩⟩ sc_Policy_ending rfl cl n7 b_ending
    have c_fo := ok_fields_of Dg12 pr_name pr_limit pr_tries pr_pauses pr_early pr_lossy pr_ending
    have W : ∀ ks, ks.Nodup → ks.length ≤ 100 → KwB ks → FnW l.prog w K mg base (CX l.prog w) 8 fH ks (spCh K C CN CP ks) := fun ks h1 h2 h3 => fn_changed FH T TC M gP FD GI gF tF scP EP h1 h2 h3
    have R : Mkr l.prog w K mg base [(PL, "law.<locals>.<lambda>"), (PR, "_law_pauses_right.<locals>.<lambda>")] C CN CP fO fH _ := ⟨TC, ⟨aH, iH, kH⟩, FO, PySem.W.mg_of X G aO, bO, xfP, nfP, glP, exm_is beP tyP hdP subPP, by
      intro ks hk
      simp only [List.mem_cons, List.not_mem_nil, or_false] at hk
      rcases hk with rfl | rfl | rfl | rfl | rfl | rfl | rfl | rfl | rfl | rfl | rfl | rfl
      · exact W _ (by decide) (by decide) kb0
      · exact W _ (by decide) (by decide) kb1
      · exact W _ (by decide) (by decide) kb2
      · exact W _ (by decide) (by decide) kb3
      · exact W _ (by decide) (by decide) kb4
      · exact W _ (by decide) (by decide) kb5
      · exact W _ (by decide) (by decide) kb6
      · exact W _ (by decide) (by decide) kb7
      · exact W _ (by decide) (by decide) kb8
      · exact W _ (by decide) (by decide) kb9
      · exact W _ (by decide) (by decide) kb10
      · exact W _ (by decide) (by decide) kb11⟩
    have TBL : LamX.TabB base mg qL PL := TBs (qL, PL) (by simp)
    have TBR : LamX.TabB base mg qR PR := TBs (qR, PR) (by simp)
    have uL : ∀ p ∈ ([(PL, "law.<locals>.<lambda>"), (PR, "_law_pauses_right.<locals>.<lambda>")] : List (Addr × Str)), p.1 = PL → p.2 = ("law.<locals>.<lambda>" : Str) := by
      intro p hp he
      simp only [List.mem_cons, List.not_mem_nil, or_false] at hp
      rcases hp with rfl | rfl
      · rfl
      · exact absurd he.symm nPQ
    have uR : ∀ p ∈ ([(PL, "law.<locals>.<lambda>"), (PR, "_law_pauses_right.<locals>.<lambda>")] : List (Addr × Str)), p.1 = PR → p.2 = ("_law_pauses_right.<locals>.<lambda>" : Str) := by
      intro p hp he
      simp only [List.mem_cons, List.not_mem_nil, or_false] at hp
      rcases hp with rfl | rfl
      · exact absurd he nPQ
      · rfl
    have DR : DefC K mg "_law_pauses_right" s_law_pauses_right ["_law_one", "_law_kept"] (.ref qR) := ⟨fR, _, ⟨⟨_, _, _, _, _, _, _, _, rfl, lR, cR⟩, kR⟩, PySem.W.mg_of X G aR, .all (fun us hl => match us, hl with | [_, _], _ => rfl)⟩
    have FL : FunC K "law" "law" s_law _ _ (.ref qL) := ⟨⟨_, _, _, _, _, _, _, _, rfl, lL, cL⟩, kL⟩
    have c_pr := ok_pauses_right T R DR TBR (by simp) uR c_fo pr_pauses pr_early
    exact ok_law T R FL TBL (by simp) uL c_pool c_policy c_pr c_fo pr_limit
end K2
open PySem PySem.W PyProof.Rows in
set_option maxRecDepth 100000 in
set_option maxHeartbeats 0 in
theorem PySem.Challenge.cw_mostcalls_k04_policies_changed_holds : PySem.Challenge.rw_mostcalls_k04_policies_changed.Holds := by
  w_on; o_law; k_head; (case hw => w_witness2)
  k_fill
  refine Mc.walk_runT (l := PySem.Challenge.rw_mostcalls_k04_policies_changed) (n := 63) (k := 12) (x := "_law_script") rfl (by decide) rfl ⟨rfl, by decide, by decide⟩ (fun w h Y => PySem.W.km_in_of Y) ?F
  case F =>
    intro w mg fa h Y KX G hmg
    have hT8 := PySem.W.km_tabs_of Y
    refine' K2.all_mk KX hT8 G hmg ?ag0 ?lg0 ?cg0 ?kg0 ?ag1 ?lg1 ?cg1 ?kg1 ?ag2 ?lg2 ?cg2 ?kg2 ?ag3 ?lg3 ?cg3 ?kg3 ?ag4 ?lg4 ?cg4 ?kg4 ?ag5 ?lg5 ?cg5 ?kg5 ?ag6 ?lg6 ?cg6 ?kg6 ?ag7 ?lg7 ?cg7 ?kg7 ?ag8 ?lg8 ?cg8 ?kg8 ?ag9 ?lg9 ?cg9 ?kg9 ?ag10 ?lg10 ?cg10 ?kg10 ?ag11 ?lg11 ?cg11 ?kg11 ?ag12 ?lg12 ?cg12 ?kg12 ?aL ?lL ?cL ?kL ?tbL ?t1L ?chL ?nlL ?mmL ?aR ?lR ?cR ?kR ?tbR ?t1R ?chR ?nlR ?mmR ?nLR ?aO ?lO ?cO ?kO ?z_isinstance ?z_int ?z_bool ?z_str ?z_tuple ?z_len ?z_all ?z_range ?z_repr ?z_max ?z_min ?z_super ?gLET ?gML ?gMT ?gFA ?dFA ?aC ?aI ?lI ?cI ?kI ?iI ?aH ?lH ?cH ?kH ?iH ?d1 ?d2 ?d3 ?d4 ?d5 ?d6 ?pg ?hd ?po ?sa ?mk ?kc ?n1 ?n2 ?n3 ?n4 ?n5 ?n6 ?n7 ?p1_name ?p2_name ?p3_name ?apname ?lpname ?cpname ?kpname ?p1_limit ?p2_limit ?p3_limit ?aplimit ?lplimit ?cplimit ?kplimit ?p1_tries ?p2_tries ?p3_tries ?aptries ?lptries ?cptries ?kptries ?p1_pauses ?p2_pauses ?p3_pauses ?appauses ?lppauses ?cppauses ?kppauses ?p1_early ?p2_early ?p3_early ?apearly ?lpearly ?cpearly ?kpearly ?p1_lossy ?p2_lossy ?p3_lossy ?aplossy ?lplossy ?cplossy ?kplossy ?p1_ending ?p2_ending ?p3_ending ?apending ?lpending ?cpending ?kpending ?tp ?top ?gN ?xN ?rvN ?saN ?beN ?tyN ?kpN ?suN ?veN ?gaN ?ggN ?hdN ?nfN ?iN ?lN ?tN ?cdN ?lcN ?v2N ?fiN ?llN ?gP ?xP ?rvP ?saP ?beP ?tyP ?kpP ?suP ?veP ?gaP ?ggP ?hdP ?nfP ?iP ?lP ?tP ?cdP ?lcP ?v2P ?fiP ?llP ?subPP
    (case ag0 => k_is)
    (case lg0 => k_is)
    (case cg0 => k_is)
    (case kg0 => k_is)
    (case ag1 => k_is)
    (case lg1 => k_is)
    (case cg1 => k_is)
    (case kg1 => k_is)
    (case ag2 => k_is)
    (case lg2 => k_is)
    (case cg2 => k_is)
    (case kg2 => k_is)
    (case ag3 => k_is)
    (case lg3 => k_is)
    (case cg3 => k_is)
    (case kg3 => k_is)
    (case ag4 => k_is)
    (case lg4 => k_is)
    (case cg4 => k_is)
    (case kg4 => k_is)
    (case ag5 => k_is)
    (case lg5 => k_is)
    (case cg5 => k_is)
    (case kg5 => k_is)
    (case ag6 => k_is)
    (case lg6 => k_is)
    (case cg6 => k_is)
    (case kg6 => k_is)
    (case ag7 => k_is)
    (case lg7 => k_is)
    (case cg7 => k_is)
    (case kg7 => k_is)
    (case ag8 => k_is)
    (case lg8 => k_is)
    (case cg8 => k_is)
    (case kg8 => k_is)
    (case ag9 => k_is)
    (case lg9 => k_is)
    (case cg9 => k_is)
    (case kg9 => k_is)
    (case ag10 => k_is)
    (case lg10 => k_is)
    (case cg10 => k_is)
    (case kg10 => k_is)
    (case ag11 => k_is)
    (case lg11 => k_is)
    (case cg11 => k_is)
    (case kg11 => k_is)
    (case ag12 => k_is)
    (case lg12 => k_is)
    (case cg12 => k_is)
    (case kg12 => k_is)
    (case aL => k_is)
    (case lL => k_is)
    (case cL => k_is)
    (case kL => k_is)
    (case tbL => k_is)
    (case t1L => first | rfl | decide +kernel)
    (case chL => first | kernel_rfl | k_is)
    (case nlL => first | k_is | kernel_rfl | rfl)
    (case mmL => first | k_mem | decide +kernel)
    (case aR => k_is)
    (case lR => k_is)
    (case cR => k_is)
    (case kR => k_is)
    (case tbR => k_is)
    (case t1R => first | rfl | decide +kernel)
    (case chR => first | kernel_rfl | k_is)
    (case nlR => first | k_is | kernel_rfl | rfl)
    (case mmR => first | k_mem | decide +kernel)
    (case nLR => first | rfl | decide +kernel)
    (case aO => k_is)
    (case lO => k_is)
    (case cO => k_is)
    (case kO => k_is)
    (case z_isinstance => k_is)
    (case z_int => k_is)
    (case z_bool => k_is)
    (case z_str => k_is)
    (case z_tuple => k_is)
    (case z_len => k_is)
    (case z_all => k_is)
    (case z_range => k_is)
    (case z_repr => k_is)
    (case z_max => k_is)
    (case z_min => k_is)
    (case z_super => k_is)
    (case gLET => k_is)
    (case gML => k_is)
    (case gMT => k_is)
    (case gFA => k_is)
    (case dFA => k_is)
    (case aC => k_is)
    (case aI => k_is)
    (case lI => k_is)
    (case cI => k_is)
    (case kI => k_is)
    (case iI => k_is)
    (case aH => k_is)
    (case lH => k_is)
    (case cH => k_is)
    (case kH => k_is)
    (case iH => k_is)
    (case d1 => k_is)
    (case d2 => k_is)
    (case d3 => k_is)
    (case d4 => k_is)
    (case d5 => k_is)
    (case d6 => k_is)
    (case pg => k_is)
    (case hd => k_is)
    (case po => k_is)
    (case sa => k_is)
    (case mk => k_is)
    (case kc => k_is)
    (case n1 => k_is)
    (case n2 => k_is)
    (case n3 => k_is)
    (case n4 => k_is)
    (case n5 => k_is)
    (case n6 => k_is)
    (case n7 => k_is)
    (case p1_name => k_is)
    (case p2_name => k_is)
    (case p3_name => k_is)
    (case apname => k_is)
    (case lpname => k_is)
    (case cpname => k_is)
    (case kpname => k_is)
    (case p1_limit => k_is)
    (case p2_limit => k_is)
    (case p3_limit => k_is)
    (case aplimit => k_is)
    (case lplimit => k_is)
    (case cplimit => k_is)
    (case kplimit => k_is)
    (case p1_tries => k_is)
    (case p2_tries => k_is)
    (case p3_tries => k_is)
    (case aptries => k_is)
    (case lptries => k_is)
    (case cptries => k_is)
    (case kptries => k_is)
    (case p1_pauses => k_is)
    (case p2_pauses => k_is)
    (case p3_pauses => k_is)
    (case appauses => k_is)
    (case lppauses => k_is)
    (case cppauses => k_is)
    (case kppauses => k_is)
    (case p1_early => k_is)
    (case p2_early => k_is)
    (case p3_early => k_is)
    (case apearly => k_is)
    (case lpearly => k_is)
    (case cpearly => k_is)
    (case kpearly => k_is)
    (case p1_lossy => k_is)
    (case p2_lossy => k_is)
    (case p3_lossy => k_is)
    (case aplossy => k_is)
    (case lplossy => k_is)
    (case cplossy => k_is)
    (case kplossy => k_is)
    (case p1_ending => k_is)
    (case p2_ending => k_is)
    (case p3_ending => k_is)
    (case apending => k_is)
    (case lpending => k_is)
    (case cpending => k_is)
    (case kpending => k_is)
    (case tp => k_is)
    (case top => first | rfl | decide +kernel)
    (case gN => k_is)
    (case xN => k_is)
    (case rvN => first | decide +kernel | rfl)
    (case saN => k_is)
    (case beN => k_is)
    (case tyN => k_is)
    (case kpN => k_is)
    (case suN => first | ks_is | k_is | kernel_rfl)
    (case veN => k_is)
    (case gaN => k_is)
    (case ggN => k_is)
    (case hdN => k_is)
    (case nfN => k_is)
    (case iN => k_is)
    (case lN => k_is)
    (case tN => k_is)
    (case cdN => k_is)
    (case lcN => k_is)
    (case v2N => first | rfl | decide +kernel)
    (case fiN => first | rfl | decide +kernel)
    (case llN => k_is)
    (case gP => k_is)
    (case xP => k_is)
    (case rvP => first | decide +kernel | rfl)
    (case saP => k_is)
    (case beP => k_is)
    (case tyP => k_is)
    (case kpP => k_is)
    (case suP => first | ks_is | k_is | kernel_rfl)
    (case veP => k_is)
    (case gaP => k_is)
    (case ggP => k_is)
    (case hdP => k_is)
    (case nfP => k_is)
    (case iP => k_is)
    (case lP => k_is)
    (case tP => k_is)
    (case cdP => k_is)
    (case lcP => k_is)
    (case v2P => first | rfl | decide +kernel)
    (case fiP => first | rfl | decide +kernel)
    (case llP => k_is)
    (case subPP => k_is)
