import PyProof.Rows.All
import Wide.All
import OpenK.AllK
import Wide.FinOn
import HandS.ForMost
import HandS.EndBits
import HandS.MakeKwOnly
import HandS.Property
import HandS.IsInst
import HandS.TupMul
import PyProof.ReprRoads
import HandS.Walk
import HandS.ExcInit
import HandS.ExcOwn
import HandS.TryMany
import HandS.ExcField
import HandS.Nested
import KE.KExcSuper
import KE.KExcIs
import HandS.WordsExc
import HandS.Wide
import KE.KDictWalk
import PySem.Challenge.RW_mostcalls_k01_error_classes
set_option Elab.async false
set_option maxRecDepth 100000
set_option linter.all false
set_option maxHeartbeats 4000000
namespace Mc
open PySem PySem.Spec PyProof.Rows L2

/-! ### repr of data -/
def rRepr (K : PySem.W.Frag) : List V → Hp → VK → Prop := fun xs H Q =>
  ∃ (a : Addr) (d : PyData), xs = [.ref a] ∧ Dp K H (.ref a) d ∧ d.showable = true ∧ d.hasDict = false ∧ d.depth ≤ 40 ∧ d.shown.length ≤ sizeLine ∧ Q (.str d.shown) H

theorem call_repr {X : Cx} (hg : X.A.guards = some []) (hu : X.A.units + 64 < cLine) : CallR X (.builtin "repr") (rRepr X.K) := by
  intro pins s σ H xs us Q I r h
  obtain ⟨a, d, rfl, hd, hs, hx, hdp, hz, q⟩ := h
  cases r with
  | cons ru rn =>
    cases rn
    cases ru
    obtain ⟨as, R⟩ := Dp.reads I d _ _ hd rfl
    exact repr_of_reads' R hs (fun e => by rw [hx] at e; cases e) hg (by omega) (fun b o e => e)
      (fun h' u tk hk => ⟨.str d.shown, H, I.kept hk, ⟨u, rfl⟩, q⟩) hz

/-! ### a def that is run where no repr is under way -/
structure FnG (P : Program) (w : World) (K : PySem.W.Frag) (mg : Str → Option Value) (base : Heap) (CX : CXT) (k : Nat) (f : Addr) (fd : FuncData) (ps : List Str) (sp : Sp) : Prop where
  len : ∀ vs H Q E, sp vs H Q E → vs.length = ps.length
  run : ∀ (A : Around) (outer : List Env) (s : Shared) (H : Hp) (args : Args) (us : List Value) (vs : List V) (Q : VK) (E : XK),
    A.guards = some [] → Room k A → Env0 P w K mg base A outer s H → BindsTo s fd args (ps.zip us) → Vals vs us → sp vs H Q E →
    codeAny (model P w) A (.call (.ref f) args) (CR CX outer P w H s Q E) s

theorem fnG_of {CX : CXT} {P : Program} {w : World} {K : PySem.W.Frag} {mg : Str → Option Value} {base : Heap} {k : Nat} {f : Addr} {x qual : Str} {st : Stmt} {fd : FuncData}
    {N ps : List Str} {sp : Sp} (F : Fun K x qual st f fd) (S : FnScope N ps (defScope st)) (len : ∀ vs H Q E, sp vs H Q E → vs.length = ps.length)
    (hbody : ∀ (cdv : Value) (A : Around) (outer : List Env) (s : Shared) (H : Hp) (vs : List V) (Q : VK) (E : XK), A.guards = some [] →
      Room k (A.deeper (envOfC qual (defScope st) s.heap.objs.size f cdv)) → sp vs H Q E →
      ∃ t, PSs (cxOf CX P w K mg base N qual (defScope st) f cdv A outer s H E).nox (defBody st) t ∧ t { nx := fun _ H' => Q .non H', rt := Q } (start N vs) H) :
    FnG P w K mg base CX (k + 1) f fd ps sp := by
  obtain ⟨oc, od, kV, doc, pm, an, cdv, ct, osl, rfl, lk, hcd⟩ := F.ex
  constructor
  · exact len
  intro A outer s H args us vs Q E hg room env bind rel want
  have inh : K.In s.heap := env.mod.kin.keeps fun b o e => (env.bs b o e).1
  have nol : s.heap.NoLimit := env.mod.nolimit.keeps fun b o e => (env.bs b o e).1
  have kinds : ∀ y ∈ ps.zip us, (defScope st).names.lookup y.1 = some .local ∨
      ((defScope st).names.lookup y.1 = some .cell ∧ ((cellsFrom (s.heap.objs.size + 1) (defScope st).names []).lookup y.1).isSome = true) := by
    rintro ⟨n, v⟩ hy
    have hn := (List.of_mem_zip hy).1
    rcases S.par n hn with q | q
    · exact Or.inl q
    · exact Or.inr ⟨q, PySem.W.cellsFrom_some _ _ _ (Or.inl q)⟩
  have go := hbody cdv A outer s H vs Q E hg (room.deeper _) want
  obtain ⟨t, ht0, hq⟩ := go
  have ht := ht0.nox
  refine codeAny_call_function room.depth (inh _ _ lk) rfl S.co S.gen rfl (PySem.W.codeRec_of inh hcd) (bind _ _ _ _ ?_)
  refine wpAny_newFunctionEnv_cells S.kind kinds fun en hen s1 inc => ?_
  subst hen
  refine ⟨nol.keeps inc.toInCall.keep, codeAny_func ?_⟩
  have J := inv_start (CX := CX) (E := E) S room.hd env (len _ _ _ _ want) rel inc
  have R := ht.run [] s1 (start N vs) H _ J hq
  refine wpAny_mono R ?_ (fun _ _ z => z)
  intro fl s' z
  cases fl with
  | next => obtain ⟨σ', H', J', q⟩ := z; exact ⟨V.non, H', J'.os, J'.bare, J'.base, J'.hok, rfl, q⟩
  | ret u => obtain ⟨v, σ', H', J', rv, q⟩ := z; exact ⟨v, H', J'.os, J'.bare, J'.base, J'.hok, rv, q⟩
  | brk => obtain ⟨_, _, _, q⟩ := z; exact False.elim q
  | cont => obtain ⟨_, _, _, q⟩ := z; exact False.elim q

/-! ### the law, run by the claim's caller -/
theorem law_run {P : Program} {w : World} {K : PySem.W.Frag} {mg mb : Str → Option Value} {k : Nat} {fa a : Addr} {fd : FuncData} {x : Str} {sp : Sp} {s1 : Shared} {vs : List Value} {ns : List Int}
    (inK : K.In s1.heap) (gl : s1.heap.Ns mainGlobals mg) (bl : s1.heap.Ns builtinsNs mb) (bb : ∀ y : Str, y ≠ "__name__" → mb y = bootBuiltins y) (nl : s1.heap.NoLimit) (ge : s1.gens = #[])
    (obj : s1.heap.get? a = some { cls := .type "list", data := .seq vs.toArray }) (hIn : IntsAre vs ns) (len : ns.length ≤ sizeLine) (room : Room k callerA)
    (F : ∀ base : Heap, K.In base → base.Ns mainGlobals mg → FnG P w K mg base CX0 k fa fd [x] sp) (bnd : ∀ (s : Shared) (u : Value), BindsTo s fd ⟨[u], []⟩ [(x, u)])
    (pr : ∀ H : Hp, Only H → SqL K H a (ns.map V.int) → sp [.ref a] H (fun v _ => v = .bl true) E0) :
    codeAny (model P w) callerA (.call (.ref fa) ⟨[.ref a], []⟩) (fun r s' => r = .ok (.ret (.bool true)) ∧ OldK s1.heap s'.heap ∧ s'.os = s1.os ∧ AllBare s'.gens) s1 := by
  have rel := vals_ints hIn
  have lv := hIn.length
  have main : ∀ H : Hp, Only H → SqL K H a (ns.map V.int) → HOk P w H s1.heap → (∀ b, H b ≠ none → b = a) → (H a ≠ none → K.lookup a = none) →
      codeAny (model P w) callerA (.call (.ref fa) ⟨[.ref a], []⟩) (fun r s' => r = .ok (.ret (.bool true)) ∧ OldK s1.heap s'.heap ∧ s'.os = s1.os ∧ AllBare s'.gens) s1 := by
    intro H onl sq hok onlyA freeK
    have noD : ∀ {b : Addr} {o : Obj} {es : Array DictEntry} {n : Nat}, s1.heap.get? b = some o → o.data = .dict es n → H b = none := by
      intro b o es n e d
      rcases hq : H b with _ | u
      · rfl
      · have eb : b = a := onlyA b (by rw [hq]; intro z; cases z)
        rw [eb, obj] at e
        cases e
        exact Data.noConfusion d
    have keepNs : ∀ {b : Addr} {m : Str → Option Value}, s1.heap.Ns b m → (hidT s1.heap H).Ns b m := by
      rintro b m ⟨o, es, n, e, d, r⟩
      exact ⟨o, es, n, hidT_get e (noD e d), d, r⟩
    have inB : K.In (hidT s1.heap H) := by
      intro b o e
      refine hidT_get (inK b o e) ?_
      rcases hq : H b with _ | u
      · rfl
      · have nn : H b ≠ none := by rw [hq]; intro z; cases z
        have eb := onlyA b nn
        rw [eb] at nn e
        rw [freeK nn] at e
        cases e
    obtain ⟨mc, c1, c2⟩ := nl
    have md : Mod K mg (hidT s1.heap H) := ⟨inB, keepNs gl, ⟨mb, keepNs bl, bb⟩, ⟨mc, keepNs c1, c2⟩⟩
    have env : Env0 P w K mg (hidT s1.heap H) callerA [] s1 H :=
      ⟨rfl, md, fun b o e => of_hidT e, Nat.le_of_eq (hidT_size _ _), trivial, (fun b hb => (List.not_mem_nil (show b ∈ ([] : List Addr) from hb)).elim), hok, AllBare.of_eq ge⟩
    have R := (F _ inB (keepNs gl)).run callerA [] s1 H ⟨[.ref a], []⟩ [.ref a] [.ref a] (fun v _ => v = .bl true) E0 rfl room env (bnd s1 (.ref a)) (.cons rfl .nil) (pr H onl sq)
    refine codeAny_mono R ?_
    intro r s' z
    match r, z with
    | .ok (.ret u), z =>
      obtain ⟨v, H', eo, br, un, hok', rv, ev⟩ := z
      subst ev
      cases rv
      refine ⟨rfl, OldK.of_keep ?_, eo, br⟩
      intro b o e
      rcases hq : H b with _ | u
      · exact un.keep b o e hq (fun z => (List.not_mem_nil (show b ∈ ([] : List Addr) from z)).elim) (fun z => (List.not_mem_nil z).elim)
      · rcases onl b with q | ⟨ob, xs, q⟩
        · rw [hq] at q
          cases q
        · have f1 := (hok b _ q).1
          have f2 := (hok' b _ (un.frzs b ob _ q)).1
          rw [e] at f1
          cases f1
          exact f2
  rcases hk : K.lookup a with _ | o
  · let H : Hp := fun b => if b = a then some (.frz { cls := .type "list", data := .seq vs.toArray } (.lst (ns.map V.int))) else none
    have at_a : H a = some (.frz { cls := .type "list", data := .seq vs.toArray } (.lst (ns.map V.int))) := if_pos rfl
    have off : ∀ b, b ≠ a → H b = none := fun b hb => if_neg hb
    refine main H (fun b => ?_) (.inl (.inr ⟨_, at_a⟩)) (fun b u z => ?_) (fun b z => ?_) (fun _ => hk)
    · by_cases hb : b = a
      · subst hb
        exact Or.inr ⟨_, _, at_a⟩
      · exact Or.inl (off b hb)
    · by_cases hb : b = a
      · subst hb
        rw [at_a] at z
        cases z
        exact ⟨obj, by rw [List.length_map]; exact len, vs, _, rel, obj⟩
      · rw [off b hb] at z
        cases z
    · by_cases hb : b = a
      · exact hb
      · exact absurd (off b hb) z
  · have e := inK a o hk
    rw [obj] at e
    cases e
    refine main (fun _ => none) (fun _ => Or.inl rfl) (Or.inr ⟨_, vs.toArray, _, hk, rfl, rfl, rfl, ?_, by simpa using rel⟩) (fun b u z => nomatch z) (fun b z => absurd rfl z) (fun z => absurd rfl z)
    rw [List.size_toArray, lv]
    exact len

theorem walk_run {l : PySem.W.OpenLaw} {n k : Nat} {q : Program} {loose : List Str} {XP : (Str → Option Value) → Heap → Prop} {YP : World → Heap → Prop} {d : DefRec} {K : Params → PySem.W.Frag} {sp : PySem.W.Frag → Sp} {x : Str}
    (hn : l.most = some n) (hn2 : n ≤ sizeLine) (hdf : d.params.defaults = []) (room : Room k callerA) (hY : ∀ (w : World) (h : Heap), YP w h → (K w.params).In h)
    (F : ∀ (w : World) (mg : Str → Option Value) (fa : Addr) (h : Heap), (K w.params).In h → h.Ns mainGlobals mg → mg d.name = some (.ref fa) →
      ∃ fd : FuncData, (∀ (s : Shared) (u : Value), BindsTo s fd ⟨[u], []⟩ [(x, u)]) ∧
        ∀ base : Heap, (K w.params).In base → base.Ns mainGlobals mg → FnG l.prog w (K w.params) mg base CX0 k fa fd [x] (sp (K w.params)))
    (pr : ∀ (K : PySem.W.Frag) (H : Hp) (a : Addr) (ns : List Int), ns.length ≤ n → (∀ z ∈ ns, Builtin.Int.intBits z ≤ 1048576) → SqL K H a (ns.map V.int) → sp K [.ref a] H (fun v _ => v = .bl true) E0) :
    PySem.W.WalkO q loose XP YP l.row.toRowW d [] (fun f vs => PySem.call f vs) := by
  refine Att.attach_callB hn hdf ?_
  intro w s0 s1 mg mb fa o pm cd doc a vs ns G Y ho hd hcd hmg hobj hints hlen hbits hg
  obtain ⟨fd, hb, hF⟩ := F w mg fa _ (hY w _ Y) G.T.g hmg
  exact law_run (hY w _ Y) G.T.g G.T.b G.T.builtins G.T.nolimit hg hobj hints (Nat.le_trans hlen hn2) room hF hb (fun H _ hS => pr _ H a ns hlen hbits hS)
end Mc

namespace Mc
open PySem PySem.Spec PyProof.Rows L2

/-! ### == and != of an instance with the text's own `__eq__` -/
/-- the other side's type -/
inductive RT (H : Hp) : V → Value → Prop where
  | non : RT H .non (.type "NoneType")
  | int (i : Int) : RT H (.int i) (.type "int")
  | bl (b : Bool) : RT H (.bl b) (.type "bool")
  | str (z : Str) : RT H (.str z) (.type "str")
  | lst {a : Addr} {xs : List V} (e : H a = some (.lst xs)) : RT H (.ref a) (.type "list")
  | dK {a : Addr} {xs : List (Key × V)} (e : H a = some (.dK xs)) : RT H (.ref a) (.type "dict")
  | ins {a C dx : Addr} {fs : List (Str × V)} (e : H a = some (.ins C dx fs)) : RT H (.ref a) (.ref C)

theorem typ_at {M : Model} {h : Heap} {y : Addr} {o : Obj} {c : Value} (ho : h.get? y = some o) (hc : o.cls = c) : PySem.W.Looks M h (typeOf (.ref y)) c :=
  hc ▸ (PySem.W.Looks.ld ho).andThen .now

theorem RT.looks {X : Cx} {pins : List (Addr × Obj)} {σ : L2.St} {H : Hp} {s : Shared} {M : Model} {y : V} {u t : Value} (I : Inv X pins σ H s) (r : RT H y t) (ru : RelV y u) : PySem.W.Looks M s.heap (typeOf u) t := by
  cases r with
  | non => cases (show u = Value.none from ru); exact PySem.W.Looks.of_pure rfl
  | int i => obtain ⟨k, q⟩ := (show ∃ k, u = Value.int i k from ru); cases q; exact PySem.W.Looks.of_pure rfl
  | bl b => cases (show u = Value.bool b from ru); exact PySem.W.Looks.of_pure rfl
  | str z => obtain ⟨k, q⟩ := (show ∃ k, u = Value.str z k from ru); cases q; exact PySem.W.Looks.of_pure rfl
  | @lst a xs e =>
    cases (show u = Value.ref a from ru)
    obtain ⟨_, _, n, _, h1⟩ := (show ObjOk X.prog X.w H s.heap a (.lst xs) from I.hok a _ e)
    exact typ_at h1 rfl
  | @dK a xs e =>
    cases (show u = Value.ref a from ru)
    obtain ⟨_, _, vs, _, o, es, ep, h1, h2, _⟩ := (show ObjOk X.prog X.w H s.heap a (.dK xs) from I.hok a _ e)
    exact typ_at h1 h2.1
  | @ins a C dx fs e =>
    cases (show u = Value.ref a from ru)
    obtain ⟨mA, J, _⟩ := ins_get I.hok e
    obtain ⟨od, J, _⟩ := J.look
    exact J.type

theorem nf_ins {K : PySem.W.Frag} {C : Addr} : PySem.W.notFirst K C (.ref C) = true := by simp [PySem.W.notFirst]
theorem nf_ty {K : PySem.W.Frag} {C : Addr} {n : String} {l : List Value} (e : fastBuiltinMro n = some l) (hl : l.contains (.ref C) = false) : PySem.W.notFirst K C (.type n) = true := by
  have q : PySem.W.subIn K (.type n) (.ref C) = some false := by
    show (fastBuiltinMro n).map (·.contains (.ref C)) = some false
    rw [e, Option.map_some, hl]
  simp [PySem.W.notFirst, q]
theorem nf_none {K : PySem.W.Frag} {C : Addr} : PySem.W.notFirst K C (.type "NoneType") = true := nf_ty (l := [.type "NoneType", .type "object"]) (by decide +kernel) (by simp)
theorem nf_int {K : PySem.W.Frag} {C : Addr} : PySem.W.notFirst K C (.type "int") = true := nf_ty (l := [.type "int", .type "object"]) (by decide +kernel) (by simp)
theorem nf_list {K : PySem.W.Frag} {C : Addr} : PySem.W.notFirst K C (.type "list") = true := nf_ty (l := [.type "list", .type "object"]) (by decide +kernel) (by simp)

section
variable {prog : Program} {w : World} {A : Around} {E : Value → Shared → Prop} {s : Shared} {K : PySem.W.Frag} {x C L f : Addr} {h0 : Heap} {m : Str → Option Value} {ox : Obj} {od : Option Obj} {b tb : Value}
open PySem.W
theorem bound_ne {M : Model} {args : List Value} {Q : Option Value → Shared → Prop} (X : K.In s.heap) (I : InstAt s.heap x ox C od) (hs : findIn K (.ref C) "__ne__" = some (some (.builtin "object.__ne__")))
    (h : wpAny M A (call (.builtin "object.__ne__") (.ref x :: args)) (fun v => Q (some v)) E s) : wpAny M A (callSpecialIfBound? (.ref x) "__ne__" args) Q E s := by
  have all : wpAny M A (call (.builtin "object.__ne__") ([.ref x] ++ args) >>= fun v => pure (some v)) Q E s :=
    wpAny_bind (wpAny_mono h (fun v s' q => wpAny_pure q) (fun _ _ q => q))
  simp only [callSpecialIfBound?, bindSpecialIfBound?]
  refine wpAny_holding (wpAny_bind (wpAny_bind (wpAny_bind (I.type.here ((looks_findIn X hs).here ?_)))))
  refine wpAny_bind (wpAny_askSetting (wpAny_ite ?_))
  split
  · exact wpAny_bind (wpAny_of_eq (F.cmp_object.ne.bind _) (wpAny_pure (by exact all)))
  · exact wpAny_tryCatch (wpAny_bind (wpAny_of_eq (F.cmp_object.ne.bind _) (wpAny_pure (by exact all))))

theorem ne_body (hu : A.units < cLine) (X : K.In s.heap) (I : InstAt s.heap x ox C od) (he : findIn K (.ref C) "__eq__" = some (some (.ref f))) (hf : isFn K (.ref f) = true) {Q : Fin → Shared → Prop}
    (h : wpAny (model prog w) A (call (.ref f) [.ref x, b]) (fun v s' => ∃ r, v = .bool r ∧ Q (.done (.ret (.bool (!r)))) s') E s) :
    wpAny (model prog w) A (Builtin.«object.__ne__» ⟨[.ref x, b], []⟩) Q E s := by
  unfold Builtin.«object.__ne__»
  repeat (first
    | with_reducible refine wpAny_cRoomFor hu ?_
    | (refine wpAny_bind (m := callSpecialIfBound? (.ref x) (Str.ofString "__eq__") [b]) (ifBound_K X I he hf (wpAny_mono h (fun v s' q => ?_) fun _ _ e => e)); obtain ⟨r, rfl, q⟩ := q)
    | exact q
    | exact wpAny_pure q
    | (refine wpAny_bind (m := truthy (.bool _)) (wpAny_truthy_bool ?_))
    | wp_step)

theorem ne_K (hu : A.units + 1 < cLine) (Fm : Fr h0 L s.heap m) (X0 : K.In h0) (I : InstAt s.heap x ox C od) (hb : Looks (model prog w) s.heap (typeOf b) tb) (hn : notFirst K C tb = true)
    (hs : findIn K (.ref C) "__ne__" = some (some (.builtin "object.__ne__"))) (he : findIn K (.ref C) "__eq__" = some (some (.ref f))) (hf : isFn K (.ref f) = true) (hm : mroIn K C (.type "object") = some true)
    {Q : Value → Shared → Prop} (h : wpAny (model prog w) A.in1 (call (.ref f) [.ref x, b]) (fun v s' => ∃ r, v = .bool r ∧ Q (.bool (!r)) s') E s) :
    wpAny (model prog w) A (richCompare .NotEq (.ref x) b) Q E s := by
  have X := X0.keeps Fm.keep
  have one : wpAny (model prog w) A (tryCompare (.ref x) (cmpInfo .NotEq).2.1 b) (fun r s' => ∃ v, r = some v ∧ Q v s') E s := by
    unfold tryCompare
    refine wpAny_bind (bound_ne X I hs (wpAny_call (codeAny_call_builtin F.cmp_object.ne.plain F.cmpEntry_ne (check_slot F.cmpKind_ne F.cmpSplit_ne (I.type.andThen (looks_mroIn X hm)) (F.cmpArgs_ne _ _) ?_))))
    refine ne_body (A := A.in1) (by show A.units + 1 < cLine; exact hu) X I he hf (wpAny_mono h (fun v s' q => ?_) fun _ _ e => e)
    obtain ⟨r, rfl, q⟩ := q
    first | exact ⟨r, rfl, wpAny_pure ⟨_, rfl, q⟩⟩ | exact ⟨r, rfl, ⟨_, rfl, q⟩⟩ | exact ⟨r, rfl, wpAny_pure (wpAny_pure ⟨_, rfl, q⟩)⟩
  unfold richCompare
  simp only [oneThing_ref]
  refine wpAny_holding (wpAny_bind (wpAny_cRoomFor (Nat.lt_of_succ_lt hu) ?_))
  refine wpAny_bind (I.type.here (wpAny_bind (hb.here ?_)))
  have fin : wpAny (model prog w) A (tryCompare (.ref x) (cmpInfo .NotEq).2.1 b) (fun r s' => ∃ v, r = some v ∧ Q v s') E s := one
  split
  · rename_i q
    have e : subIn K tb (.ref C) = some false := by
      rcases Bool.or_eq_true_iff.mp hn with e | e
      · rw [beq_iff_eq.mp e] at q
        simp at q
      · exact beq_iff_eq.mp e
    refine wpAny_bind ((looks_subIn X e).here ?_)
    simp only [Bool.false_eq_true, if_false]
    refine wpAny_bind (wpAny_mono one ?_ fun _ _ e => e)
    rintro r s' ⟨v, rfl, hq⟩
    exact wpAny_pure hq
  · refine wpAny_bind (wpAny_pure ?_)
    simp only [Bool.false_eq_true, if_false]
    refine wpAny_bind (wpAny_mono one ?_ fun _ _ e => e)
    rintro r s' ⟨v, rfl, hq⟩
    exact wpAny_pure hq
end

section
variable {X : Cx} {CX : CXT} {k : Nat} {C f : Addr} {fd : FuncData} {ps : List Str} {sp : Sp} {E : XK}
/-- the way a def is run from within, at another place that has the same frames -/
theorem run_in {A : Around} {pins : List (Addr × Obj)} {σ : L2.St} {H : Hp} {s : Shared} {Q : VK} {us : List Value} {vs : List V} (fr : A.frames = X.A.frames) (G : FnOk X.prog X.w X.K X.mg X.base CX k f fd ps sp) (hr : Room k A)
    (hb : Binds X.K fd ps []) (hx : Passes CX X E) (I : Inv X pins σ H s) (r : Vals vs us) (h : sp vs H Q E) : wpAny (model X.prog X.w) A (call (.ref f) us) (EP X pins σ Q) X.xe s := by
  have e0 : Env0 X.prog X.w X.K X.mg X.base A X.stack s H := by
    have e := I.env0
    exact ⟨fr.trans e.frames, e.mod, e.bs, e.bsz, e.funs, e.frf, e.hok, e.bare⟩
  have hl : (us ++ ([] : List Value)).length = ps.length := by
    rw [List.append_nil, ← r.length]
    exact G.len _ _ _ _ h
  have bd := hb s us I.kIn hl
  rw [List.append_nil] at bd
  refine wpAny_call (codeAny_mono (G.run A X.stack s H ⟨us, []⟩ us vs Q E hr e0 bd r h) ?_)
  intro z s' hz
  match z, hz with
  | .error e, hz => exact hx pins σ H s e s' I hz
  | .ok (.ret u), hz => exact I.after hz

def rCmpO (C : Addr) (sp : Sp) (E : XK) (K : PySem.W.Frag) (neg : Bool) : R2 := fun x y H Q => ∃ (a dx : Addr) (fs : List (Str × V)) (t : Value), x = .ref a ∧ H a = some (.ins C dx fs) ∧ RT H y t ∧ PySem.W.notFirst K C t = true ∧
  sp [x, y] H (fun v H' => ∃ b, v = .bl b ∧ Q (.bl (if neg then !b else b)) H') E

structure OwnCmp (K : PySem.W.Frag) (C f : Addr) : Prop where
  eq : PySem.W.findIn K (.ref C) "__eq__" = some (some (.ref f))
  fn : PySem.W.isFn K (.ref f) = true
  ne : PySem.W.findIn K (.ref C) "__ne__" = some (some (.builtin "object.__ne__"))
  ob : PySem.W.mroIn K C (.type "object") = some true

theorem op_eqO (G : FnOk X.prog X.w X.K X.mg X.base CX k f fd ps sp) (O : OwnCmp X.K C f) (hb : Binds X.K fd ps []) (hx : Passes CX X E) (hr : Room k X.A) : OpR X (compareOp .Eq) (rCmpO C sp E X.K false) := by
  intro pins s σ H x y u v Q I rx ry h
  obtain ⟨a, dx, fs, t, rfl, ha, rt, nf, q⟩ := h
  cases rx
  obtain ⟨mA, J, _⟩ := ins_get I.hok ha
  obtain ⟨od, J, _⟩ := J.look
  obtain ⟨m, hF⟩ := I.fr
  show wpAny (model X.prog X.w) X.A (richCompare .Eq (.ref a) v) (EP X pins σ Q) X.xe s
  refine PySem.W.cmp_K (op := .Eq) (tb := t) hr.units0 hF I.ok.mod.kin J (rt.looks I ry) nf O.eq O.fn ?_
  refine thn (run_in rfl G hr hb hx I (.cons (show RelV (.ref a) (.ref a) from rfl) (.cons ry .nil)) q) ?_
  rintro w s' ⟨z, H', I', rz, b, rfl, q'⟩
  cases rz
  exact ⟨.bl b, H', I', rfl, q'⟩

theorem op_neO (G : FnOk X.prog X.w X.K X.mg X.base CX k f fd ps sp) (O : OwnCmp X.K C f) (hb : Binds X.K fd ps []) (hx : Passes CX X E) (hr : Room (k + 1) X.A) : OpR X (compareOp .NotEq) (rCmpO C sp E X.K true) := by
  intro pins s σ H x y u v Q I rx ry h
  obtain ⟨a, dx, fs, t, rfl, ha, rt, nf, q⟩ := h
  cases rx
  obtain ⟨mA, J, _⟩ := ins_get I.hok ha
  obtain ⟨od, J, _⟩ := J.look
  obtain ⟨m, hF⟩ := I.fr
  show wpAny (model X.prog X.w) X.A (richCompare .NotEq (.ref a) v) (EP X pins σ Q) X.xe s
  refine ne_K (tb := t) (by have := hr.units; omega) hF I.ok.mod.kin J (rt.looks I ry) nf O.ne O.eq O.fn O.ob ?_
  refine thn (run_in (A := X.A.in1) rfl G hr.in1 hb hx I (.cons (show RelV (.ref a) (.ref a) from rfl) (.cons ry .nil)) q) ?_
  rintro w s' ⟨z, H', I', rz, b, rfl, q'⟩
  cases rz
  exact ⟨b, rfl, .bl (!b), H', I', rfl, q'⟩
end
end Mc

namespace Mc
open PySem PySem.Spec PyProof.Rows L2
open AutoSeq1 (wpAny_loadPart')

/-! ### a tuple times nought or one -/
theorem mul_nought (l : Addr) (y : Value) (n : Nat) (dd : Option Addr) (sl : Array (Option Value)) (u : Tok) :
    Meets (Builtin.«tuple.__mul__» ⟨[.ref l, .int 0 u], []⟩) (fun _ R s => s.heap.get? l = some { cls := .type "tuple", dict := dd, data := .seq #[y] n, slots := sl } ∧
      R (.ok (.ret (Value.ref s.heap.objs.size))) { s with heap := s.heap.push { cls := Value.type "tuple", data := Data.seq #[] }, toks := s.toks }) := by
  refine .of_wp ?_
  rintro prog w A R ⟨hp, g, d, tk, os⟩ ⟨hl, h⟩
  have f1 := AutoSeq1.idx_int
  wp_walk using wpAny_loadPart' hl
  exact ⟨_, rfl, h⟩
theorem mul_single (l : Addr) (y : Value) (n : Nat) (dd : Option Addr) (sl : Array (Option Value)) (u : Tok) :
    Meets (Builtin.«tuple.__mul__» ⟨[.ref l, .int 1 u], []⟩) (fun _ R s => s.heap.get? l = some { cls := .type "tuple", dict := dd, data := .seq #[y] n, slots := sl } ∧
      R (.ok (.ret (Value.ref l))) s) := by
  refine .of_wp ?_
  rintro prog w A R ⟨hp, g, d, tk, os⟩ ⟨hl, h⟩
  have f1 := AutoSeq1.idx_int
  wp_walk using wpAny_loadPart' hl
  exact ⟨_, rfl, h⟩

/-- (v,) * k, k of 0, 1, 2 -/
def rRepS (K : PySem.W.Frag) : R2 := fun x y H Q => ∃ (l : Addr) (k : Int) (v : V), x = .ref l ∧ y = .int k ∧ SqT K H l [v] ∧ 0 ≤ k ∧ k ≤ 1000 ∧
  (k = 1 → Q (.ref l) H) ∧ (k ≠ 1 → ∀ p, H p = none → Q (.ref p) (upd H p (.tup (List.replicate k.toNat v))))

theorem op_repS {X : Cx} : OpR X (binaryOp .Mult) (rRepS X.K) := by
  intro pins s σ H x y v u Q I rx ry h
  obtain ⟨l, k, z, rfl, rfl, hT, k0, k1, q1, q2⟩ := h
  by_cases hk : 2 ≤ k
  · refine op_repT pins s σ H (.ref l) (.int k) v u Q I rx ry ⟨l, k, [z], rfl, rfl, hT, by simp, hk, k1, (by show 1 ≤ 1000; decide), fun p hp => ?_⟩
    have e : (List.replicate k.toNat [z]).flatten = List.replicate k.toNat z := by
      generalize k.toNat = n
      induction n with
      | zero => rfl
      | succ n ih => rw [List.replicate_succ, List.flatten_cons, ih, List.replicate_succ]; rfl
    rw [e]
    exact q2 (by omega) p hp
  · cases rx
    obtain ⟨t, rfl⟩ := ry
    obtain ⟨its, r, ⟨⟨cls, dd, data, sl⟩, ho, hc, n, hd⟩, hs⟩ := I.tuple hT
    simp only at hc hd
    subst hc hd
    match its, r with
    | [y], .cons ry .nil =>
      have hk' : k = 0 ∨ k = 1 := by omega
      rcases hk' with rfl | rfl
      · refine wpAny_binaryOp_repeat_ref (T := "tuple") (U := "int") (by decide) ⟨_, ho, rfl⟩ (fun s' => typeIs_int s' 0 t) noFill_tuple_mul F.fills_int_mul F.slot_int_rmul repeat_tuple F.slot_int_index.lookup
          (call_meets F.slot_int_rmul (typeIs_int s 0 t) F.entry_int_rmul (F.args_int_rmul_2 _ _) (int_rmul_tuple 0 t l #[y] n dd sl)
            ⟨ho, rfl, ⟨_, ho, rfl⟩, call_meets F.slot_tuple_mul ⟨_, ho, rfl⟩ F.entry_tuple_mul (F.args_tuple_mul_2 _ _) (mul_nought l y n dd sl t) ⟨ho, ?_⟩⟩)
        refine ⟨.ref s.heap.objs.size, _, I.laid (t' := s.toks) (o := .tup []) (fun b ob q => Heap.get?_push_of_some _ q) (Nat.le_refl _) ?_, rfl, q2 (by decide) _ (I.hok.fresh (Nat.le_refl _))⟩
        exact ⟨Nat.zero_le _, _, .nil, IsTup.new _ _⟩
      · refine wpAny_binaryOp_repeat_ref (T := "tuple") (U := "int") (by decide) ⟨_, ho, rfl⟩ (fun s' => typeIs_int s' 1 t) noFill_tuple_mul F.fills_int_mul F.slot_int_rmul repeat_tuple F.slot_int_index.lookup
          (call_meets F.slot_int_rmul (typeIs_int s 1 t) F.entry_int_rmul (F.args_int_rmul_2 _ _) (int_rmul_tuple 1 t l #[y] n dd sl)
            ⟨ho, rfl, ⟨_, ho, rfl⟩, call_meets F.slot_tuple_mul ⟨_, ho, rfl⟩ F.entry_tuple_mul (F.args_tuple_mul_2 _ _) (mul_single l y n dd sl t) ⟨ho, ?_⟩⟩)
        exact ⟨.ref l, H, I, rfl, q1 rfl⟩
end Mc

namespace Mc
open PySem PySem.Spec PyProof.Rows L2

/-- a new tuple, a new list -/
abbrev TupG (Q : VK) (xs : List V) (H1 : Hp) : Prop := xs.length ≤ sizeLine ∧ ∀ p, H1 p = none → Q (.ref p) (upd H1 p (.tup xs))
abbrev LstG (Q : VK) (xs : List V) (H1 : Hp) : Prop := xs.length ≤ sizeLine ∧ ∀ p, H1 p = none → Q (.ref p) (upd H1 p (.lst xs))
section
variable {σ : L2.St} {H : Hp} {Q : VK} {QB : Bool → Hp → Prop} {QA : List V → Hp → Prop} {QS : L2.St → Hp → Prop} {D : Ends} {ta tb te : TE} {tt tu : TT} {t u : TS} {tr tk : TA} {r : R2} {v x y : V} {i : Nat} {K : PySem.W.Frag}
theorem g_var (h : σ[i]? = some (some v)) (q : Q v H) : tVar i σ H Q := ⟨v, h, q⟩
theorem g_c (q : Q v H) : tC v σ H Q := q
theorem g_op (q : ta σ H fun x H1 => tb σ H1 fun y H2 => r x y H2 Q) : tOp r ta tb σ H Q := q
theorem g_un {r : V → Hp → VK → Prop} (q : ta σ H fun x H1 => r x H1 Q) : tUn r ta σ H Q := q
theorem g_test (q : te σ H fun x H' => ∃ k, x = .bl k ∧ QB k H') : tTest te σ H QB := q
theorem g_B (q : te σ H fun x H' => ∃ k, x = .bl k ∧ QB k H') : tB te σ H QB := q
theorem g_bl {b : Bool} (q : QB b H) : ∃ k, V.bl b = .bl k ∧ QB k H := ⟨b, rfl, q⟩
theorem g_blV {b : Bool} {P : Bool → Prop} (q : P b) : ∃ k, V.bl b = .bl k ∧ P k := ⟨b, rfl, q⟩
theorem g_ifS (q : tt σ H fun b H1 => if b = true then t D σ H1 else u D σ H1) : tIfS tt t u D σ H := q
theorem g_if (q : tt σ H fun c H1 => if c = true then ta σ H1 Q else tb σ H1 Q) : tIf tt ta tb σ H Q := q
theorem g_not (q : tt σ H fun c H1 => QB (!c) H1) : tNot tt σ H QB := q
theorem g_and (q : tt σ H fun c H1 => if c = true then tu σ H1 QB else QB false H1) : tAnd tt tu σ H QB := q
theorem g_or (q : tt σ H fun c H1 => if c = true then QB true H1 else tu σ H1 QB) : tOr tt tu σ H QB := q
theorem g_notV (q : ta σ H fun x H1 => ∃ c, x = .bl c ∧ Q (.bl (!c)) H1) : tNotV ta σ H Q := q
theorem g_andV (q : ta σ H fun x H1 => ∃ c, x = .bl c ∧ if c = true then tb σ H1 Q else Q (.bl false) H1) : tAndV ta tb σ H Q := q
theorem g_orV (q : ta σ H fun x H1 => ∃ c, x = .bl c ∧ if c = true then Q (.bl true) H1 else tb σ H1 Q) : tOrV ta tb σ H Q := q
theorem g_seq (q : t { D with nx := u D } σ H) : tSeq t u D σ H := q
theorem g_next (q : D.nx σ H) : tNext D σ H := q
theorem g_asg {g : TG} (q : te σ H fun x H1 => g x σ H1 D.nx) : tAsg te g D σ H := q
theorem g_name (q : QS (σ.set i (some v)) H) : gName i v σ H QS := q
theorem g_drop (q : te σ H fun _ H1 => D.nx σ H1) : tDrop te D σ H := q
theorem g_ret (q : te σ H D.rt) : tRet te D σ H := q
theorem g_retN (q : D.rt .non H) : tRetN D σ H := q
theorem g_brk (q : D.bk σ H) : tBreak D σ H := q
theorem g_cont (q : D.ct σ H) : tCont D σ H := q
theorem g_call {sp : Sp} {dvs : List V} {E : XK} (q : tr σ H fun vs H1 => sp (vs ++ dvs) H1 Q E) : tCall sp dvs E tr σ H Q := q
theorem g_cb {r : List V → Hp → VK → Prop} (q : tr σ H fun vs H1 => r vs H1 Q) : tCB r tr σ H Q := q
theorem g_nil (q : QA [] H) : tNil σ H QA := q
theorem g_cons (q : te σ H fun x H1 => tr σ H1 fun xs H2 => QA (x :: xs) H2) : tCons te tr σ H QA := q
theorem g_tup (q : tr σ H fun xs H1 => TupG Q xs H1) : tTup tr σ H Q := q
theorem g_lst (q : tr σ H fun xs H1 => LstG Q xs H1) : tLst tr σ H Q := q
theorem g_prop {C : Addr} {sp : Sp} {dvs : List V} {E : XK} (q : ta σ H fun x H1 => ∃ a dx fs, x = .ref a ∧ H1 a = some (.ins C dx fs) ∧ sp (.ref a :: dvs) H1 Q E) : tProp C sp dvs E ta σ H Q := q
theorem g_fld {f : Str} (q : ta σ H fun x H1 => ∃ a C dx fs v, x = .ref a ∧ H1 a = some (.ins C dx fs) ∧ Cls K C ∧ NoAttr K C f ∧ fs.lookup f = some v ∧ Q v H1) : tFld K ta f σ H Q := q
theorem g_meth {C : Addr} {m : Str} {sp : Sp} {dvs : List V} {E : XK} (q : ta σ H fun x H1 => ∃ a dx fs, x = .ref a ∧ H1 a = some (.ins C dx fs) ∧ fs.lookup m = none ∧
  tr σ H1 fun vs H2 => sp (x :: (vs ++ dvs)) H2 Q E) : tMeth C m sp dvs E ta tr σ H Q := q
theorem g_eq {x y : V} (h : scal x y = true) (q : Q (.bl (decide (x = y))) H) : rEq x y H Q := ⟨h, q⟩
theorem g_ne {x y : V} (h : scal x y = true) (q : Q (.bl (!decide (x = y))) H) : rNe x y H Q := ⟨h, q⟩
theorem g_I0 {g : Int → Int → V} {a b : Int} (q : Q (g a b) H) : rI0 g (.int a) (.int b) H Q := ⟨a, b, rfl, rfl, q⟩
theorem g_I {C : Int → Int → Prop} {g : Int → Int → V} {a b : Int} (h : C a b) (q : Q (g a b) H) : rI C g (.int a) (.int b) H Q := ⟨a, b, rfl, rfl, h, q⟩
theorem g_iteT {A B : Prop} (h : A) : if true = true then A else B := by rw [if_pos rfl]; exact h
theorem g_iteF {A B : Prop} (h : B) : if false = true then A else B := by rw [if_neg Bool.false_ne_true]; exact h
theorem g_add {a b : Int} (q : Q (.int (a + b)) H) : rAdd (.int a) (.int b) H Q := ⟨a, b, rfl, rfl, q⟩
theorem g_sub {a b : Int} (q : Q (.int (a - b)) H) : rSub (.int a) (.int b) H Q := ⟨a, b, rfl, rfl, q⟩
theorem g_lc {r : List V → Hp → VK → Prop} (q : tr σ H fun vs H1 => r vs H1 Q) : tCB r tr σ H Q := q
theorem g_bm {T : String} {r : V → List V → Hp → VK → Prop} (q : te σ H fun x H1 => tyV K T x H1 ∧ tr σ H1 fun xs H2 => r x xs H2 Q) : tBM K T r te tr σ H Q := q
theorem g_ixL {p : Addr} {xs : List V} {k : Int} (h : SqL K H p xs) (e : atI xs k = some v) (q : Q v H) : rIxL K (.ref p) (.int k) H Q := ⟨p, xs, k, v, rfl, rfl, h, e, q⟩
theorem g_ixT {p : Addr} {xs : List V} {k : Int} (h : SqT K H p xs) (e : atI xs k = some v) (q : Q v H) : rIxT K (.ref p) (.int k) H Q := ⟨p, xs, k, v, rfl, rfl, h, e, q⟩
end

/-- one step of a reading -/
local macro_rules | `(tactic| walk_at "rd1") => `(tactic| first
  | with_reducible refine g_seq ?_
  | with_reducible refine g_asg ?_
  | with_reducible refine g_name ?_
  | with_reducible refine g_c ?_
  | with_reducible refine g_op ?_
  | with_reducible refine g_ifS ?_
  | with_reducible refine g_if ?_
  | with_reducible refine g_test ?_
  | with_reducible refine g_B ?_
  | with_reducible refine g_bl ?_
  | with_reducible refine g_blV ?_
  | with_reducible refine g_not ?_
  | with_reducible refine g_and ?_
  | with_reducible refine g_or ?_
  | with_reducible refine g_notV ?_
  | with_reducible refine g_andV ?_
  | with_reducible refine g_orV ?_
  | with_reducible refine g_ret ?_
  | with_reducible refine g_drop ?_
  | with_reducible refine g_next ?_
  | with_reducible refine g_retN ?_
  | with_reducible refine g_call ?_
  | with_reducible refine g_cb ?_
  | with_reducible refine g_cons ?_
  | with_reducible refine g_nil ?_
  | with_reducible refine g_tup ?_
  | with_reducible refine g_lst ?_
  | with_reducible refine g_prop ?_
  | with_reducible refine g_fld ?_
  | with_reducible refine g_meth ?_
  | with_reducible refine g_un ?_
  | with_reducible refine g_bm ?_
  | with_reducible refine g_iteT ?_
  | with_reducible refine g_iteF ?_
  | with_reducible refine g_I0 ?_
  | with_reducible refine g_add ?_
  | with_reducible refine g_sub ?_
  | ((with_reducible refine' g_var ?hv ?_); (case hv => rfl))
  | ((with_reducible refine g_eq ?hv ?_); (case hv => rfl))
  | ((with_reducible refine g_ne ?hv ?_); (case hv => rfl)))
local macro_rules | `(tactic| walk_at "rd") => `(tactic| repeat (walk_at "rd1"))

example {X : Cx} {Q : VK} {H : Hp} (q : Q (.int 5) H) : (tSeq (tAsg (tOp rAdd (tC (.int 2)) (tC (.int 3))) (gName 0)) (tRet (tVar 0))) { nx := fun _ _ => False, rt := Q } [none] H := by
  walk_at "rd"
  exact q
end Mc

namespace Mc
open PySem PySem.Spec PyProof.Rows L2

/-! ### defs and their calls -/
structure Def (K : PySem.W.Frag) (mg : Str → Option Value) (x : Str) (st : Stmt) (ps : List Str) : Prop where
  ex : ∃ (f : Addr) (fd : FuncData), Fun K x x st f fd ∧ mg x = some (.ref f) ∧ Binds K fd ps []
structure Cal (P : Program) (w : World) (K : PySem.W.Frag) (mg : Str → Option Value) (base : Heap) (k : Nat) (x : Str) (sp : Sp) : Prop where
  ex : ∃ (f : Addr) (fd : FuncData) (ps : List Str), FnOk P w K mg base CX0 k f fd ps sp ∧ mg x = some (.ref f) ∧ PySem.W.keepIn K (.ref f) = true ∧ Binds K fd ps []
section
variable {P : Program} {w : World} {K : PySem.W.Frag} {mg : Str → Option Value} {base : Heap}
theorem cal_of {x : Str} {st : Stmt} {N ps : List Str} {k : Nat} {sp : Sp} (D : Def K mg x st ps) (S : FnScope N ps (defScope st)) (len : ∀ vs H Q E, sp vs H Q E → vs.length = ps.length)
    (hbody : ∀ (f : Addr) (cdv : Value) (A : Around) (outer : List Env) (s : Shared) (H : Hp) (vs : List V) (Q : VK) (E : XK), Room k (A.deeper (envOfC x (defScope st) s.heap.objs.size f cdv)) → sp vs H Q E →
      ∃ t, PSs (cxOf CX0 P w K mg base N x (defScope st) f cdv A outer s H E).nox (defBody st) t ∧ t { nx := fun _ H' => Q .non H', rt := Q } (start N vs) H) : Cal P w K mg base (k + 1) x sp := by
  obtain ⟨f, fd, F, hm, b⟩ := D.ex
  exact ⟨f, fd, ps, F.ok S len (hbody f), hm, F.kp, b⟩
end
section
variable {X : Cx} {k j : Nat} {x : Str} {sp : Sp} {p pos : Pos} {e : Expr} {es : List Expr} {t : TA}
theorem pe_f (c : Cal X.prog X.w X.K X.mg X.base k x sp) (hr : Room j X.A) (hk : k ≤ j) (hg : Gl X x) (ha : PA X (e :: es) t)
    (hdb : (x == ("__debug__" : Str)) = false := by decide) (he : starEach (e :: es) X.env = (false, eval e X.env) :: starEach es X.env := by rfl) (hpl : (backTo pos (starEach es X.env)).any (·.1) = false := by rfl) :
    PE X (.Call (.Name x p) (e :: es) [] pos) (tCall sp [] E0 t) := by
  obtain ⟨f, fd, ps, G, hm, kp, b⟩ := c.ex
  exact pe_call G (hr.mono hk) hg hm kp b .nil pass0 ha hdb he hpl
theorem pe_gx {v : V} (hg : Gl X x) (h : ∃ u, X.mg x = some u ∧ RelV v u) (hd : (x == ("__debug__" : Str)) = false := by decide) : PE X (.Name x pos) (tC v) :=
  h.elim fun u hu => pe_glob hg hu.1 hu.2 hd
theorem pe_ty (n : String) (hg : Gl X x) (hm : X.mg x = none) (hv : bootBuiltins x = some (.type n)) (hn : x ≠ "__name__" := by decide) (hd : (x == ("__debug__" : Str)) = false := by decide) : PE X (.Name x pos) (tC (.ty n)) :=
  pe_bltn (v := .ty n) (u := .type n) hg hm hv rfl hn hd
end

/-! ### kinds of values -/
inductive TyB (K : PySem.W.Frag) (H : Hp) : V → String → Prop where
  | non : TyB K H .non "NoneType"
  | bl (b : Bool) : TyB K H (.bl b) "bool"
  | int (i : Int) : TyB K H (.int i) "int"
  | str (z : Str) : TyB K H (.str z) "str"
  | lst {a : Addr} {xs : List V} (e : H a = some (.lst xs)) : TyB K H (.ref a) "list"
  | tup {a : Addr} {xs : List V} (e : H a = some (.tup xs)) : TyB K H (.ref a) "tuple"
  | dK {a : Addr} {xs : List (Key × V)} (e : H a = some (.dK xs)) : TyB K H (.ref a) "dict"
  | kTup {a : Addr} {o : Obj} (e : K.lookup a = some o) (c : o.cls = .type "tuple") : TyB K H (.ref a) "tuple"
theorem TyB.x {K : PySem.W.Frag} {H : Hp} {v : V} {n : String} (h : TyB K H v n) : TyX K H v (.type n) := by
  cases h with
  | non => exact .base .non
  | bl b => exact .base (.bl b)
  | int i => exact .base (.int i)
  | str z => exact .base (.str z)
  | lst e => exact .base (.lst e)
  | tup e => exact .base (.tup e)
  | dK e => exact .base (.dK e)
  | kTup e c => exact .kTuple e c
theorem g_isi {K : PySem.W.Frag} {H : Hp} {Q : VK} {v : V} {n m : String} {b : Bool} (h : TyB K H v n) (e : kitB n m = some b) (q : Q (.bl b) H) : rIsi K [v, .ty m] H Q :=
  ⟨v, .ty m, .type n, .type m, b, rfl, .ty m, h.x, kit_ty e, q⟩
theorem g_chain {σ : L2.St} {H : Hp} {Q : VK} {r r' : R2} {ta tb tc : TE} (q : ta σ H fun x H1 => tb σ H1 fun y H2 => r x y H2 fun z H3 => ∃ k, z = .bl k ∧ (if k = true then tc σ H3 fun w' H4 => r' y w' H4 Q else Q (.bl false) H3)) : tChain r r' ta tb tc σ H Q := q
theorem g_sfld {K : PySem.W.Frag} {σ : L2.St} {H : Hp} {D : Ends} {ta tv : TE} {f : Str} (q : tv σ H fun y H1 => ta σ H1 fun x H2 => ∃ a C dx fs, x = .ref a ∧ H2 a = some (.ins C dx fs) ∧ Cls K C ∧ NoAttr K C f ∧ fs.length < 1000 ∧ D.nx σ (upd H2 a (.ins C dx (putF f y fs)))) : sFld K ta tv f D σ H := q
theorem g_gsub {σ : L2.St} {H : Hp} {Q : L2.St → Hp → Prop} {to ti : TE} {t : TSet} {v : V} (q : to σ H fun o H1 => ti σ H1 fun i H2 => t o i v H2 fun H3 => Q σ H3) : gSub to ti t v σ H Q := q
theorem g_make {σ : L2.St} {H : Hp} {Q : VK} {C : Addr} {sp : Sp} {dvs : List V} {E : XK} {t : TA} (q : t σ H fun vs H1 => ∀ x dx, H1 x = none → H1 dx = none → dx ≠ x →
  sp (.ref x :: (vs ++ dvs)) (upd (upd H1 dx (.own x)) x (.ins C dx [])) (fun v H2 => v = .non ∧ Q (.ref x) H2) E) : tMake C sp dvs E t σ H Q := q
theorem g_makeK {σ : L2.St} {H : Hp} {Q : VK} {C : Addr} {n m : Nat} {sp : Sp} {gV : List V → List V → List V} {E : XK} {t tk : TA} (q : t σ H fun vs H1 => tk σ H1 fun zs H2 => vs.length = n ∧ zs.length = m ∧ ∀ x dx, H2 x = none → H2 dx = none → dx ≠ x →
  sp (gV (.ref x :: vs) zs) (upd (upd H2 dx (.own x)) x (.ins C dx [])) (fun v H3 => v = .non ∧ Q (.ref x) H3) E) : tMakeK C n m sp gV E t tk σ H Q := q
theorem g_yes {σ : L2.St} {H : Hp} {Q : Bool → Hp → Prop} (q : Q true H) : tYes σ H Q := q
theorem g_ite {c : Bool} {A B : Prop} (h1 : c = true → A) (h2 : c = false → B) : if c = true then A else B := by
  cases c
  · exact g_iteF (h2 rfl)
  · exact g_iteT (h1 rfl)
theorem kb_int {n : String} (h : n ∈ ["NoneType", "bool", "int", "str", "list", "tuple", "dict"]) : kitB n "int" = some (n == "int" || n == "bool") := by
  simp only [List.mem_cons, List.not_mem_nil, or_false] at h
  rcases h with rfl | rfl | rfl | rfl | rfl | rfl | rfl <;> decide +kernel
theorem kb_bool {n : String} (h : n ∈ ["NoneType", "bool", "int", "str", "list", "tuple", "dict"]) : kitB n "bool" = some (n == "bool") := by
  simp only [List.mem_cons, List.not_mem_nil, or_false] at h
  rcases h with rfl | rfl | rfl | rfl | rfl | rfl | rfl <;> decide +kernel
theorem kb_str {n : String} (h : n ∈ ["NoneType", "bool", "int", "str", "list", "tuple", "dict"]) : kitB n "str" = some (n == "str") := by
  simp only [List.mem_cons, List.not_mem_nil, or_false] at h
  rcases h with rfl | rfl | rfl | rfl | rfl | rfl | rfl <;> decide +kernel
theorem kb_tuple {n : String} (h : n ∈ ["NoneType", "bool", "int", "str", "list", "tuple", "dict"]) : kitB n "tuple" = some (n == "tuple") := by
  simp only [List.mem_cons, List.not_mem_nil, or_false] at h
  rcases h with rfl | rfl | rfl | rfl | rfl | rfl | rfl <;> decide +kernel
theorem TyB.mem {K : PySem.W.Frag} {H : Hp} {v : V} {n : String} (h : TyB K H v n) : n ∈ ["NoneType", "bool", "int", "str", "list", "tuple", "dict"] := by
  cases h <;> decide

def isI : V → Bool
  | .int _ => true
  | _ => false
def btw (v : V) (a b : Int) : Bool := match v with
  | .int i => decide (a ≤ i) && decide (i ≤ b)
  | _ => false

local macro_rules | `(tactic| walk_at "rd1") => `(tactic| first
  | with_reducible refine g_seq ?_
  | with_reducible refine g_asg ?_
  | with_reducible refine g_name ?_
  | with_reducible refine g_c ?_
  | with_reducible refine g_op ?_
  | with_reducible refine g_ifS ?_
  | with_reducible refine g_if ?_
  | with_reducible refine g_test ?_
  | with_reducible refine g_B ?_
  | with_reducible refine g_bl ?_
  | with_reducible refine g_blV ?_
  | with_reducible refine g_not ?_
  | with_reducible refine g_and ?_
  | with_reducible refine g_or ?_
  | with_reducible refine g_notV ?_
  | with_reducible refine g_andV ?_
  | with_reducible refine g_orV ?_
  | with_reducible refine g_ret ?_
  | with_reducible refine g_drop ?_
  | with_reducible refine g_next ?_
  | with_reducible refine g_retN ?_
  | with_reducible refine g_call ?_
  | with_reducible refine g_cb ?_
  | with_reducible refine g_cons ?_
  | with_reducible refine g_nil ?_
  | with_reducible refine g_tup ?_
  | with_reducible refine g_lst ?_
  | with_reducible refine g_prop ?_
  | with_reducible refine g_fld ?_
  | with_reducible refine g_meth ?_
  | with_reducible refine g_chain ?_
  | with_reducible refine g_yes ?_
  | with_reducible refine g_make ?_
  | with_reducible refine g_makeK ?_
  | with_reducible refine g_gsub ?_
  | with_reducible refine g_sfld ?_
  | with_reducible refine g_un ?_
  | with_reducible refine g_bm ?_
  | with_reducible refine g_iteT ?_
  | with_reducible refine g_iteF ?_
  | with_reducible refine g_I0 ?_
  | with_reducible refine g_add ?_
  | with_reducible refine g_sub ?_
  | ((with_reducible refine' g_var ?hv ?_); (case hv => rfl))
  | ((with_reducible refine g_eq ?hv ?_); (case hv => rfl))
  | ((with_reducible refine g_ne ?hv ?_); (case hv => rfl)))
local macro_rules | `(tactic| walk_at "rd") => `(tactic| repeat (walk_at "rd1"))

/-! ### is_integer, is_between -/
def spIsInt (K : PySem.W.Frag) : Sp := fun vs H Q _ => ∃ v n, vs = [v] ∧ TyB K H v n ∧ Q (.bl (isI v)) H
def spBtw (K : PySem.W.Frag) : Sp := fun vs H Q _ => ∃ v n a b, vs = [v, .int a, .int b] ∧ TyB K H v n ∧ Q (.bl (btw v a b)) H
end Mc

namespace Mx
open PySem PySem.Spec PyProof.Rows L2
open PySem.W (KxsFacts kxs_mw ks_superIn)
section
variable {prog : Program} {w : World} {A : Around} {E : Value → Shared → Prop} {h : Heap} {g : Array GenState} {d : Drawn} {t : Nat} {os : OsState}
theorem call_mw {B nI iI : String} {bmB : List Value} (FB : ExcBaseFacts B nI iI bmB) {nm q : Str} {C N : Addr} {bs bm : List Value} {hdct : Bool} {sn : List Str} {sub : List Value} {ab : Bool} {col : Option Bool} {dd : Option Addr} {k0 k1 k2 k3 k5 : Option Value}
    {mw x t0 : Addr} {us : List Value} {R : Value → Shared → Prop} (atC : h.get? C = some (excClassObj nm q C N bs bm hdct sn sub ab col dd k0 k1 k2 k3 k5 nI)) (atX : h.get? x = some (HandSPX.excO C t0)) (atW : h.get? mw = some (kxs_mw iI x)) (lim : us.length ≤ sizeLine)
    (then_ : ∀ g' t1, (∀ b o, b ≠ x → h.get? b = some o → g'.get? b = some o) → g'.get? x = some (HandSPX.excO C t1) → R .none ⟨g', g, d, t, os⟩) : wpAny (model prog w) A (call (.ref mw) us) R E ⟨h, g, d, t, os⟩ := by
  have three : (Value.type "method-wrapper" == Value.type "method" || Value.type "method-wrapper" == Value.type "builtin_function_or_method" || Value.type "method-wrapper" == Value.type "method-wrapper") = true := by decide
  refine wpAny_call (codeAny_of_tree (show wpAny _ A.in1 (callAny (.ref mw) ⟨us, []⟩) _ _ _ from ?_))
  · simp only [callAny]
    refine wpAny_bind (wpAny_load atW ?_)
    simp only [kxs_mw, three, if_true]
    refine PySem.W.KFB.if_so (by decide) (wpAny_bind (PySem.W.check_bound_init FB.toExcCallFacts atC atX rfl (wpAny_bind (wpAny_pure (wpAny_pure ⟨plainId_quiet FB.init.plain _, codeAny_builtin FB.initEntry ?_⟩)))))
    exact PySem.W.exc_init_tree (cls := .ref C) (t0 := t0) (dv := none) (c2 := .none) (c3 := .none) (b4 := .bool false) atX lim fun g' keep at_ _ => then_ g' _ keep at_
end
section
variable {X : Cx} {pins : List (Addr × Obj)} {σ : L2.St} {H : Hp} {s : Shared}
/-- super().__init__("..") in an own exception's __init__, as the first statement of the body -/
theorem super_at {body : List Stmt} {qual file z : Str} {scope : Scope} {L f cda cc x C : Addr} {fd : FuncData} {ar : Arg} {vs : Array Value} {tf : Tok} {oc ccl cl : Value} {od cdd cld : Option Addr} {osl ccs csl : Array (Option Value)} {j : Nat} {p0 p1 p2 p3 p4 p5 : Pos} {pl : Sem Bool} {Q : Flow → Shared → Prop} {E : Value → Shared → Prop}
    (I : Inv X pins σ H s) (hE : X.env = PySem.W.ksEnv qual scope L f (.ref cda) cc) (lf : X.K.lookup f = some ⟨oc, od, .func fd, osl⟩) (hp : (fd.params.posonlyargs ++ fd.params.args).head? = some ar)
    (hN : X.N[0]? = some ar.arg) (hσ : σ[0]? = some (some (.ref x))) (hcode : X.K.lookup cda = some ⟨ccl, cdd, .fields vs, ccs⟩) (hvs : vs[2]? = some (.str file tf)) (hfile : ((X.prog.main.file : Str) == file) = true)
    (hcell : X.K.lookup cc = some ⟨cl, cld, .cell (some (.ref C)), csl⟩) (T : OexC X.K C) (hs : ks_superIn X.K C C "__init__" = some (some (.builtin "ValueError.__init__"))) (hB : PySem.W.subIn X.K (.ref C) (.type "ValueError") = some true)
    (ho : PySem.W.nsIn X.K cStatics "thirdparty.any" = some none) (hsup : X.mg "super" = none) (hks : scope.names.lookup ("super" : Str) = some .globalImplicit) (hkc : scope.names.lookup ("__class__" : Str) = some .free) (hka : scope.names.lookup ar.arg = some .local) (hk : scope.kind = .function)
    (htop : (X.prog.main.scope.names.lookup ("super" : Str)).isSome = false) (hboot : bootBuiltins "super" = some (.type "super")) (ea : H x = some (exo x C none)) (q : ∀ s', Inv X pins σ H s' → Q .next s')
    (hc : eval (.Call (.Attribute (.Call (.Name "super" p0) [] [] p1) "__init__" p2) [.Constant (.str z) j p3] [] p4) (PySem.W.ksEnv qual scope L f (.ref cda) cc) = (do
      let ov ← attributeBase (.Call (.Name "super" p0) [] [] p1) "__init__" (PySem.W.ksEnv qual scope L f (.ref cda) cc) (eval (.Call (.Name "super" p0) [] [] p1) (PySem.W.ksEnv qual scope L f (.ref cda) cc))
      standAt p2.atName
      let (fv, first) ← holding [ov] (getMethod ov "__init__" pl)
      callWith p4 fv first (backTo p4 (starEach [.Constant (.str z) j p3] (PySem.W.ksEnv qual scope L f (.ref cda) cc))) []) := by rfl) :
    _root_.PySem.wpAt (model X.prog X.w) X.A (.func body X.env) (exec (.Expr (.Call (.Attribute (.Call (.Name "super" p0) [] [] p1) "__init__" p2) [.Constant (.str z) j p3] [] p4) p5) X.env) Q E s := by
  obtain ⟨nm, qn, N', bs, bm, sn, sub, ab, col, dd, k0, k1, k2, k3, k5, hC, hbm⟩ := T.cls
  have hcl : PySem.W.clsIn X.K C = some { name := nm, bases := bs, mro := .ref C :: bm, ns := N', qualname := qn, hasDict := true, slotNames := sn, subclasses := sub, abstract := ab, collection := col, hasDel := false } := by unfold PySem.W.clsIn; rw [hC] <;> rfl
  have KX := I.kIn
  obtain ⟨m, hns, hloc⟩ := id I.loc
  have hv : m ar.arg = some (.ref x) := by
    obtain ⟨u, ru, lk⟩ := hloc 0 ar.arg (.ref x) hN hσ (.inl (by rw [hE]; exact hka))
    obtain rfl : u = Value.ref x := ru
    rcases lk with ⟨_, h⟩ | ⟨h, _⟩
    · exact h
    · exfalso
      have e : X.env.kindOf ar.arg = some .local := by rw [hE]; exact hka
      rw [e] at h
      rcases h with h | h <;> cases h
  obtain ⟨t1, hx⟩ := exo_at I.hok ea
  have hmro : PySem.W.mroIn X.K C (.ref C) = some true := by
    unfold PySem.W.mroIn
    rw [hcl, Option.bind_some, if_neg (show ¬ (List.isEmpty (Value.ref C :: bm) = true) from Bool.false_ne_true), show ((Value.ref C :: bm).contains (.ref C)) = true by rw [List.contains_cons]; simp]
  have hglob := I.mod.glob
  obtain ⟨mb, hblt, hmb⟩ := I.mod.blt
  have bk := I.bk
  have IA : PySem.W.InstAt s.heap x { cls := .ref C, dict := none, data := .fields #[.ref t1, .none, .none, .none, .bool false, .none] } C none := ⟨hx, rfl, rfl, trivial⟩
  have hxC : x ≠ C := PySem.W.ks_ne KX IA hcl
  have hkk : X.env.scope.kind = .function := I.ok.kind
  obtain ⟨hh, g, d, t, os⟩ := s
  rw [hE]
  have hi : interactive (PySem.W.ksEnv qual scope L f (.ref cda) cc) = false := by
    unfold interactive
    rw [show (PySem.W.ksEnv qual scope L f (.ref cda) cc).scope.kind = .function from hk]
    rfl
  refine PySem.ks_wpAt_Expr_any (PySem.ks_wpAt_MethodCall ?_ hc) hi
  refine PySem.ks_wpAt_super_base (env := PySem.W.ksEnv qual scope L f (.ref cda) cc) hks hkc (by decide) rfl (KX _ _ lf) rfl hp rfl (KX _ _ hcode) rfl hvs hfile htop ?_
  refine PySem.W.ks_loadName_global hk hks (PySem.Calls.loadGlobal_builtin (env := PySem.W.ksEnv qual scope L f (.ref cda) cc) (hglob.keeps bk) hsup (hblt.keeps bk) ((hmb _ (by decide +kernel)).trans hboot) ⟨rfl, ?_⟩)
  refine wpAny_loadName_free hk hkc rfl ⟨_, KX _ _ hcell, rfl⟩ ?_
  refine wpAny_loadName_local hk hka (by have e : X.env.locals = L := by rw [hE]
                                         rw [← e]; exact hns) hv ?_
  refine ks_wpAny_isType_cls (KX _ _ hC) rfl ⟨rfl, ?_⟩
  refine ks_wpAny_call_super (KX _ _ hC) rfl hx rfl (fun c e => by cases e) (PySem.W.looks_mroIn KX hmro) (fun h1 e1 k1 => ?_)
  have I1 : Inv X pins σ H ⟨h1, g, d, t, os⟩ := I.kept (t' := t) k1
  have KX1 := I1.kIn
  have IA1 : PySem.W.InstAt h1 x { cls := .ref C, dict := none, data := .fields #[.ref t1, .none, .none, .none, .bool false, .none] } C none := ⟨k1 _ _ hx, rfl, rfl, trivial⟩
  have hs' : PySem.W.alongIn X.K "__init__" (((Value.ref C :: bm).dropWhile (· != .ref C)).drop 1) = some (some (.builtin "ValueError.__init__")) := by
    unfold ks_superIn at hs
    rw [hcl] at hs
    exact hs
  refine PySem.W.kxs_getMethod PySem.W.kxs_ValueError e1 (PySem.W.looks_opaque KX1 ho) (l₀ := .ref C :: bm) (fun A Q E s k q => wpAny_bind ((PySem.W.looks_clsIn KX1 hcl) A _ E s k (wpAny_pure q))) rfl KX1 hs' (IA1.type.andThen (PySem.W.looks_subIn KX1 hB)) hxC (by decide) ?_
  have I2 : Inv X pins σ H ⟨h1.push (kxs_mw "ValueError.__init__" x), g, d, t + 1, os⟩ := I1.kept (t' := t + 1) fun b o e => Heap.get?_push_of_some _ e
  refine PySem.W.kxs_callWith (i := "ValueError.__init__") (x := x) rfl (PySem.Calls.evalArgs_plain ?_)
  refine Calls.spliced_cons (Calls.Constant_str (k := j) (pos := p3) ?_)
  refine Calls.spliced_nil ?_
  have hmw : (h1.push (kxs_mw "ValueError.__init__" x)).get? h1.objs.size = some (kxs_mw "ValueError.__init__" x) := Heap.get?_push_size _ rfl
  refine ⟨hmw, ?_⟩
  refine call_mw F.excBase_ValueError (I2.kIn _ _ hC) (Heap.get?_push_of_some _ (k1 _ _ hx)) hmw (by show 1 ≤ sizeLine; decide) fun h' t2 k hx' => ?_
  have J := I2.write (t' := t + 1 + 1) (x := x) (e := x) (o := exo x C none) (by rw [ea]; exact True.intro) (.inl rfl) k ⟨_, hx'⟩ (exo_ok hx')
  have eu : upd H x (exo x C none) = H := by
    funext b
    by_cases hb : b = x
    · rw [hb, upd_same, ea]
    · rw [upd_ne hb]
  rw [eu] at J
  exact q _ J
end
open NdefX (NF ncx envF startF NScope CellsAt inv_startN)
/-- an own exception's __init__ whose first statement is super().__init__("..") -/
structure SupD (P : Program) (K : PySem.W.Frag) (x qual : Str) (params : Arguments) (body : List Stmt) (scope : Scope) (C f : Addr) (fd : FuncData) (cda cc : Addr) : Prop where
  ex : ∃ (oc : Value) (od : Option Addr) (dV kV doc pm : Value) (an : Option Addr) (ct : Value) (osl : Array (Option Value)) (ccl : Value) (cdd : Option Addr) (vs : Array Value) (ccs : Array (Option Value)) (cl : Value) (cld : Option Addr) (csl : Array (Option Value)) (file : Str) (tf : Tok),
    fd = PySem.W.ksFn x qual params body scope dV kV doc pm an (.ref cda) ct cc ∧ K.lookup f = some ⟨oc, od, .func fd, osl⟩ ∧ PySem.W.codeIn K (.ref cda) qual = true ∧ K.lookup cda = some ⟨ccl, cdd, .fields vs, ccs⟩ ∧ vs[2]? = some (.str file tf) ∧ ((P.main.file : Str) == file) = true ∧
    K.lookup cc = some ⟨cl, cld, .cell (some (.ref C)), csl⟩
/-- the class's facts -/
structure SupC (P : Program) (K : PySem.W.Frag) (mg : Str → Option Value) (C : Addr) : Prop where
  ox : OexC K C
  su : ks_superIn K C C "__init__" = some (some (.builtin "ValueError.__init__"))
  ve : PySem.W.subIn K (.ref C) (.type "ValueError") = some true
  tp : PySem.W.nsIn K cStatics "thirdparty.any" = some none
  sm : mg "super" = none
  top : (P.main.scope.names.lookup ("super" : Str)).isSome = false
theorem look_one {α : Type} (f g : Str) (y : α) : [(f, y)].lookup g = if g = f then some y else none := by
  by_cases h : g = f
  · subst h
    simp [List.lookup]
  · have e : (g == f) = false := by simpa using h
    rw [if_neg h]
    simp [List.lookup, e]
theorem boot_super : bootBuiltins "super" = some (.type "super") := by first | rfl | kernel_rfl
theorem fn_sup {CX : CXT} {P : Program} {w : World} {K : PySem.W.Frag} {mg : Str → Option Value} {base : Heap} {k : Nat} {C f cda cc : Addr} {fd : FuncData} {x qual z : Str} {params : Arguments} {rest : List Stmt} {scope : Scope} {N ps : List Str} {sp : Sp} {ar : Arg} {j : Nat} {p0 p1 p2 p3 p4 p5 : Pos}
    (D : SupD P K x qual params (.Expr (.Call (.Attribute (.Call (.Name "super" p0) [] [] p1) "__init__" p2) [.Constant (.str z) j p3] [] p4) p5 :: rest) scope C f fd cda cc) (T : SupC P K mg C) (S : NScope N ps ["__class__"] scope)
    (hp : (params.posonlyargs ++ params.args).head? = some ar) (hN : N[0]? = some ar.arg) (hks : scope.names.lookup ("super" : Str) = some .globalImplicit) (hka : scope.names.lookup ar.arg = some .local)
    (len : ∀ vs H Q E, sp vs H Q E → vs.length = ps.length)
    (hc : ∀ L : Addr, ∃ pl : Sem Bool, eval (.Call (.Attribute (.Call (.Name "super" p0) [] [] p1) "__init__" p2) [.Constant (.str z) j p3] [] p4) (PySem.W.ksEnv qual scope L f (.ref cda) cc) = (do
      let ov ← attributeBase (.Call (.Name "super" p0) [] [] p1) "__init__" (PySem.W.ksEnv qual scope L f (.ref cda) cc) (eval (.Call (.Name "super" p0) [] [] p1) (PySem.W.ksEnv qual scope L f (.ref cda) cc))
      standAt p2.atName
      let (fv, first) ← holding [ov] (getMethod ov "__init__" pl)
      callWith p4 fv first (backTo p4 (starEach [.Constant (.str z) j p3] (PySem.W.ksEnv qual scope L f (.ref cda) cc))) []))
    (hbody : ∀ (A : Around) (outer : List Env) (s : Shared) (H : Hp) (vs : List V) (Q : VK) (E : XK), sp vs H Q E →
      ∃ a, vs[0]? = some (.ref a) ∧ H a = some (exo a C none) ∧ ∃ t, PSs (ncx CX P w K mg base N ⟨x, qual, params, .Expr (.Call (.Attribute (.Call (.Name "super" p0) [] [] p1) "__init__" p2) [.Constant (.str z) j p3] [] p4) p5 :: rest, scope, [("__class__", cc)], cda⟩ f A outer s H E) rest t ∧
        t { nx := fun _ H' => Q .non H', rt := Q } (startF N vs [none]) H) : FnOk P w K mg base CX (k + 1) f fd ps sp := by
  obtain ⟨oc, od, dV, kV, doc, pm, an, ct, osl, ccl, cdd, vs', ccs, cl, cld, csl, file, tf, rfl, lf, hcd, hcode, hvs, hfile, hcell⟩ := D.ex
  refine ⟨len, fun A outer s H args us vs Q E hr e0 hb r hsp => ?_⟩
  have hl := len _ _ _ _ hsp
  have lim : s.heap.NoLimit := e0.mod.nolimit.keeps fun b o e => (e0.bs b o e).1
  have KX : K.In s.heap := e0.mod.kin.keeps fun b o e => (e0.bs b o e).1
  obtain ⟨FF, hFF⟩ : ∃ FF : NF, FF = ⟨x, qual, params, .Expr (.Call (.Attribute (.Call (.Name "super" p0) [] [] p1) "__init__" p2) [.Constant (.str z) j p3] [] p4) p5 :: rest, scope, [("__class__", cc)], cda⟩ := ⟨_, rfl⟩
  have hcl : FF.cl = [(("__class__" : Str), cc)] := by rw [hFF]
  have CA : CellsAt FF.cl ["__class__"] [none] s.heap H := by
    have key : ∀ y c, FF.cl.lookup y = some c → y = "__class__" ∧ c = cc := fun y c e => by
      rw [hcl, look_one] at e
      by_cases h : y = "__class__"
      · rw [if_pos h] at e
        cases e
        exact ⟨h, rfl⟩
      · rw [if_neg h] at e
        cases e
    refine ⟨rfl, fun y c e => ?_, fun y1 y2 c e1 e2 => (key _ _ e1).1.trans (key _ _ e2).1.symm, fun i y e => ?_⟩
    · obtain ⟨_, rfl⟩ := key _ _ e
      exact ⟨(e0.bs _ _ (e0.mod.kin _ _ hcell)).2, some (.ref C), _, KX _ _ hcell, rfl⟩
    · cases i with
      | zero =>
        have e : some ("__class__" : Str) = some y := e
        cases e
        exact ⟨cc, by rw [hcl, look_one, if_pos rfl], fun v hv => by
          have hv : some (none : Option V) = some (some v) := hv
          cases hv⟩
      | succ i =>
        have e : (none : Option Str) = some y := e
        cases e
  have hscope : FF.scope = scope := by rw [hFF]
  refine codeAny_call_function hr.depth (KX _ _ lf) rfl S.co S.gen rfl (PySem.W.codeRec_of KX hcd) (hb _ _ _ _ ?_)
  refine wpAny_newFunctionEnv S.nocell (fun ⟨n, _⟩ hy => S.par n (List.of_mem_zip hy).1) (fun h₁ hns hsb => ⟨lim.fresh _ hsb, ?_⟩) S.kind
  have kp : ∀ b o, s.heap.get? b = some o → h₁.get? b = some o := fun b o e => hsb.extBut b o (Nat.ne_of_lt (Heap.lt_size e)) (Heap.get?_push_of_some _ e)
  obtain ⟨a, ha, hea, t, ht, hq⟩ := hbody A outer s H vs Q E hsp
  rw [← hFF] at ht
  have I : Inv (ncx CX P w K mg base N FF f A outer s H E) [] (startF N vs [none]) H { s with heap := h₁, toks := s.toks + (ps.zip us).length } := inv_startN (hscope ▸ S) hr.hd e0 hl r CA hns kp
  subst hFF
  show codeAny _ _ (.func (.Expr (.Call (.Attribute (.Call (.Name "super" p0) [] [] p1) "__init__" p2) [.Constant (.str z) j p3] [] p4) p5 :: rest) (PySem.W.ksEnv qual scope s.heap.objs.size f (.ref cda) cc)) _ _
  refine ks_codeAny_funcAt (ks_wpAt_execs_cons ?_)
  obtain ⟨pl, hpl⟩ := hc s.heap.objs.size
  have hσ : (startF N vs [none])[0]? = some (some (.ref a)) := by
    unfold startF
    cases vs with
    | nil => cases ha
    | cons v vs =>
      have ha : some v = some (V.ref a) := ha
      cases ha
      rfl
  refine super_at (X := ncx CX P w K mg base N ⟨x, qual, params, .Expr (.Call (.Attribute (.Call (.Name "super" p0) [] [] p1) "__init__" p2) [.Constant (.str z) j p3] [] p4) p5 :: rest, scope, [("__class__", cc)], cda⟩ f A outer s H E) (pl := pl) I rfl lf hp hN hσ hcode hvs hfile hcell T.ox T.su T.ve T.tp T.sm hks (S.frk _ (List.mem_singleton.mpr rfl)) hka S.kind T.top boot_super hea (fun s2 I2 => ?_) hpl
  refine wpAt_of_wpAny ?_
  refine wpAny_mono (ht.run [] _ (startF N vs [none]) H _ I2 hq) (fun fl s' hs => ?_) fun e s' hs => hs
  have fin : ∀ {σ' : L2.St} {H' : Hp} {v : V} {u : Value}, Inv (ncx CX P w K mg base N ⟨x, qual, params, .Expr (.Call (.Attribute (.Call (.Name "super" p0) [] [] p1) "__init__" p2) [.Constant (.str z) j p3] [] p4) p5 :: rest, scope, [("__class__", cc)], cda⟩ f A outer s H E) [] σ' H' s' → L2.RelV v u → Q v H' → CE outer P w H s Q u s' :=
    fun {σ' H' v u} J rv q => ⟨v, H', J.os, J.bare, J.base, J.hok, rv, q⟩
  cases fl with
  | ret u =>
    obtain ⟨v, σ', H', J, rv, q⟩ := hs
    exact fin J rv q
  | next =>
    obtain ⟨σ', H', J, q⟩ := hs
    exact fin (v := V.non) (u := Value.none) J rfl q
  | brk =>
    obtain ⟨_, _, _, q⟩ := hs
    exact False.elim q
  | cont =>
    obtain ⟨_, _, _, q⟩ := hs
    exact False.elim q

/-- the class in a raise -/
structure ExK (P : Program) (w : World) (K : PySem.W.Frag) (mg : Str → Option Value) (base : Heap) (n : Str) (C f : Addr) (fd : FuncData) (ps : List Str) (sp : Sp) : Prop where
  iC : PySem.W.findIn K (.ref C) "__init__" = some (some (.ref f))
  tI : PySem.W.typeIn K (.ref f) = some (.type "function")
  ok : FnOk P w K mg base CX0 1 f fd ps sp
  bi : Binds K fd ps []
  gl : mg n = some (.ref C)
def spEx (C : Addr) (fld : Str) : Sp := fun vs H Q _ => ∃ a v, vs = [.ref a, v] ∧ H a = some (exo a C none) ∧ ∀ dx, H dx = none → dx ≠ a → Q .non (upd (upd H dx (exd dx [(fld, v)])) a (exo a C (some dx)))
def ExAs (C : Addr) (fld : Str) (W : XK) (vs : List V) (H1 : Hp) : Prop := vs.length ≤ 1000 ∧ ∀ a, H1 a = none → spEx C fld (.ref a :: (vs ++ [])) (upd H1 a (exo a C none))
  (fun v H2 => v = .non ∧ ∃ (d : Addr) (fs : List (Str × V)), H2 a = some (exo a C (some d)) ∧ H2 d = some (exd d fs) ∧ H1 d = none ∧ W (.ref C) (some d) (upd (del H2 a) d (.xd fs))) (fun _ _ _ => False)
theorem g_mko {C : Addr} {fld : Str} {ta : TA} {σ : L2.St} {H : Hp} {W : XK} (q : ta σ H fun vs H1 => ExAs C fld W vs H1) : tMkO C (spEx C fld) [] ta σ H W := q
theorem ex_as {C : Addr} {fld : Str} {H1 : Hp} {W : XK} {v : V} (h : ∀ d H', (∀ b o, H1 b = some o → H' b = some o) → H' d = some (.xd [(fld, v)]) → W (.ref C) (some d) H') : ExAs C fld W [v] H1 := by
  refine ⟨by show 1 ≤ 1000; decide, fun a ha => ⟨a, v, rfl, upd_same, fun dx hdx hne => ⟨rfl, dx, [(fld, v)], upd_same, ?_, ?_, ?_⟩⟩⟩
  · rw [upd_ne hne, upd_same]
  · rw [upd_ne hne] at hdx
    exact hdx
  · rw [upd_ne hne] at hdx
    refine h dx _ (fun b o hb => ?_) upd_same
    have b1 : b ≠ a := fun z => by rw [z, ha] at hb; cases hb
    have b2 : b ≠ dx := fun z => by rw [z, hdx] at hb; cases hb
    rw [upd_ne b2, del_ne b1, upd_ne b1, upd_ne b2, upd_ne b1]
    exact hb
/-- two promises of one def -/
theorem fn_or {P : Program} {w : World} {K : PySem.W.Frag} {mg : Str → Option Value} {base : Heap} {CX : CXT} {k : Nat} {f : Addr} {fd : FuncData} {ps : List Str} {sp1 sp2 : Sp} (F1 : FnOk P w K mg base CX0 k f fd ps sp1) (F2 : FnOk P w K mg base CX k f fd ps sp2) :
    FnOk P w K mg base CX k f fd ps (fun vs H Q E => sp1 vs H Q E ∨ sp2 vs H Q E) := by
  refine ⟨fun vs H Q E h => h.elim (F1.len _ _ _ _) (F2.len _ _ _ _), fun A outer s H args us vs Q E hr e0 hb r h => ?_⟩
  rcases h with h | h
  · refine codeAny_mono (F1.run A outer s H args us vs Q E hr e0 hb r h) fun r s' q => ?_
    cases r with
    | error e => exact False.elim q
    | ok fl => cases fl <;> exact q
  · exact F2.run A outer s H args us vs Q E hr e0 hb r h
/-! ### C(e, .., k = v, ..) in a try -/
section
variable {X : Cx} {CX : CXT} {k n : Nat} {f C : Addr} {fd : FuncData} {ps ks : List Str} {sp : Sp} {E : L2.St → XK} {x : Str} {p pos : Pos} {e : Expr} {es : List Expr} {kws : List Keyword} {t tk : TA} {g : List Value → List Value → List Value} {gV : List V → List V → List V}
def tMakeKS (C : Addr) (n m : Nat) (sp : Sp) (gV : List V → List V → List V) (E : L2.St → XK) (t tk : TA) : TE := fun σ H Q => tMakeK C n m sp gV (E σ) t tk σ H Q
theorem run_makeKS {pl : List (Addr × Obj)} {τ : L2.St} {G : Hp} {z : Shared} {R : VK} {EE : XK} {ua uk : List Value} {va vk : List V} (M : Mk X.K C f) (F : FnOk X.prog X.w X.K X.mg X.base CX k f fd ps sp) (room : Room (k + 1) X.A) (kb : KBn X.K fd ps (n + 1) ks g gV) (pass : PassesAt CX X τ EE)
    (I : Inv X pl τ G z) (ra : Vals va ua) (rk : Vals vk uk) (la : va.length = n) (lk : vk.length = ks.length)
    (want : ∀ a da, G a = none → G da = none → da ≠ a → sp (gV (.ref a :: va) vk) (upd (upd G da (.own a)) a (.ins C da [])) (fun v G2 => v = .non ∧ R (.ref a) G2) EE) : wpAny (model X.prog X.w) X.A (call (.ref C) ua (ks.zip uk)) (EP X pl τ R) X.xe z := by
  obtain ⟨top, htop⟩ : ∃ top, top = z.heap.objs.size := ⟨_, rfl⟩
  have q := want (z.heap.objs.size + 1) _ (I.hok.fresh (Nat.le_succ _)) (I.hok.fresh (Nat.le_refl _)) (Nat.ne_of_lt (Nat.lt_succ_self _))
  have J := Inv.made (C := C) I
  have rs : Vals (V.ref (z.heap.objs.size + 1) :: va) (Value.ref (z.heap.objs.size + 1) :: ua) := .cons rfl ra
  have len1 : (Value.ref (z.heap.objs.size + 1) :: ua).length = n + 1 := by simp [← ra.length, la]
  have runs := F.run _ X.stack _ _ ⟨Value.ref (z.heap.objs.size + 1) :: ua, ks.zip uk⟩ _ _ _ EE (room.make C ua (ks.zip uk)) (J.env0.make C ua (ks.zip uk)) (kb.to _ _ uk J.kIn len1 (rk.length ▸ lk)) (kb.rel rs rk) q
  refine wpAny_call (make_map (f := f) I.kIn M.makes M.init (beq_iff_eq.mp M.fn) (codeAny_mono runs fun res z2 hz => ?_))
  match res, hz with
  | .error e, hz => exact pass pl _ _ e z2 J hz
  | .ok (.ret u), hz =>
    obtain ⟨v, G2, J2, rv, ev, qq⟩ := J.after hz
    rw [ev] at rv
    exact ⟨rv, V.ref (z.heap.objs.size + 1), G2, J2, rfl, qq⟩
theorem pe_makeKS (M : Mk X.K C f) (F : FnOk X.prog X.w X.K X.mg X.base CX k f fd ps sp) (room : Room (k + 1) X.A) (hg : Gl X x) (hm : X.mg x = some (.ref C)) (kb : KBn X.K fd ps (n + 1) ks g gV) (pass : ∀ σ, PassesAt CX X σ (E σ)) (pa : PA X (e :: es) t) (pk : PK X kws tk)
    (h1 : (backToKw pos (keywordEach kws X.env)).all (·.1.isSome) = true := by rfl) (h2 : (backToKw pos (keywordEach kws X.env)).filterMap (·.1) = ks := by rfl) (h3 : (x == ("__debug__" : Str)) = false := by decide)
    (h4 : starEach (e :: es) X.env = (false, eval e X.env) :: starEach es X.env := by rfl) (h5 : ((backTo pos (starEach (e :: es) X.env)).any (·.1) || (backToKw pos (keywordEach kws X.env)).any (·.1.isNone)) = false := by rfl) :
    PE X (.Call (.Name x p) (e :: es) kws pos) (tMakeKS C n ks.length sp gV E t tk) :=
  ⟨fun pl z τ G R I q => wpAny_Call_Name_kw (ld_glob I hg hm (PySem.W.callWith_KW (h₀ := X.base) I.ok.mod.kin M.kp h1 (thn (pa.run pos pl z τ G _ I q) fun ua z1 ⟨va, G1, I1, ra, q1⟩ =>
    thn (pk.run pos pl z1 τ G1 _ I1 q1) fun uk z2 ⟨vk, G2, I2, rk, la, lk, q2⟩ => ⟨I2.kIn, by rw [h2]; exact run_makeKS M F room kb (pass τ) I2 ra rk la lk q2⟩) h5 h4) h3)⟩
end
end Mx

namespace Mx
open PySem PySem.Spec PyProof.Rows L2
/-! several clauses 'except x as n' -/
def endAs (i : Nat) (D : Ends) : Ends := { nx := fun σ' H' => D.nx (σ'.set i none) H', rt := D.rt, bk := fun σ' H' => D.bk (σ'.set i none) H', ct := fun σ' H' => D.ct (σ'.set i none) H' }
abbrev Clause := Value × Nat × (Addr → Value → Option Addr → TS)
def wMas (K : PySem.W.Frag) (Wout : WX) (D : Ends) : List Clause → WX
  | [] => Wout
  | (c, i, ts) :: l => fun cls d σ H => ∃ b, PySem.W.exmOne K cls c = some b ∧ (b = true → ∀ a, H a = none → ts a cls d (endAs i D) (σ.set i (some (.ref a))) H) ∧ (b = false → wMas K Wout D l cls d σ H)
inductive HdsAs (X : Cx) : List ExceptHandler → List Clause → Prop
  | nil : HdsAs X [] []
  | cons {x n : Str} {c : Value} {i : Nat} {ts : Addr → Value → Option Addr → TS} {b₀ : Stmt} {suite : List Stmt} {np pos' : Pos} {hds : List ExceptHandler} {l : List Clause} (hi : X.N[i]? = some n) (hl : X.env.kindOf n = some .local) (hc : Names X x c)
      (hsu : ∀ (a : Addr) (oe : Obj) (cls : Value) (d : Option Addr) (pn : List (Addr × Obj)), Zc cls d oe → (∃ vs, oe.data = .fields vs) → PSs (X.suite a ((a, oe) :: pn)) (b₀ :: suite) (ts a cls d)) (r : HdsAs X hds l) :
      HdsAs X (.ExceptHandler (some (.Name x np)) (some n) (b₀ :: suite) pos' :: hds) ((c, i, ts) :: l)
section
variable {X : Cx} {body : List Stmt} {g₀ : ExceptHandler} {gs : List ExceptHandler} {l : List Clause} {pos : Pos} {tb : WX → TS} {Wout : WX}
theorem ps_try_mas (hs : X.stack = X.env :: X.outer) (hf : X.env.frame = some X.env.locals) (nd : X.N.Nodup) (tk : Takes X Wout)
    (hb : ∀ (W : WX) (pn : List (Addr × Obj)) (xe : Value → Shared → Prop), Takes (X.tr pn xe) W → PassesOwn (model X.prog X.w) X.A X.env xe → PSs (X.tr pn xe) body (tb W))
    (hh : HdsAs X (g₀ :: gs) l) : PS X (.Try body (g₀ :: gs) [] [] pos) (fun D σ H => tb (wMas X.K Wout D l) D σ H) := by
  refine ⟨fun pins s σ H D I h => wpAny_Try_except ?_⟩
  have okX := I.ok
  have frX : X.A.frames = some (X.env :: X.outer) := okX.frames.trans (congrArg some hs)
  let xeT : Value → Shared → Prop := fun e s₁ => wpAny (model X.prog X.w) X.A (noteFrame e X.env) (fun _ s₂ => wpAny (model X.prog X.w) X.A (setFlight e none) (fun _ s₃ => wpAny (model X.prog X.w) X.A (handleBy e X.env (g₀ :: gs)) (SP X pins D) X.xe s₃) X.xe s₂) X.xe s₁
  refine wpAny_mono ((hb (wMas X.K Wout D l) (X.pn ++ pins) xeT (fun u s' z => ?_) PassesOwn.looking).run [] s σ H D (I.toTry _) h) (fun fl s1 z => ?_) fun _ _ z => z
  · obtain ⟨a, B, sI, pn1, σ1, H1, cls, d, rfl, JT, nb, up, sky, na, os, ag, w⟩ := z
    have J0 : Inv X pins σ1 H1 sI := JT.ofTry okX
    show wpAny _ X.A (noteFrame (.ref a) X.env) _ _ _
    refine Sky.land Zc.steady frX hf (by rw [← hs]; exact sky) fun hA flA upA => ?_
    have JA : Inv X pins σ1 H1 { s' with heap := hA } := J0.landed nb flA.1 (up.trans upA) os ag
    obtain ⟨oA, vA, eA, zA, dA⟩ := flA.there
    have nfr : a ∉ frs (X.env :: X.outer) := fun hm => by
      obtain ⟨_, o', e', hnf⟩ := flA.2.2.1.mem hm
      rw [eA] at e'
      cases e'
      exact hnf _ dA
    have nL : a ≠ X.env.locals := fun z => nfr (List.mem_filterMap.mpr ⟨X.env, List.mem_cons_self, hf.trans (congrArg some z.symm)⟩)
    have nF : a ∉ X.fs := fun hm => (List.mem_filterMap.mp hm).elim fun e he => nfr (List.mem_filterMap.mpr ⟨e, List.mem_cons_of_mem _ he.1, he.2⟩)
    have SA := JA.suite eA dA na nL nF
    have go : ∀ {hds : List ExceptHandler} {lc : List Clause}, HdsAs X hds lc → wMas X.K Wout D lc cls d σ1 H1 → wpAny (model X.prog X.w) X.A (handleBy (.ref a) X.env hds) (SP X pins D) X.xe { s' with heap := hA } := by
      intro hds lc hk
      induction hk with
      | nil =>
        intro w
        refine wpAny_handleBy_nil ?_
        obtain ⟨k1, k2, k3, oe, vs, T, oT, ts', he, hz, hd, h1, hr⟩ := flA
        have fin : wpAny (model X.prog X.w) X.A (setFlight (.ref a) X.env.frame) (fun _ s4 => wpAny (model X.prog X.w) X.A (throw (.ref a) : Sem Flow) (SP X pins D) X.xe s4) X.xe { s' with heap := hA } := by
          rw [hf]
          refine HandSPX.setFlight_upZ ⟨k1, k2, k3, oe, vs, T, oT, ts', he, hz, hd, h1, hr⟩ fun h4 hh4 up4 => wpAny_throw (tk _ _ ⟨a, B, sI, pins, σ1, H1, cls, d, rfl, J0, nb, (up.trans upA).trans up4, .inr (.inr (by rw [hs]; exact hh4)), na, os, ag, w⟩)
        unfold PySem.passOn
        refine wpAny_bind (wpAny_field he hd h1 ?_)
        rw [if_neg (by simp : ¬ ((Value.ref T == Value.none) = true))]
        first
          | exact wpAny_bind (wpAny_pure (wpAny_bind fin))
          | exact wpAny_bind fin
      | @cons x n c i ts b₀ suite np pos' hds2 l2 hi hl hc hsu r ih =>
        rintro ⟨b, hb1, hyes, hno⟩
        refine wpAny_handleBy_cons (codeAny_handlers_test ?_) (fun q => by cases q)
        have LM := PySem.W.exm_one (M := model X.prog X.w) (K := X.K) JA.kIn (fun A Q E s k q => wpAny_typeOf_ref (k _ _ eA) (by rw [zA.1]; exact q)) hb1
        have test : ∀ {Q E : Value → Shared → Prop}, Q c { s' with heap := hA } → wpAny (model X.prog X.w) (X.A.mark (some (.ref a))) (eval (.Name x np) X.env) Q E { s' with heap := hA } := by
          intro Q E q
          rcases hc with ⟨hg, hdbg, hm | ⟨hm, hv, hnn⟩⟩
          · exact ld_glob (X := X.suite a ((a, oA) :: (X.pn ++ pins))) SA hg hm q hdbg
          · exact ld_blt (X := X.suite a ((a, oA) :: (X.pn ++ pins))) SA hg hm hv q hnn hdbg
        refine test (LM.here ?_)
        cases b with
        | false => exact ih (hno rfl)
        | true =>
          refine codeAny_handlers_suite_as (HandSPX.lands_againZ flA fun hB flB upB => ?_)
          have JB : Inv X pins σ1 H1 { s' with heap := hB } := J0.landed nb flB.1 ((up.trans upA).trans upB) os ag
          obtain ⟨oB, vB, eB, zB, dB⟩ := flB.there
          refine store_ok (X := X.suite a ((a, oB) :: (X.pn ++ pins))) (v := .ref a) (JB.suite eB dB na nL nF) nd hi (.inl hl) rfl (fun s5 S5 => ?_) (.inr hl)
          refine wpAny_mono ((hsu a oB cls d (X.pn ++ pins) zB ⟨_, dB⟩).run [] s5 _ H1 _ S5 (hyes rfl a na)) (fun fl s6 z => ?_) fun _ _ z => z.elim
          have close : ∀ {σ6 : L2.St} {H6 : Hp} {Q : Shared → Prop}, Inv (X.suite a ((a, oB) :: (X.pn ++ pins))) [] σ6 H6 s6 → (∀ s7, Inv X pins (σ6.set i none) H6 s7 → Q s7) → wpAny (model X.prog X.w) X.A (do bindName X.env n .none; unbindBehindTheSuite X.env n pos') (fun _ s7 => Q s7) X.xe s6 :=
            fun S6 hq => gone_ok (S6.unsuite okX) nd hi hl hq
          cases fl with
          | ret u => exact z.elim fun v6 z => z.elim fun σ6 z => z.elim fun H6 z => close z.1 fun s7 J7 => ⟨_, _, _, J7, z.2.1, z.2.2⟩
          | next => exact z.elim fun σ6 z => z.elim fun H6 z => close z.1 fun s7 J7 => ⟨_, _, J7, z.2⟩
          | brk => exact z.elim fun σ6 z => z.elim fun H6 z => close z.1 fun s7 J7 => ⟨_, _, J7, z.2⟩
          | cont => exact z.elim fun σ6 z => z.elim fun H6 z => close z.1 fun s7 J7 => ⟨_, _, J7, z.2⟩
    exact go hh w
  · cases fl with
    | next => exact z.elim fun σ2 z => z.elim fun H2 z => wpAny_execs_nil ⟨σ2, H2, z.1.ofTry okX, z.2⟩
    | brk => exact z.elim fun σ2 z => z.elim fun H2 z => ⟨σ2, H2, z.1.ofTry okX, z.2⟩
    | cont => exact z.elim fun σ2 z => z.elim fun H2 z => ⟨σ2, H2, z.1.ofTry okX, z.2⟩
    | ret u => exact z.elim fun v z => z.elim fun σ2 z => z.elim fun H2 z => ⟨v, σ2, H2, z.1.ofTry okX, z.2.1, z.2.2⟩
end
end Mx

namespace Mx
open PySem PySem.Spec PyProof.Rows L2 Mc
/-! repr of any data, and calls of defs that show something -/
inductive ShowsV (K : PySem.W.Frag) (H : Hp) : V → Str → Prop
  | non : ShowsV K H .non "None"
  | bl (b : Bool) : ShowsV K H (.bl b) (if b then "True" else "False")
  | int {i : Int} (h : i.natAbs.log2 < 1920) : ShowsV K H (.int i) (toString i)
  | str {x : Str} (h : (reprText x).length ≤ sizeLine) : ShowsV K H (.str x) (reprText x)
  | ref {a : Addr} {d : PyData} (hd : Dp K H (.ref a) d) (hs : d.showable = true) (hx : d.hasDict = false) (hp : d.depth ≤ 40) (hz : d.shown.length ≤ sizeLine) : ShowsV K H (.ref a) d.shown
theorem dp_ext {K : PySem.W.Frag} {H H' : Hp} (e : ∀ b o, H b = some o → H' b = some o) {v : V} {d : PyData} (h : Dp K H v d) : Dp K H' v d := Dp.rec (motive_1 := fun v d _ => Dp K H' v d) (motive_2 := fun vs ds _ => DpAll K H' vs ds) .non .bl .int .str
  (fun s _ ih => .lst (s.imp (fun q => q.imp (e _ _) (fun ⟨o, q⟩ => ⟨o, e _ _ q⟩)) id) ih) (fun s _ ih => .tup (s.imp (fun q => q.imp (e _ _) (fun ⟨o, q⟩ => ⟨o, e _ _ q⟩)) id) ih) .nil (fun _ _ h1 h2 => .cons h1 h2) h
theorem ShowsV.ext {K : PySem.W.Frag} {H H' : Hp} (e : ∀ b o, H b = some o → H' b = some o) {v : V} {z : Str} (h : ShowsV K H v z) : ShowsV K H' v z := by
  cases h with
  | non => exact .non
  | bl b => exact .bl b
  | int h => exact .int h
  | str h => exact .str h
  | ref hd hs hx hp hz => exact .ref (dp_ext e hd) hs hx hp hz
def rReprA (K : PySem.W.Frag) : List V → Hp → VK → Prop := fun xs H Q => ∃ (v : V) (z : Str), xs = [v] ∧ ShowsV K H v z ∧ Q (.str z) H
theorem call_reprA {X : Cx} {K : PySem.W.Frag} (hg : X.A.guards = some []) (hu : X.A.units + 64 < cLine) (hK : X.K = K) : CallR X (.builtin "repr") (rReprA K) := by
  subst hK
  intro pins s σ H xs us Q I r h
  obtain ⟨v, z, rfl, hs, q⟩ := h
  cases r with
  | cons ru rn =>
    cases rn
    cases hs with
    | non =>
      cases ru
      exact PySem.P.repr_of_none ⟨.str _, H, I.tok _, ⟨_, rfl⟩, q⟩
    | bl b =>
      cases ru
      exact PySem.P.repr_of_bool ⟨.str _, H, I.tok _, ⟨_, rfl⟩, q⟩
    | int h =>
      obtain ⟨t, rfl⟩ := ru
      exact PySem.P.repr_of_int h ⟨.str _, H, I.tok _, ⟨_, rfl⟩, q⟩
    | str h =>
      obtain ⟨t, rfl⟩ := ru
      exact PySem.P.repr_of_str ⟨.str _, H, I.tok _, ⟨_, rfl⟩, q⟩ h
    | ref hd hs hx hp hz =>
      cases ru
      obtain ⟨as, R⟩ := Dp.reads I _ _ _ hd rfl
      exact repr_of_reads' R hs (fun e => by rw [hx] at e; cases e) hg (by omega) (fun b o e => e) (fun h' u tk hk => ⟨.str _, H, I.kept hk, ⟨u, rfl⟩, q⟩) hz
theorem ix_listK {X : Cx} {K : PySem.W.Frag} (hK : X.K = K) : IxR X (rIxL K) := hK ▸ ix_list
structure CalG (P : Program) (w : World) (K : PySem.W.Frag) (mg : Str → Option Value) (base : Heap) (k : Nat) (x : Str) (sp : Sp) : Prop where
  ex : ∃ (f : Addr) (fd : FuncData) (ps : List Str), FnG P w K mg base CX0 k f fd ps sp ∧ mg x = some (.ref f) ∧ PySem.W.keepIn K (.ref f) = true ∧ Binds K fd ps []
theorem calG_of {P : Program} {w : World} {K : PySem.W.Frag} {mg : Str → Option Value} {base : Heap} {x : Str} {st : Stmt} {N ps : List Str} {k : Nat} {sp : Sp} (D : Def K mg x st ps) (S : FnScope N ps (defScope st)) (len : ∀ vs H Q E, sp vs H Q E → vs.length = ps.length)
    (hbody : ∀ (f : Addr) (cdv : Value) (A : Around) (outer : List Env) (s : Shared) (H : Hp) (vs : List V) (Q : VK) (E : XK), A.guards = some [] → Room k (A.deeper (envOfC x (defScope st) s.heap.objs.size f cdv)) → sp vs H Q E →
      ∃ t, PSs (cxOf CX0 P w K mg base N x (defScope st) f cdv A outer s H E).nox (defBody st) t ∧ t { nx := fun _ H' => Q .non H', rt := Q } (start N vs) H) : CalG P w K mg base (k + 1) x sp := by
  obtain ⟨f, fd, F, hm, b⟩ := D.ex
  exact ⟨f, fd, ps, fnG_of F S len (hbody f), hm, F.kp, b⟩
section
variable {X : Cx} {k j : Nat} {x : Str} {sp : Sp} {p pos : Pos} {e : Expr} {es : List Expr} {t : TA}
theorem pe_fG (c : CalG X.prog X.w X.K X.mg X.base k x sp) (hgd : X.A.guards = some []) (hr : Room j X.A) (hk : k ≤ j) (hg : Gl X x) (ha : PA X (e :: es) t)
    (hdb : (x == ("__debug__" : Str)) = false := by decide) (he : starEach (e :: es) X.env = (false, eval e X.env) :: starEach es X.env := by rfl) (hpl : (backTo pos (starEach es X.env)).any (·.1) = false := by rfl) :
    PE X (.Call (.Name x p) (e :: es) [] pos) (tCall sp [] E0 t) := by
  obtain ⟨f, fd, ps, G, hm, kp, b⟩ := c.ex
  refine ⟨fun pins s σ H Q I h => wpAny_Call_Name_kw (ld_glob I hg hm (PySem.W.callWith_K (h₀ := X.base) I.ok.mod.kin kp (thn (ha.run pos pins s σ H _ I h) fun us s1 ⟨vs, H1, I1, r, q⟩ => ⟨I1.kIn, ?_⟩) he hpl) hdb)⟩
  have q : sp vs H1 Q E0 := by
    have q : sp (vs ++ []) H1 Q E0 := q
    rw [List.append_nil] at q
    exact q
  have hl : us.length = ps.length := by
    rw [← r.length]
    exact G.len _ _ _ _ q
  have bb := b s1 us I1.kIn (by rw [List.append_nil]; exact hl)
  rw [List.append_nil] at bb
  refine wpAny_call (codeAny_mono (G.run X.A X.stack s1 H1 ⟨us, []⟩ us vs Q E0 hgd (hr.mono hk) I1.env0 bb r q) fun r s' z => ?_)
  cases r with
  | error e => exact False.elim z
  | ok fl =>
    cases fl with
    | ret u => exact I1.after z
    | next => exact z.elim
    | brk => exact z.elim
    | cont => exact z.elim
theorem pe_f0 (c : Cal X.prog X.w X.K X.mg X.base k x sp) (hr : Room j X.A) (hk : k ≤ j) (hg : Gl X x) (hdb : (x == ("__debug__" : Str)) = false := by decide) : PE X (.Call (.Name x p) [] [] pos) (tCall sp [] E0 tNil) := by
  obtain ⟨f, fd, ps, G, hm, kp, b⟩ := c.ex
  exact pe_call0 G (hr.mono hk) hg hm kp b .nil pass0 hdb
end
end Mx

namespace Mx
open PySem PySem.Spec PyProof.Rows L2
open PySem.W (KxsFacts kxs_mw ks_superIn)
/-! own error classes directly over any of the built-in ones -/
structure BaseK (B nI iI : String) (tl : List Value) : Prop where
  eb : ExcBaseFacts B nI iI tl
  kx : KxsFacts B iI
  st : StoreFacts B tl "object.__setattr__" "object"
theorem base_VE : BaseK "ValueError" "ValueError.__new__" "ValueError.__init__" [.type "ValueError", .type "Exception", .type "BaseException", .type "object"] := ⟨F.excBase_ValueError, PySem.W.kxs_ValueError, F.store_ValueError⟩
theorem base_LE : BaseK "LookupError" "LookupError.__new__" "LookupError.__init__" [.type "LookupError", .type "Exception", .type "BaseException", .type "object"] := ⟨F.excBase_LookupError, PySem.W.kxs_LookupError, F.store_LookupError⟩
theorem base_RE : BaseK "RuntimeError" "RuntimeError.__new__" "RuntimeError.__init__" [.type "RuntimeError", .type "Exception", .type "BaseException", .type "object"] := ⟨F.excBase_RuntimeError, PySem.W.kxs_RuntimeError, F.store_RuntimeError⟩
theorem base_OE : BaseK "OverflowError" "OverflowError.__new__" "OverflowError.__init__" [.type "OverflowError", .type "ArithmeticError", .type "Exception", .type "BaseException", .type "object"] := ⟨F.excBase_OverflowError, PySem.W.kxs_OverflowError, F.store_OverflowError⟩
structure OexB (nI : String) (tl : List Value) (K : PySem.W.Frag) (C : Addr) : Prop where
  cls : ∃ nm q N bs sn sub ab col dd k0 k1 k2 k3 k5, K.lookup C = some (excClassObj nm q C N bs tl true sn sub ab col dd k0 k1 k2 k3 k5 nI)
  sa : PySem.W.findIn K (.ref C) "__setattr__" = some (some (.builtin "object.__setattr__"))
  exC : PySem.W.subIn K (.ref C) (.type "BaseException") = some true
  tyC : PySem.W.typeIn K (.ref C) = some (.type "type")
  kC : PySem.W.keepIn K (.ref C) = true
section
variable {X : Cx} {pins : List (Addr × Obj)} {σ : L2.St} {H : Hp} {s : Shared}
/-- super().__init__("..") in an own exception's __init__, as the first statement of the body -/
theorem super_atB {B nI iI : String} {tl : List Value} (FB : BaseK B nI iI tl) {body : List Stmt} {qual file z : Str} {scope : Scope} {L f cda cc x C : Addr} {fd : FuncData} {ar : Arg} {vs : Array Value} {tf : Tok} {oc ccl cl : Value} {od cdd cld : Option Addr} {osl ccs csl : Array (Option Value)} {j : Nat} {p0 p1 p2 p3 p4 p5 : Pos} {pl : Sem Bool} {Q : Flow → Shared → Prop} {E : Value → Shared → Prop}
    (I : Inv X pins σ H s) (hE : X.env = PySem.W.ksEnv qual scope L f (.ref cda) cc) (lf : X.K.lookup f = some ⟨oc, od, .func fd, osl⟩) (hp : (fd.params.posonlyargs ++ fd.params.args).head? = some ar)
    (hN : X.N[0]? = some ar.arg) (hσ : σ[0]? = some (some (.ref x))) (hcode : X.K.lookup cda = some ⟨ccl, cdd, .fields vs, ccs⟩) (hvs : vs[2]? = some (.str file tf)) (hfile : ((X.prog.main.file : Str) == file) = true)
    (hcell : X.K.lookup cc = some ⟨cl, cld, .cell (some (.ref C)), csl⟩) (T : OexB nI tl X.K C) (hs : ks_superIn X.K C C "__init__" = some (some (.builtin iI))) (hB : PySem.W.subIn X.K (.ref C) (.type B) = some true)
    (ho : PySem.W.nsIn X.K cStatics "thirdparty.any" = some none) (hsup : X.mg "super" = none) (hks : scope.names.lookup ("super" : Str) = some .globalImplicit) (hkc : scope.names.lookup ("__class__" : Str) = some .free) (hka : scope.names.lookup ar.arg = some .local) (hk : scope.kind = .function)
    (htop : (X.prog.main.scope.names.lookup ("super" : Str)).isSome = false) (hboot : bootBuiltins "super" = some (.type "super")) (ea : H x = some (exo x C none)) (q : ∀ s', Inv X pins σ H s' → Q .next s')
    (hc : eval (.Call (.Attribute (.Call (.Name "super" p0) [] [] p1) "__init__" p2) [.Constant (.str z) j p3] [] p4) (PySem.W.ksEnv qual scope L f (.ref cda) cc) = (do
      let ov ← attributeBase (.Call (.Name "super" p0) [] [] p1) "__init__" (PySem.W.ksEnv qual scope L f (.ref cda) cc) (eval (.Call (.Name "super" p0) [] [] p1) (PySem.W.ksEnv qual scope L f (.ref cda) cc))
      standAt p2.atName
      let (fv, first) ← holding [ov] (getMethod ov "__init__" pl)
      callWith p4 fv first (backTo p4 (starEach [.Constant (.str z) j p3] (PySem.W.ksEnv qual scope L f (.ref cda) cc))) []) := by rfl) :
    _root_.PySem.wpAt (model X.prog X.w) X.A (.func body X.env) (exec (.Expr (.Call (.Attribute (.Call (.Name "super" p0) [] [] p1) "__init__" p2) [.Constant (.str z) j p3] [] p4) p5) X.env) Q E s := by
  obtain ⟨nm, qn, N', bs, sn, sub, ab, col, dd, k0, k1, k2, k3, k5, hC⟩ := T.cls
  have hcl : PySem.W.clsIn X.K C = some { name := nm, bases := bs, mro := .ref C ::  tl, ns := N', qualname := qn, hasDict := true, slotNames := sn, subclasses := sub, abstract := ab, collection := col, hasDel := false } := by unfold PySem.W.clsIn; rw [hC] <;> rfl
  have KX := I.kIn
  obtain ⟨m, hns, hloc⟩ := id I.loc
  have hv : m ar.arg = some (.ref x) := by
    obtain ⟨u, ru, lk⟩ := hloc 0 ar.arg (.ref x) hN hσ (.inl (by rw [hE]; exact hka))
    obtain rfl : u = Value.ref x := ru
    rcases lk with ⟨_, h⟩ | ⟨h, _⟩
    · exact h
    · exfalso
      have e : X.env.kindOf ar.arg = some .local := by rw [hE]; exact hka
      rw [e] at h
      rcases h with h | h <;> cases h
  obtain ⟨t1, hx⟩ := exo_at I.hok ea
  have hmro : PySem.W.mroIn X.K C (.ref C) = some true := by
    unfold PySem.W.mroIn
    rw [hcl, Option.bind_some, if_neg (show ¬ (List.isEmpty (Value.ref C ::  tl) = true) from Bool.false_ne_true), show ((Value.ref C ::  tl).contains (.ref C)) = true by rw [List.contains_cons]; simp]
  have hglob := I.mod.glob
  obtain ⟨mb, hblt, hmb⟩ := I.mod.blt
  have bk := I.bk
  have IA : PySem.W.InstAt s.heap x { cls := .ref C, dict := none, data := .fields #[.ref t1, .none, .none, .none, .bool false, .none] } C none := ⟨hx, rfl, rfl, trivial⟩
  have hxC : x ≠ C := PySem.W.ks_ne KX IA hcl
  have hkk : X.env.scope.kind = .function := I.ok.kind
  obtain ⟨hh, g, d, t, os⟩ := s
  rw [hE]
  have hi : interactive (PySem.W.ksEnv qual scope L f (.ref cda) cc) = false := by
    unfold interactive
    rw [show (PySem.W.ksEnv qual scope L f (.ref cda) cc).scope.kind = .function from hk]
    rfl
  refine PySem.ks_wpAt_Expr_any (PySem.ks_wpAt_MethodCall ?_ hc) hi
  refine PySem.ks_wpAt_super_base (env := PySem.W.ksEnv qual scope L f (.ref cda) cc) hks hkc (by decide) rfl (KX _ _ lf) rfl hp rfl (KX _ _ hcode) rfl hvs hfile htop ?_
  refine PySem.W.ks_loadName_global hk hks (PySem.Calls.loadGlobal_builtin (env := PySem.W.ksEnv qual scope L f (.ref cda) cc) (hglob.keeps bk) hsup (hblt.keeps bk) ((hmb _ (by decide +kernel)).trans hboot) ⟨rfl, ?_⟩)
  refine wpAny_loadName_free hk hkc rfl ⟨_, KX _ _ hcell, rfl⟩ ?_
  refine wpAny_loadName_local hk hka (by have e : X.env.locals = L := by rw [hE]
                                         rw [← e]; exact hns) hv ?_
  refine ks_wpAny_isType_cls (KX _ _ hC) rfl ⟨rfl, ?_⟩
  refine ks_wpAny_call_super (KX _ _ hC) rfl hx rfl (fun c e => by cases e) (PySem.W.looks_mroIn KX hmro) (fun h1 e1 k1 => ?_)
  have I1 : Inv X pins σ H ⟨h1, g, d, t, os⟩ := I.kept (t' := t) k1
  have KX1 := I1.kIn
  have IA1 : PySem.W.InstAt h1 x { cls := .ref C, dict := none, data := .fields #[.ref t1, .none, .none, .none, .bool false, .none] } C none := ⟨k1 _ _ hx, rfl, rfl, trivial⟩
  have hs' : PySem.W.alongIn X.K "__init__" (((Value.ref C ::  tl).dropWhile (· != .ref C)).drop 1) = some (some (.builtin iI)) := by
    unfold ks_superIn at hs
    rw [hcl] at hs
    exact hs
  refine PySem.W.kxs_getMethod FB.kx e1 (PySem.W.looks_opaque KX1 ho) (l₀ := .ref C ::  tl) (fun A Q E s k q => wpAny_bind ((PySem.W.looks_clsIn KX1 hcl) A _ E s k (wpAny_pure q))) rfl KX1 hs' (IA1.type.andThen (PySem.W.looks_subIn KX1 hB)) hxC (by decide) ?_
  have I2 : Inv X pins σ H ⟨h1.push (kxs_mw iI x), g, d, t + 1, os⟩ := I1.kept (t' := t + 1) fun b o e => Heap.get?_push_of_some _ e
  refine PySem.W.kxs_callWith (i := iI) (x := x) rfl (PySem.Calls.evalArgs_plain ?_)
  refine Calls.spliced_cons (Calls.Constant_str (k := j) (pos := p3) ?_)
  refine Calls.spliced_nil ?_
  have hmw : (h1.push (kxs_mw iI x)).get? h1.objs.size = some (kxs_mw iI x) := Heap.get?_push_size _ rfl
  refine ⟨hmw, ?_⟩
  refine call_mw FB.eb (I2.kIn _ _ hC) (Heap.get?_push_of_some _ (k1 _ _ hx)) hmw (by show 1 ≤ sizeLine; decide) fun h' t2 k hx' => ?_
  have J := I2.write (t' := t + 1 + 1) (x := x) (e := x) (o := exo x C none) (by rw [ea]; exact True.intro) (.inl rfl) k ⟨_, hx'⟩ (exo_ok hx')
  have eu : upd H x (exo x C none) = H := by
    funext b
    by_cases hb : b = x
    · rw [hb, upd_same, ea]
    · rw [upd_ne hb]
  rw [eu] at J
  exact q _ J
end
section
open Builtin Builtin.ObjectAttr HandSPX
variable {prog : Program} {w : World} {A : Around} {R : Result → Shared → Prop} {hp : Heap} {g : Array GenState} {d : Drawn} {t : Nat} {os : OsState}
/-- the first field that an error of such a class is given: its dict is made -/
theorem first_field {B nI iI : String} {tl : List Value} (FB : BaseK B nI iI tl) {K : PySem.W.Frag} {fld : Str} {tk : Tok} {v : Value} {x C : Addr} {fv : Array Value} {cd : ClassData} (inK : K.In hp) (atX : hp.get? x = some { cls := .ref C, data := .fields fv })
    (isC : PySem.W.clsIn K C = some cd) (mro : cd.mro = .ref C :: tl) (dct : cd.hasDict = true) (noF : PySem.W.findIn K (.ref C) fld = some none)
    (done : ∀ h' tk' dx, (∀ b o, b ≠ x → hp.get? b = some o → h'.get? b = some o) → hp.objs.size ≤ dx → dx ≠ x → h'.get? x = some { cls := .ref C, dict := some dx, data := .fields fv } → h'.Ns1 dx (fun y => if y = fld then some v else none) →
      R (.ok (.ret .none)) ⟨h', g, d, tk', os⟩) : codeAny (model prog w) A (.call (.builtin "object.__setattr__") ⟨[.ref x, .str fld tk, v], []⟩) R ⟨hp, g, d, t, os⟩ := by
  have inst : PySem.W.InstAt hp x { cls := .ref C, data := .fields fv } C none := ⟨atX, rfl, rfl, trivial⟩
  have below : x ≠ hp.objs.size := Nat.ne_of_lt (Heap.lt_size atX)
  have obj : cd.mro.contains (.type "object") = true := by rw [mro, List.contains_cons, FB.st.hasOwner, Bool.or_true]
  have isObj : PySem.W.Looks (model prog w) hp (isInstance (.ref x) (.type "object")) true := inst.type.andThen (PySem.W.looks_mroIn inK (by unfold PySem.W.mroIn; rw [isC, Option.bind_some, if_neg (by rw [mro]; exact Bool.false_ne_true), obj]))
  have ST := F.store_object
  refine codeAny_call_builtin ST.slot.plain ST.entry (@PySem.W.check_slot (model prog w) _ _ ⟨hp, g, d, t, os⟩ "object.__setattr__" "object" "__setattr__" (.ref x) [.str fld tk, v] [] _ ST.kind ST.split isObj (ST.args (.ref x) (.str fld tk) v) ?_)
  have lMro : PySem.W.Looks (model prog w) hp (mroOf (.ref C)) cd.mro := (PySem.W.looks_clsIn inK isC).andThen .now
  have lCls : PySem.W.Looks (model prog w) hp (classData C) cd := PySem.W.looks_clsIn inK isC
  have lTak : PySem.W.Looks (model prog w) hp (storeTaker? none) none := .now
  have pass : refuseLoop (.ref x) "__setattr__" cd.mro = pure () := by
    rw [mro, refuseLoop_ref]
    exact FB.st.passes _
  rw [PySem.W.osa_eq, refuse_eq]
  refine wpAny_bind (wpAny_bind (inst.type.at (wpAny_bind (lMro.at ?_))))
  rw [pass]
  refine wpAny_pure (wpAny_bind (inst.type.at (wpAny_bind ((PySem.W.looks_findIn inK noF).at (wpAny_bind (lTak.at ?_))))))
  show wpAny _ _ (storeInOwnDict (.ref x) (.ref C) (.str fld tk) fld v false) _ _ _
  obtain ⟨c1, c2, c3, c4, c5, c6, c7, c8, c9, c10, c11⟩ := cd
  dsimp only at dct
  subst dct
  unfold storeInOwnDict ownDictForStores
  repeat (first | with_reducible refine HandSPX.store_in_new ?_ ?_ | with_reducible refine wpAny_loadPart_at atX ?_ | with_reducible refine lCls.at ?_ | wp_step)
  · exact ⟨_, #[], _, (Heap.get?_update_ne _ _ _ _ below.symm).trans (Heap.get?_push_at rfl rfl), rfl, fun e he => absurd he (by simp), fun _ => rfl⟩
  · intro h' tk' ns1 but
    refine done h' tk' hp.objs.size (fun b o hb ho => ?_) (Nat.le_refl _) below.symm ?_ ns1
    · exact (but.2 b (Nat.ne_of_lt (Heap.lt_size ho))).trans ((Heap.get?_update_ne _ _ _ _ hb).trans (Heap.get?_push_of_some _ ho))
    · exact (but.2 x below).trans (Heap.get?_update_self _ (show (hp.push { cls := .type "dict", data := .dict #[] }).get? x = some { cls := .ref C, data := .fields fv } from Heap.get?_push_of_some _ atX) rfl)
end
section
variable {X : Cx} {pins : List (Addr × Obj)} {σ : L2.St} {H : Hp} {s : Shared} {B nI iI : String} {tl : List Value}
/-- self.f = y, the first one -/
theorem ost_newB {a C : Addr} {f : Str} {y : V} {u : Value} {Q : Unit → Shared → Prop} {E : Value → Shared → Prop} {A : Around} (FB : BaseK B nI iI tl) (T : OexB nI tl X.K C) (I : Inv X pins σ H s) (atA : H a = some (exo a C none)) (noF : PySem.W.findIn X.K (.ref C) f = some none) (ry : RelV y u)
    (then_ : ∀ dx s', H dx = none → dx ≠ a → Inv X pins σ (upd (upd H dx (exd dx [(f, y)])) a (exo a C (some dx))) s' → Q () s') : wpAny (model X.prog X.w) A (setAttr (.ref a) f u) Q E s := by
  obtain ⟨nm, q, N, bs, sn, sub, ab, col, dd, k0, k1, k2, k3, k5, hC⟩ := T.cls
  have isC : PySem.W.clsIn X.K C = some { name := nm, bases := bs, mro := .ref C :: tl, ns := N, qualname := q, hasDict := true, slotNames := sn, subclasses := sub, abstract := ab, collection := col, hasDel := false } := by unfold PySem.W.clsIn; rw [hC] <;> rfl
  obtain ⟨t1, atH⟩ := exo_at I.hok atA
  obtain ⟨hp, g, d, t, os⟩ := s
  refine PySem.W.set_plain I.kIn (ox := { cls := .ref C, dict := none, data := .fields #[.ref t1, .none, .none, .none, .bool false, .none] }) (od := none) ⟨atH, rfl, rfl, trivial⟩ T.sa (first_field FB I.kIn atH isC rfl rfl noF fun h' tk' dx keep above ne atX ns1 => ?_)
  have freeD : H dx = none := I.hok.fresh above
  have offD : ∀ {b : Addr} {o : Obj}, hp.get? b = some o → b ≠ dx := fun {b o} z => Nat.ne_of_lt (Nat.lt_of_lt_of_le (Heap.lt_size z) above)
  have offA : ∀ {b : Addr}, H b = none → b ≠ a := fun {b} z e => by rw [e, atA] at z; cases z
  have both : ∀ {b : Addr}, b ≠ a → b ≠ dx → (upd (upd H dx (exd dx [(f, y)])) a (exo a C (some dx))) b = H b := fun h1 h2 => (upd_ne h1).trans (upd_ne h2)
  have un : Un X.fs [] H (upd (upd H dx (exd dx [(f, y)])) a (exo a C (some dx))) hp h' := by
    constructor
    · exact fun b o z n _ _ => keep b o (offA n) z
    · exact fun b o z n _ _ => ⟨o.slots, keep b o (offA n) z⟩
    · exact fun b o z n _ => (both (offA n) (offD z)).trans n
    · intro b o z _
      by_cases e : b = a
      · exact ⟨_, e ▸ atX⟩
      · exact ⟨o, keep b o e z⟩
    · exact fun b xs z => (both (at_ne atA z exo_tup) (ne_of_none z freeD)).trans z
    · exact fun b o v z => (both (at_ne atA z exo_frz) (ne_of_none z freeD)).trans z
    · exact fun b ps z => ⟨#[], by rw [both (at_ne atA z exo_tbl) (ne_of_none z freeD), z]; simp⟩
  refine then_ dx _ freeD ne (I.un (t' := tk') un fun b o z => ?_)
  by_cases e1 : b = a
  · subst e1
    rw [upd_same] at z
    cases z
    exact exo_ok atX
  by_cases e2 : b = dx
  · subst e2
    rw [upd_ne e1, upd_same] at z
    cases z
    exact exd_ok ns1 (relO_put (fs := []) ry fun _ => True.intro)
  rw [both e1 e2] at z
  refine (I.hok b o z).stay (fun c v hc k => keep c v ?_ k) (fun c hc => (both (at_ne atA hc exo_own) (ne_of_none hc freeD)).trans hc) (fun c xs hc => (both (at_ne atA hc exo_tup) (ne_of_none hc freeD)).trans hc)
  rcases hc with hc | hc
  · exact hc ▸ e1
  · exact at_ne atA hc exo_own
def tOstB (nI : String) (tl : List Value) (K : PySem.W.Frag) (f : Str) (to te : TE) : TS := fun D σ H => te σ H fun y H1 => to σ H1 fun x H2 => ∃ a C : Addr, x = .ref a ∧ OexB nI tl K C ∧ PySem.W.findIn K (.ref C) f = some none ∧
  H2 a = some (exo a C none) ∧ ∀ dx, H2 dx = none → dx ≠ a → D.nx σ (upd (upd H2 dx (exd dx [(f, y)])) a (exo a C (some dx)))
theorem ps_ostB {o e : Expr} {to te : TE} {f : Str} {p' pos : Pos} (FB : BaseK B nI iI tl) (ho : PE X o to) (he : PE X e te) (hs : swapsWith e (some (.Attribute o f p')) pos.line X.env = pure false := by rfl) : PS X (.Assign [.Attribute o f p'] e pos) (tOstB nI tl X.K f to te) :=
  ⟨fun pins s σ H D I h => plainObj_wpAny_Assign_Attribute (thn (he.run pins s σ H _ I h) fun v s1 ⟨y, H1, I1, r1, q1⟩ => thn (ho.run pins s1 σ H1 _ I1 q1) fun u s2 ⟨x, H2, I2, r2, a, C, ex, T, noF, atA, q⟩ => by
    subst ex
    obtain rfl : u = Value.ref a := r2
    exact ost_newB FB T I2 atA noF r1 fun dx s' n ne J => ⟨σ, _, J, q dx n ne⟩) hs⟩
/-- C(e, ..) in a raise -/
theorem pmk_oexB {CX : CXT} {x : Str} {C fI : Addr} {k : Nat} {fd : FuncData} {ps : List Str} {sp : Sp} {ds : List Value} {dvs : List V} {e : Expr} {es : List Expr} {ta : TA} {p pos : Pos} (FB : BaseK B nI iI tl) (T : OexB nI tl X.K C) (iC : PySem.W.findIn X.K (.ref C) "__init__" = some (some (.ref fI))) (tI : PySem.W.typeIn X.K (.ref fI) = some (.type "function"))
    (F1 : FnOk X.prog X.w X.K X.mg X.base CX k fI fd ps sp) (room : Room (k + 1) X.A) (hb : Binds X.K fd ps ds) (hd : Vals dvs ds) (pass : Passes CX X (fun _ _ _ => False)) (hg : Gl X x) (hm : X.mg x = some (.ref C)) (ha : PA X (e :: es) ta)
    (h1 : (x == ("__debug__" : Str)) = false := by decide) (h2 : starEach (e :: es) X.env = (false, eval e X.env) :: starEach es X.env := by rfl) (h3 : (backTo pos (starEach es X.env)).any (·.1) = false := by rfl) : PMk X (.Call (.Name x p) (e :: es) [] pos) (tMkO C sp dvs ta) := by
  intro pins s σ H Q I h
  obtain ⟨nm, q, N, bs, sn, sub, ab, col, dd, k0, k1, k2, k3, k5, hC⟩ := T.cls
  refine wpAny_Call_Name_kw (ld_glob I hg hm (PySem.W.callWith_K (h₀ := X.base) I.ok.mod.kin T.kC (thn (ha.run pos pins s σ H _ I h) fun us s1 ⟨vs, H1, I1, r1, hz, q1⟩ => ⟨I1.kIn, ?_⟩) h2 h3) h1)
  obtain ⟨hp, g, dr, tk, os⟩ := s1
  have free : H1 (hp.objs.size + 1) = none := I1.hok.fresh (Nat.le_succ _)
  have want := q1 (hp.objs.size + 1) free
  have stays : ∀ b o, hp.get? b = some o → ((hp.push (PySem.W.kdv_tup us)).push (PySem.HandSPX.excO C hp.objs.size)).get? b = some o := fun b o z => Heap.get?_push_of_some _ (Heap.get?_push_of_some _ z)
  have atE : ((hp.push (PySem.W.kdv_tup us)).push (PySem.HandSPX.excO C hp.objs.size)).get? (hp.objs.size + 1) = some (PySem.HandSPX.excO C hp.objs.size) := by heap_get
  have I2 : Inv X pins σ (upd H1 (hp.objs.size + 1) (exo (hp.objs.size + 1) C none)) ⟨(hp.push (PySem.W.kdv_tup us)).push (PySem.HandSPX.excO C hp.objs.size), g, dr, tk, os⟩ := I1.laid (t' := tk) stays (Nat.le_succ _) (exo_ok atE)
  have args : Vals (V.ref (hp.objs.size + 1) :: (vs ++ dvs)) (Value.ref (hp.objs.size + 1) :: (us ++ ds)) := .cons rfl (r1.append hd)
  have len1 : (Value.ref (hp.objs.size + 1) :: us ++ ds).length = ps.length := args.length.symm.trans (F1.len _ _ _ _ want)
  have len2 : us.length ≤ sizeLine := by rw [← Paired.length r1, sizeLine_eq]; omega
  have runs := F1.run _ X.stack _ _ ⟨Value.ref (hp.objs.size + 1) :: us, []⟩ _ _ _ (fun _ _ _ => False) (room.make C us []) (I2.env0.make C us []) (hb _ (Value.ref (hp.objs.size + 1) :: us) I2.kIn len1) args want
  refine wpAny_call (PySem.HandSPX.call_own FB.eb (fun _ => rfl) (I1.kIn _ _ hC) (PySem.W.looks_findIn I1.kIn iC) (fun self => PySem.W.bind_fn I1.kIn self tI) len2 (codeAny_mono runs fun res z hz => ?_))
  match res, hz with
  | .error er, hz => exact pass pins σ _ _ er z I2 hz
  | .ok (.ret u), hz =>
    obtain ⟨v, H2, os2, bare2, un2, hok2, rv, ev, d, fs, ea, ed, hd1, q2⟩ := hz
    rw [ev] at rv
    obtain ⟨h2, g2, d2, t2, os'⟩ := z
    exact ⟨rv, mk_end (raises_own T.exC T.tyC) I1 (Nat.le_succ _) stays un2 hok2 os2 bare2 ea ed hd1 q2⟩
end
open NdefX (NF ncx envF startF NScope CellsAt inv_startN)
structure SupCB (B nI iI : String) (tl : List Value) (P : Program) (K : PySem.W.Frag) (mg : Str → Option Value) (C : Addr) : Prop where
  ox : OexB nI tl K C
  su : ks_superIn K C C "__init__" = some (some (.builtin iI))
  ve : PySem.W.subIn K (.ref C) (.type B) = some true
  tp : PySem.W.nsIn K cStatics "thirdparty.any" = some none
  sm : mg "super" = none
  top : (P.main.scope.names.lookup ("super" : Str)).isSome = false
theorem fn_supB {B nI iI : String} {tl : List Value} (FB : BaseK B nI iI tl) {CX : CXT} {P : Program} {w : World} {K : PySem.W.Frag} {mg : Str → Option Value} {base : Heap} {k : Nat} {C f cda cc : Addr} {fd : FuncData} {x qual z : Str} {params : Arguments} {rest : List Stmt} {scope : Scope} {N ps : List Str} {sp : Sp} {ar : Arg} {j : Nat} {p0 p1 p2 p3 p4 p5 : Pos}
    (D : SupD P K x qual params (.Expr (.Call (.Attribute (.Call (.Name "super" p0) [] [] p1) "__init__" p2) [.Constant (.str z) j p3] [] p4) p5 :: rest) scope C f fd cda cc) (T : SupCB B nI iI tl P K mg C) (S : NScope N ps ["__class__"] scope)
    (hp : (params.posonlyargs ++ params.args).head? = some ar) (hN : N[0]? = some ar.arg) (hks : scope.names.lookup ("super" : Str) = some .globalImplicit) (hka : scope.names.lookup ar.arg = some .local)
    (len : ∀ vs H Q E, sp vs H Q E → vs.length = ps.length)
    (hc : ∀ L : Addr, ∃ pl : Sem Bool, eval (.Call (.Attribute (.Call (.Name "super" p0) [] [] p1) "__init__" p2) [.Constant (.str z) j p3] [] p4) (PySem.W.ksEnv qual scope L f (.ref cda) cc) = (do
      let ov ← attributeBase (.Call (.Name "super" p0) [] [] p1) "__init__" (PySem.W.ksEnv qual scope L f (.ref cda) cc) (eval (.Call (.Name "super" p0) [] [] p1) (PySem.W.ksEnv qual scope L f (.ref cda) cc))
      standAt p2.atName
      let (fv, first) ← holding [ov] (getMethod ov "__init__" pl)
      callWith p4 fv first (backTo p4 (starEach [.Constant (.str z) j p3] (PySem.W.ksEnv qual scope L f (.ref cda) cc))) []))
    (hbody : ∀ (A : Around) (outer : List Env) (s : Shared) (H : Hp) (vs : List V) (Q : VK) (E : XK), sp vs H Q E →
      ∃ a, vs[0]? = some (.ref a) ∧ H a = some (exo a C none) ∧ ∃ t, PSs (ncx CX P w K mg base N ⟨x, qual, params, .Expr (.Call (.Attribute (.Call (.Name "super" p0) [] [] p1) "__init__" p2) [.Constant (.str z) j p3] [] p4) p5 :: rest, scope, [("__class__", cc)], cda⟩ f A outer s H E) rest t ∧
        t { nx := fun _ H' => Q .non H', rt := Q } (startF N vs [none]) H) : FnOk P w K mg base CX (k + 1) f fd ps sp := by
  obtain ⟨oc, od, dV, kV, doc, pm, an, ct, osl, ccl, cdd, vs', ccs, cl, cld, csl, file, tf, rfl, lf, hcd, hcode, hvs, hfile, hcell⟩ := D.ex
  refine ⟨len, fun A outer s H args us vs Q E hr e0 hb r hsp => ?_⟩
  have hl := len _ _ _ _ hsp
  have lim : s.heap.NoLimit := e0.mod.nolimit.keeps fun b o e => (e0.bs b o e).1
  have KX : K.In s.heap := e0.mod.kin.keeps fun b o e => (e0.bs b o e).1
  obtain ⟨FF, hFF⟩ : ∃ FF : NF, FF = ⟨x, qual, params, .Expr (.Call (.Attribute (.Call (.Name "super" p0) [] [] p1) "__init__" p2) [.Constant (.str z) j p3] [] p4) p5 :: rest, scope, [("__class__", cc)], cda⟩ := ⟨_, rfl⟩
  have hcl : FF.cl = [(("__class__" : Str), cc)] := by rw [hFF]
  have CA : CellsAt FF.cl ["__class__"] [none] s.heap H := by
    have key : ∀ y c, FF.cl.lookup y = some c → y = "__class__" ∧ c = cc := fun y c e => by
      rw [hcl, look_one] at e
      by_cases h : y = "__class__"
      · rw [if_pos h] at e
        cases e
        exact ⟨h, rfl⟩
      · rw [if_neg h] at e
        cases e
    refine ⟨rfl, fun y c e => ?_, fun y1 y2 c e1 e2 => (key _ _ e1).1.trans (key _ _ e2).1.symm, fun i y e => ?_⟩
    · obtain ⟨_, rfl⟩ := key _ _ e
      exact ⟨(e0.bs _ _ (e0.mod.kin _ _ hcell)).2, some (.ref C), _, KX _ _ hcell, rfl⟩
    · cases i with
      | zero =>
        have e : some ("__class__" : Str) = some y := e
        cases e
        exact ⟨cc, by rw [hcl, look_one, if_pos rfl], fun v hv => by
          have hv : some (none : Option V) = some (some v) := hv
          cases hv⟩
      | succ i =>
        have e : (none : Option Str) = some y := e
        cases e
  have hscope : FF.scope = scope := by rw [hFF]
  refine codeAny_call_function hr.depth (KX _ _ lf) rfl S.co S.gen rfl (PySem.W.codeRec_of KX hcd) (hb _ _ _ _ ?_)
  refine wpAny_newFunctionEnv S.nocell (fun ⟨n, _⟩ hy => S.par n (List.of_mem_zip hy).1) (fun h₁ hns hsb => ⟨lim.fresh _ hsb, ?_⟩) S.kind
  have kp : ∀ b o, s.heap.get? b = some o → h₁.get? b = some o := fun b o e => hsb.extBut b o (Nat.ne_of_lt (Heap.lt_size e)) (Heap.get?_push_of_some _ e)
  obtain ⟨a, ha, hea, t, ht, hq⟩ := hbody A outer s H vs Q E hsp
  rw [← hFF] at ht
  have I : Inv (ncx CX P w K mg base N FF f A outer s H E) [] (startF N vs [none]) H { s with heap := h₁, toks := s.toks + (ps.zip us).length } := inv_startN (hscope ▸ S) hr.hd e0 hl r CA hns kp
  subst hFF
  show codeAny _ _ (.func (.Expr (.Call (.Attribute (.Call (.Name "super" p0) [] [] p1) "__init__" p2) [.Constant (.str z) j p3] [] p4) p5 :: rest) (PySem.W.ksEnv qual scope s.heap.objs.size f (.ref cda) cc)) _ _
  refine ks_codeAny_funcAt (ks_wpAt_execs_cons ?_)
  obtain ⟨pl, hpl⟩ := hc s.heap.objs.size
  have hσ : (startF N vs [none])[0]? = some (some (.ref a)) := by
    unfold startF
    cases vs with
    | nil => cases ha
    | cons v vs =>
      have ha : some v = some (V.ref a) := ha
      cases ha
      rfl
  refine super_atB FB (X := ncx CX P w K mg base N ⟨x, qual, params, .Expr (.Call (.Attribute (.Call (.Name "super" p0) [] [] p1) "__init__" p2) [.Constant (.str z) j p3] [] p4) p5 :: rest, scope, [("__class__", cc)], cda⟩ f A outer s H E) (pl := pl) I rfl lf hp hN hσ hcode hvs hfile hcell T.ox T.su T.ve T.tp T.sm hks (S.frk _ (List.mem_singleton.mpr rfl)) hka S.kind T.top boot_super hea (fun s2 I2 => ?_) hpl
  refine wpAt_of_wpAny ?_
  refine wpAny_mono (ht.run [] _ (startF N vs [none]) H _ I2 hq) (fun fl s' hs => ?_) fun e s' hs => hs
  have fin : ∀ {σ' : L2.St} {H' : Hp} {v : V} {u : Value}, Inv (ncx CX P w K mg base N ⟨x, qual, params, .Expr (.Call (.Attribute (.Call (.Name "super" p0) [] [] p1) "__init__" p2) [.Constant (.str z) j p3] [] p4) p5 :: rest, scope, [("__class__", cc)], cda⟩ f A outer s H E) [] σ' H' s' → L2.RelV v u → Q v H' → CE outer P w H s Q u s' :=
    fun {σ' H' v u} J rv q => ⟨v, H', J.os, J.bare, J.base, J.hok, rv, q⟩
  cases fl with
  | ret u =>
    obtain ⟨v, σ', H', J, rv, q⟩ := hs
    exact fin J rv q
  | next =>
    obtain ⟨σ', H', J, q⟩ := hs
    exact fin (v := V.non) (u := Value.none) J rfl q
  | brk =>
    obtain ⟨_, _, _, q⟩ := hs
    exact False.elim q
  | cont =>
    obtain ⟨_, _, _, q⟩ := hs
    exact False.elim q
end Mx

namespace PySem.HandSPX
open Lean Elab Tactic Meta PySem PySem.Calls PyProof.Rows
open PySem.Spec
section
variable {M : Model} {prog : Program} {w : World} {A : Around} {E : Value → Shared → Prop} {R : Result → Shared → Prop} {h : Heap} {g : Array GenState} {d : Drawn} {t : Nat} {os : OsState}
variable {nm q : Str} {C N : Addr} {bs bm bmB : List Value} {hdct : Bool} {sn : List Str} {sub : List Value} {ab : Bool} {col : Option Bool} {dd : Option Addr} {k0 k1 k2 k3 k5 : Option Value} {B newId initId : String}
theorem mx_check_newK (F : ExcBaseFacts B newId initId bmB) (hT : ∀ X : String, bm.contains (.type X) = bmB.contains (.type X)) {rest : List Value} {kw : List (Str × Value)} {Q : Unit → Shared → Prop}
    (hC : h.get? C = some (excClassObj nm q C N bs bm hdct sn sub ab col dd k0 k1 k2 k3 k5 newId)) (hq : Q () ⟨h, g, d, t, os⟩) : wpAny M A (checkBuiltinCall newId ⟨.ref C :: rest, kw⟩) Q E ⟨h, g, d, t, os⟩ := by
  have hcont : (Value.ref C :: bm).contains (.type B) = true := by rw [List.contains_cons, hT, F.hasB, Bool.or_true]
  have hstar := F.noStar
  simp only [checkBuiltinCall, F.newKind, F.newSplit, F.newRow]
  repeat (first | refine wpAny_loadPart_at hC ?_ | (refine wpAny_isSubtype_exc hC ?_; rw [hcont]) | refine wpAny_staticBase_exc hC ?_ | refine wpAny_madeBy_exc hC ?_ | simp only [bne_self_eq_false, Bool.false_eq_true, if_false] | wp_step)
  exact hq
theorem mx_newK (F : ExcBaseFacts B newId initId bmB) (hT : ∀ X : String, bm.contains (.type X) = bmB.contains (.type X)) {rest : List Value} {kw : List (Str × Value)}
    (hC : h.get? C = some (excClassObj nm q C N bs bm hdct sn sub ab col dd k0 k1 k2 k3 k5 newId))
    (hq : R (.ok (.ret (.ref (h.objs.size + 1)))) ⟨(h.push { cls := .type "tuple", data := .seq rest.toArray }).push
      { cls := .ref C, data := .fields #[.ref h.objs.size, .none, .none, .none, .bool false, .none] }, g, d, t, os⟩) (hrest : rest.length ≤ sizeLine) :
    codeAny (model prog w) A (.builtin newId ⟨.ref C :: rest, kw⟩) R ⟨h, g, d, t, os⟩ := by
  have hends := F.ends
  have hcB : (Value.ref C :: bm).contains (.type B) = true := by rw [List.contains_cons, hT, F.hasB, Bool.or_true]
  have hcA : (Value.ref C :: bm).contains (.type "AttributeError") = false := by rw [List.contains_cons, hT, F.noAttr]; rfl
  have hcN : (Value.ref C :: bm).contains (.type "NameError") = false := by rw [List.contains_cons, hT, F.noName]; rfl
  refine codeAny_builtinAt F.entry ?_
  unfold Builtin.«BaseException.__new__»
  refine wpAt_bind ?_
  show wpAt _ _ _ (stack >>= _) _ _ _
  refine wpAt_bind (wpAt_stack fun p below => wpAt_of_wpAny ?_)
  wp_walk
  refine wpAt_of_wpAny ?_
  rw [F.owner]
  repeat (first | with_reducible refine wpAny_madeHere_exc F.canon hC ?_ | with_reducible refine wpAny_loadPart_at hC ?_ | (with_reducible refine wpAny_isSubtype_exc hC ?_; first | rw [hcB] | rw [hcA] | rw [hcN]) | wp_step)
  show R _ _
  rw [Heap.size_push]
  exact hq
theorem mx_type_callK (F : ExcBaseFacts B newId initId bmB) (hT : ∀ X : String, bm.contains (.type X) = bmB.contains (.type X)) {rest : List Value} {kw : List (Str × Value)} {fI : Addr} {Q : Fin → Shared → Prop}
    (hC : h.get? C = some (excClassObj nm q C N bs bm hdct sn sub ab col dd k0 k1 k2 k3 k5 newId))
    (hi : W.Looks (model prog w) h (typeLookup (.ref C) "__init__") (some (.ref fI))) (hb : ∀ self, W.Looks (model prog w) h (bindSpecial (.ref fI) self) (.ref fI, [self])) (hrest : rest.length ≤ sizeLine)
    (hq : codeAny (model prog w) A (.call (.ref fI) ⟨.ref (h.objs.size + 1) :: rest, kw⟩)
      (fun r s' => match r with | .ok (.ret v) => v = .none ∧ Q (.done (.ret (.ref (h.objs.size + 1)))) s' | .ok _ => False | .error e => E e s')
      ⟨(h.push (W.kdv_tup rest)).push (excO C h.objs.size), g, d, t, os⟩) :
    wpAny (model prog w) A (Builtin.«type.__call__» ⟨.ref C :: rest, kw⟩) Q E ⟨h, g, d, t, os⟩ := by
  repeat (first | with_reducible refine wpAny_loadPart_at hC ?_ | with_reducible refine wpAny_madeBy_exc hC ?_ | wp_step)
  refine codeAny_call_builtin_code (Code.quiet_builtin _ F.quiet) (mx_check_newK F hT hC ?_)
  refine mx_newK F hT hC ?_ hrest
  show wpAny _ _ _ _ _ _
  have k : ∀ b o, h.get? b = some o → ((h.push (W.kdv_tup rest)).push (excO C h.objs.size)).get? b = some o := fun b o e => Heap.get?_push_of_some _ (Heap.get?_push_of_some _ e)
  have hC₁ := k _ _ hC
  have hget : ((h.push (W.kdv_tup rest)).push (excO C h.objs.size)).get? (h.objs.size + 1) = some (excO C h.objs.size) := by heap_get
  have hcC : (Value.ref C :: bm).contains (.ref C) = true := by simp
  have i1 := hi.keeps k
  have b1 := (hb (.ref (h.objs.size + 1))).keeps k
  unfold isInstance
  repeat (first | with_reducible refine wpAny_loadPart_at hget ?_ | (with_reducible refine wpAny_isSubtype_exc hC₁ ?_; rw [hcC]) | wp_step)
  show wpAny _ _ (typeLookup (.ref C) _) _ _ _
  refine i1.at ?_
  refine wpAny_holding (wpAny_bind (b1.at ?_))
  refine wpAny_bind (wpAny_call (codeAny_mono hq fun r s' z => ?_))
  rcases r with e | (v | _ | _ | _) <;> first | exact z | exact z.elim | skip
  obtain ⟨rfl, z⟩ := z
  first
    | exact wpAny_pure (wpAny_pure z)
    | (wp_walk; exact z)
theorem mx_call_ownK (F : ExcBaseFacts B newId initId bmB) (hT : ∀ X : String, bm.contains (.type X) = bmB.contains (.type X)) {rest : List Value} {kw : List (Str × Value)} {fI : Addr}
    (hC : h.get? C = some (excClassObj nm q C N bs bm hdct sn sub ab col dd k0 k1 k2 k3 k5 newId))
    (hi : W.Looks (model prog w) h (typeLookup (.ref C) "__init__") (some (.ref fI))) (hb : ∀ self, W.Looks (model prog w) h (bindSpecial (.ref fI) self) (.ref fI, [self])) (hrest : rest.length ≤ sizeLine)
    (hq : codeAny (model prog w) (A.under (.builtin "type.__call__" ⟨.ref C :: rest, kw⟩)) (.call (.ref fI) ⟨.ref (h.objs.size + 1) :: rest, kw⟩) (W.InitBack (h.objs.size + 1) R)
      ⟨(h.push (W.kdv_tup rest)).push (excO C h.objs.size), g, d, t, os⟩) :
    codeAny (model prog w) A (.call (.ref C) ⟨rest, kw⟩) R ⟨h, g, d, t, os⟩ := by
  have f1 := tc_lookup
  have f2 := tc_bind (.ref C)
  have hTy : (⟨h, g, d, t, os⟩ : Shared).TypeIs (.ref C) "type" := ⟨_, hC, rfl⟩
  refine codeAny_of_tree ?_
  show wpAny _ _ (callAny (.ref C) _) _ _ _
  repeat (any_goals (first | assumption | with_reducible refine wpAny_loadPart_at hC ?_ | wp_step))
  refine ⟨rfl, ?_⟩
  refine codeAny_call_builtin_at (Code.quiet_builtin _ (by decide +kernel)) entry_typeCall (wpAny_check_type_call_sub hC (mx_type_callK F hT hC hi hb hrest ?_))
  refine codeAny_mono hq fun r s' z => ?_
  rcases r with e | (v | _ | _ | _) <;> exact z
end
end PySem.HandSPX
namespace Mx
open PySem PySem.Spec PyProof.Rows L2 Mc
def tNewE (C : Addr) (sp : Sp) (t : TA) : TE := fun σ H Q => t σ H fun vs H1 => ∀ a, H1 a = none → sp (.ref a :: vs) (upd H1 a (exo a C none)) (fun v H2 => v = .non ∧ Q (.ref a) H2) E0
def tNewEK (C : Addr) (m : Nat) (sp : Sp) (gV : List V → List V → List V) (tk : TA) : TE := fun σ H Q => tk σ H fun zs H1 => zs.length = m ∧ ∀ a, H1 a = none → sp (gV [.ref a] zs) (upd H1 a (exo a C none)) (fun v H2 => v = .non ∧ Q (.ref a) H2) E0
def tNewE0 (C : Addr) : TE := fun _ H Q => ∀ a, H a = none → Q (.ref a) (upd H a (exo a C none))
section
variable {X : Cx} {B nI iI : String} {tl : List Value} {x : Str} {C fI : Addr} {k : Nat} {fd : FuncData} {ps ks : List Str} {sp : Sp} {e : Expr} {es : List Expr} {kws : List Keyword} {ta tk : TA} {p pos : Pos} {g : List Value → List Value → List Value} {gV : List V → List V → List V}
theorem pe_newE (FB : BaseK B nI iI tl) (T : OexB nI tl X.K C) (iC : PySem.W.findIn X.K (.ref C) "__init__" = some (some (.ref fI))) (tI : PySem.W.typeIn X.K (.ref fI) = some (.type "function"))
    (F1 : FnOk X.prog X.w X.K X.mg X.base CX0 k fI fd ps sp) (room : Room (k + 1) X.A) (hb : Binds X.K fd ps []) (lz : es.length ≤ 100) (hg : Gl X x) (hm : X.mg x = some (.ref C)) (ha : PA X (e :: es) ta)
    (h1 : (x == ("__debug__" : Str)) = false := by decide) (h2 : starEach (e :: es) X.env = (false, eval e X.env) :: starEach es X.env := by rfl) (h3 : (backTo pos (starEach es X.env)).any (·.1) = false := by rfl) : PE X (.Call (.Name x p) (e :: es) [] pos) (tNewE C (fun vs H Q E => vs.length ≤ 1000 ∧ sp vs H Q E) ta) := by
  refine ⟨fun pins s σ H Q I h => ?_⟩
  obtain ⟨nm, q, N, bs, sn, sub, ab, col, dd, k0, k1, k2, k3, k5, hC⟩ := T.cls
  refine wpAny_Call_Name_kw (ld_glob I hg hm (PySem.W.callWith_K (h₀ := X.base) I.ok.mod.kin T.kC (thn (ha.run pos pins s σ H _ I h) fun us s1 ⟨vs, H1, I1, r1, q1⟩ => ⟨I1.kIn, ?_⟩) h2 h3) h1)
  obtain ⟨hp, gg, dr, tk, os⟩ := s1
  have free : H1 (hp.objs.size + 1) = none := I1.hok.fresh (Nat.le_succ _)
  obtain ⟨hz, want⟩ := q1 (hp.objs.size + 1) free
  have stays : ∀ b o, hp.get? b = some o → ((hp.push (PySem.W.kdv_tup us)).push (PySem.HandSPX.excO C hp.objs.size)).get? b = some o := fun b o z => Heap.get?_push_of_some _ (Heap.get?_push_of_some _ z)
  have atE : ((hp.push (PySem.W.kdv_tup us)).push (PySem.HandSPX.excO C hp.objs.size)).get? (hp.objs.size + 1) = some (PySem.HandSPX.excO C hp.objs.size) := by heap_get
  have I2 : Inv X pins σ (upd H1 (hp.objs.size + 1) (exo (hp.objs.size + 1) C none)) ⟨(hp.push (PySem.W.kdv_tup us)).push (PySem.HandSPX.excO C hp.objs.size), gg, dr, tk, os⟩ := I1.laid (t' := tk) stays (Nat.le_succ _) (exo_ok atE)
  have args : Vals (V.ref (hp.objs.size + 1) :: vs) (Value.ref (hp.objs.size + 1) :: us) := .cons rfl r1
  have len1 : (Value.ref (hp.objs.size + 1) :: us).length = ps.length := args.length.symm.trans (F1.len _ _ _ _ want)
  have len2 : us.length ≤ sizeLine := by
    rw [← Paired.length r1, sizeLine_eq]
    simp only [List.length_cons] at hz
    omega
  have bb := hb _ (Value.ref (hp.objs.size + 1) :: us) I2.kIn (by rw [List.append_nil]; exact len1)
  rw [List.append_nil] at bb
  have runs := F1.run _ X.stack _ _ ⟨Value.ref (hp.objs.size + 1) :: us, []⟩ _ _ _ E0 (room.make C us []) (I2.env0.make C us []) bb args want
  refine wpAny_call (PySem.HandSPX.call_own FB.eb (fun _ => rfl) (I1.kIn _ _ hC) (PySem.W.looks_findIn I1.kIn iC) (fun self => PySem.W.bind_fn I1.kIn self tI) len2 (codeAny_mono runs fun res z hz => ?_))
  match res, hz with
  | .error er, hz => exact False.elim hz
  | .ok (.ret u), hz =>
    obtain ⟨v, H2, I3, rv, ev, q2⟩ := I2.after hz
    rw [ev] at rv
    exact ⟨rv, .ref (hp.objs.size + 1), H2, I3, rfl, q2⟩
theorem pe_newEK (FB : BaseK B nI iI tl) (T : OexB nI tl X.K C) (iC : PySem.W.findIn X.K (.ref C) "__init__" = some (some (.ref fI))) (tI : PySem.W.typeIn X.K (.ref fI) = some (.type "function"))
    (F1 : FnOk X.prog X.w X.K X.mg X.base CX0 k fI fd ps sp) (room : Room (k + 1) X.A) (hb : KBn X.K fd ps 1 ks g gV) (hg : Gl X x) (hm : X.mg x = some (.ref C)) (hkw : PK X kws tk)
    (hall : (backToKw pos (keywordEach kws X.env)).all (·.1.isSome) = true := by rfl) (hks : (backToKw pos (keywordEach kws X.env)).filterMap (·.1) = ks := by rfl) (h1 : (x == ("__debug__" : Str)) = false := by decide)
    (hpl : ((backTo pos (starEach [] X.env)).any (·.1) || (backToKw pos (keywordEach kws X.env)).any (·.1.isNone)) = false := by rfl) :
    PE X (.Call (.Name x p) [] kws pos) (tNewEK C ks.length sp gV tk) := by
  refine ⟨fun pins s σ H Q I h => ?_⟩
  obtain ⟨nm, q, N, bs, sn, sub, ab, col, dd, k0, k1, k2, k3, k5, hC⟩ := T.cls
  refine wpAny_Call_Name_kw (ld_glob I hg hm (PySem.W.callWith_KW0 (h₀ := X.base) I.ok.mod.kin T.kC hall (thn (hkw.run pos pins s σ H _ I h) fun ws s1 ⟨zs, H1, I1, r1, l1, q1⟩ => ⟨I1.kIn, ?_⟩) hpl) h1)
  rw [hks]
  obtain ⟨hp, gg, dr, tk, os⟩ := s1
  have free : H1 (hp.objs.size + 1) = none := I1.hok.fresh (Nat.le_succ _)
  have want := q1 (hp.objs.size + 1) free
  have stays : ∀ b o, hp.get? b = some o → ((hp.push (PySem.W.kdv_tup [])).push (PySem.HandSPX.excO C hp.objs.size)).get? b = some o := fun b o z => Heap.get?_push_of_some _ (Heap.get?_push_of_some _ z)
  have atE : ((hp.push (PySem.W.kdv_tup [])).push (PySem.HandSPX.excO C hp.objs.size)).get? (hp.objs.size + 1) = some (PySem.HandSPX.excO C hp.objs.size) := by heap_get
  have I2 : Inv X pins σ (upd H1 (hp.objs.size + 1) (exo (hp.objs.size + 1) C none)) ⟨(hp.push (PySem.W.kdv_tup [])).push (PySem.HandSPX.excO C hp.objs.size), gg, dr, tk, os⟩ := I1.laid (t' := tk) stays (Nat.le_succ _) (exo_ok atE)
  have rs : Vals [V.ref (hp.objs.size + 1)] [Value.ref (hp.objs.size + 1)] := .cons rfl .nil
  have runs := F1.run _ X.stack _ _ ⟨[Value.ref (hp.objs.size + 1)], ks.zip ws⟩ _ _ _ E0 (room.make C [] (ks.zip ws)) (I2.env0.make C [] (ks.zip ws)) (hb.to _ [Value.ref (hp.objs.size + 1)] ws I2.kIn rfl (r1.length.symm.trans l1)) (hb.rel rs r1) want
  refine wpAny_call (PySem.HandSPX.mx_call_ownK FB.eb (fun _ => rfl) (I1.kIn _ _ hC) (PySem.W.looks_findIn I1.kIn iC) (fun self => PySem.W.bind_fn I1.kIn self tI) (Nat.zero_le _) (codeAny_mono runs fun res z hz => ?_))
  match res, hz with
  | .error er, hz => exact False.elim hz
  | .ok (.ret u), hz =>
    obtain ⟨v, H2, I3, rv, ev, q2⟩ := I2.after hz
    rw [ev] at rv
    exact ⟨rv, .ref (hp.objs.size + 1), H2, I3, rfl, q2⟩
theorem inv_new {pins : List (Addr × Obj)} {σ : L2.St} {H : Hp} {s : Shared} {h' : Heap} {e : Addr} {us : List Value} (I : Inv X pins σ H s) (hx : Heap.MadeExcOf s.heap h' e (.ref C) us) : Inv X pins σ (upd H e (exo e C none)) { s with heap := h' } := by
  obtain ⟨hp, gg, dr, tk, os⟩ := s
  obtain ⟨t, he, _, _⟩ := hx.there
  have freeE : H e = none := I.hok.gone hx.new
  have off : ∀ {b : Addr} {o : Obj}, hp.get? b = some o → b ≠ e := fun {b o} z w => by rw [w, hx.new] at z; cases z
  have un : Un X.fs [] H (upd H e (exo e C none)) hp h' := by
    constructor
    · exact fun b o z n _ _ => hx.keeps b o z
    · exact fun b o z n _ _ => ⟨o.slots, hx.keeps b o z⟩
    · exact fun b o z n _ => (upd_ne (off z)).trans n
    · exact fun b o z _ => ⟨o, hx.keeps b o z⟩
    · exact fun b xs z => (upd_ne (ne_of_none z freeE)).trans z
    · exact fun b o v z => (upd_ne (ne_of_none z freeE)).trans z
    · exact fun b ps z => ⟨#[], by rw [upd_ne (ne_of_none z freeE), z]; simp⟩
  refine I.un (t' := tk) un fun b o z => ?_
  by_cases e1 : b = e
  · subst e1
    rw [upd_same] at z
    cases z
    exact exo_ok he
  rw [upd_ne e1] at z
  exact (I.hok b o z).stay (fun c v hc k => hx.keeps c v k) (fun c hc => (upd_ne (ne_of_none hc freeE)).trans hc) (fun c xs hc => (upd_ne (ne_of_none hc freeE)).trans hc)
theorem pe_newE0 {bmB : List Value} (F : ExcBaseFacts B nI iI bmB) (q : PySem.W.excIn X.K C bmB nI = true) (kC : PySem.W.keepIn X.K (.ref C) = true) (hg : Gl X x) (hm : X.mg x = some (.ref C)) (hdb : (x == ("__debug__" : Str)) = false := by decide) :
    PE X (.Call (.Name x p) [] [] pos) (tNewE0 C) := by
  refine ⟨fun pins s σ H Q I h => ?_⟩
  refine wpAny_Call_Name_kw (ld_glob I hg hm ?_ hdb)
  refine PySem.W.callWith_K0 I.kIn kC ?_
  obtain ⟨bm, N, nm, qn, bs, hdct, sn, sub, ab, col, dd, k0, k1, k2, k3, k5, mN, hC, hN, hni, T⟩ := exc_obj I.kIn q
  exact wpAny_call_exc_subT F T hC hN hni (fun h' e hx => ⟨.ref e, _, inv_new I hx, rfl, h e (I.hok.gone hx.new)⟩) (Nat.zero_le _)
/-- e.f of an own error -/
def tExA (K : PySem.W.Frag) (f : Str) (te : TE) : TE := fun σ H Q => te σ H fun x H1 => ∃ (a C d : Addr) (fs : List (Str × V)) (v : V), x = .ref a ∧ H1 a = some (exo a C (some d)) ∧ H1 d = some (exd d fs) ∧ XfC K C ∧ PySem.W.findIn K (.ref C) f = some none ∧ fs.lookup f = some v ∧ Q v H1
theorem pe_exA {K : PySem.W.Frag} {te : TE} {n : Str} (hK : X.K = K) (he : PE X e te) (hb : attributeBase e n X.env (eval e X.env) = eval e X.env := by rfl) : PE X (.Attribute e n pos) (tExA K n te) := by
  subst hK
  refine ⟨fun pins s σ H Q I h => ?_⟩
  refine attr_of hb (thn (he.run pins s σ H _ I h) fun u s1 ⟨x, H1, I1, rx, a, C, d, fs, v, ex, ea, ed, T, hno, l, q⟩ => ?_)
  subst ex
  obtain rfl : u = Value.ref a := rx
  obtain ⟨t1, ha⟩ := exo_at I1.hok ea
  obtain ⟨mA, hns, hr⟩ := exd_at I1.hok ed
  obtain ⟨od, ho, hl⟩ := lookIn_ns hns
  obtain ⟨u, hu, ru⟩ := RelO.some_of (v := v) (o := mA n) (by rw [← l]; exact hr n)
  have J : PySem.W.InstAt s1.heap a _ C (some od) := ⟨ha, rfl, rfl, ho⟩
  exact HandSPX.exc_get I1.kIn J T.ga T.gg T.exC (PySem.W.findObj_own T.hdC hno rfl (by rw [hl, hu])) (handed_of ru) ⟨v, H1, I1.tok _, ru, q⟩
/-- isinstance of an own error -/
structure KiE (K : PySem.W.Frag) (C : Addr) : Prop where
  cl : (PySem.W.clsIn K C).isSome = true
  xf : XfC K C
  ha : PySem.W.findIn K (.ref C) "__class__" = some (some (.builtin "object.__class__"))
  hn : PySem.W.specialIn K (.builtin "object.__class__") "__get__" = some (some (.builtin "getset_descriptor.__get__"))
  tk : PySem.W.takesIn K (.builtin "object.__class__") = some true
  hm : PySem.W.mroIn K C (.type "object") = some true
def rIsiE (K : PySem.W.Frag) : List V → Hp → VK → Prop := fun xs H Q => ∃ (a C : Addr) (d : Option Addr) (c : V) (u : Value) (b : Bool), xs = [.ref a, c] ∧ H a = some (exo a C d) ∧ (∀ dd, d = some dd → ∃ fs, H dd = some (exd dd fs)) ∧ KiE K C ∧ ClsV c u ∧ PySem.W.kitOne K (.ref C) u = some b ∧ Q (.bl b) H
theorem call_isiE {K : PySem.W.Frag} (hK : X.K = K) : CallR X (.builtin "isinstance") (rIsiE K) := by
  subst hK
  intro pins s σ H xs us Q I r h
  obtain ⟨a, C, d, c, u, b, rfl, ea, hd, T, k, e, q⟩ := h
  obtain ⟨u1, u2, rfl, r1, r2⟩ := vals2 r
  have e2 := k.eq r2
  subst e2
  obtain rfl : u1 = Value.ref a := r1
  obtain ⟨t1, ha⟩ := exo_at I.hok ea
  have J : ∃ ox od, PySem.W.InstAt s.heap a ox C od := by
    cases d with
    | none => exact ⟨_, none, ha, rfl, rfl, trivial⟩
    | some dd =>
      obtain ⟨fs, ed⟩ := hd dd rfl
      obtain ⟨mA, hns, hr⟩ := exd_at I.hok ed
      obtain ⟨od, ho, hl⟩ := lookIn_ns hns
      exact ⟨_, some od, ha, rfl, rfl, ho⟩
  obtain ⟨ox, od, J⟩ := J
  exact PySem.W.kia_one (PySem.W.kitx_exc T.cl T.xf.ga T.xf.gg T.xf.exC T.ha T.hn T.tk T.hm) I.kIn J e (fun z => nomatch z) fun tk => ⟨.bl b, H, I.tok tk, rfl, q⟩
end
end Mx

namespace K1
open PySem PySem.Spec PyProof.Rows L2 Mc Mx
def top (i : Nat) : Stmt := PySem.Challenge.pw_mostcalls_k01_error_classes.main.body.getD i (.Pass ⟨0, 0, 0, 0⟩)
abbrev s_InvalidNameinit : Stmt := inClass (top 1) 0
abbrev N_InvalidNameinit : List Str := ["self", "value", "__class__"]
theorem sc_InvalidNameinit : NdefX.NScope N_InvalidNameinit ["self", "value"] ["__class__"] (defScope s_InvalidNameinit) := NdefX.nscope_by (by decide +kernel)
abbrev s_InvalidPolicyinit : Stmt := inClass (top 2) 0
abbrev N_InvalidPolicyinit : List Str := ["self", "field", "__class__"]
theorem sc_InvalidPolicyinit : NdefX.NScope N_InvalidPolicyinit ["self", "field"] ["__class__"] (defScope s_InvalidPolicyinit) := NdefX.nscope_by (by decide +kernel)
abbrev s_InvalidPoliciesinit : Stmt := inClass (top 3) 0
abbrev N_InvalidPoliciesinit : List Str := ["self", "number", "__class__"]
theorem sc_InvalidPoliciesinit : NdefX.NScope N_InvalidPoliciesinit ["self", "number"] ["__class__"] (defScope s_InvalidPoliciesinit) := NdefX.nscope_by (by decide +kernel)
abbrev s_InvalidServicesinit : Stmt := inClass (top 4) 0
abbrev N_InvalidServicesinit : List Str := ["self", "number", "__class__"]
theorem sc_InvalidServicesinit : NdefX.NScope N_InvalidServicesinit ["self", "number"] ["__class__"] (defScope s_InvalidServicesinit) := NdefX.nscope_by (by decide +kernel)
abbrev s_InvalidPartinit : Stmt := inClass (top 5) 0
abbrev N_InvalidPartinit : List Str := ["self", "service", "place", "__class__"]
theorem sc_InvalidPartinit : NdefX.NScope N_InvalidPartinit ["self", "service", "place"] ["__class__"] (defScope s_InvalidPartinit) := NdefX.nscope_by (by decide +kernel)
abbrev s_InvalidTextinit : Stmt := inClass (top 6) 0
abbrev N_InvalidTextinit : List Str := ["self", "line", "__class__"]
theorem sc_InvalidTextinit : NdefX.NScope N_InvalidTextinit ["self", "line"] ["__class__"] (defScope s_InvalidTextinit) := NdefX.nscope_by (by decide +kernel)
abbrev s_InvalidChoicesinit : Stmt := inClass (top 7) 0
abbrev N_InvalidChoicesinit : List Str := ["self", "value", "__class__"]
theorem sc_InvalidChoicesinit : NdefX.NScope N_InvalidChoicesinit ["self", "value"] ["__class__"] (defScope s_InvalidChoicesinit) := NdefX.nscope_by (by decide +kernel)
abbrev s_InvalidChoiceinit : Stmt := inClass (top 8) 0
abbrev N_InvalidChoiceinit : List Str := ["self", "path", "__class__"]
theorem sc_InvalidChoiceinit : NdefX.NScope N_InvalidChoiceinit ["self", "path"] ["__class__"] (defScope s_InvalidChoiceinit) := NdefX.nscope_by (by decide +kernel)
abbrev s_InvalidNumberinit : Stmt := inClass (top 9) 0
abbrev N_InvalidNumberinit : List Str := ["self", "value", "__class__"]
theorem sc_InvalidNumberinit : NdefX.NScope N_InvalidNumberinit ["self", "value"] ["__class__"] (defScope s_InvalidNumberinit) := NdefX.nscope_by (by decide +kernel)
abbrev s_InvalidRowsinit : Stmt := inClass (top 10) 0
abbrev N_InvalidRowsinit : List Str := ["self", "value", "__class__"]
theorem sc_InvalidRowsinit : NdefX.NScope N_InvalidRowsinit ["self", "value"] ["__class__"] (defScope s_InvalidRowsinit) := NdefX.nscope_by (by decide +kernel)
abbrev s_InvalidTableinit : Stmt := inClass (top 11) 0
abbrev N_InvalidTableinit : List Str := ["self", "value", "__class__"]
theorem sc_InvalidTableinit : NdefX.NScope N_InvalidTableinit ["self", "value"] ["__class__"] (defScope s_InvalidTableinit) := NdefX.nscope_by (by decide +kernel)
abbrev s_InvalidMeasureinit : Stmt := inClass (top 12) 0
abbrev N_InvalidMeasureinit : List Str := ["self", "value", "__class__"]
theorem sc_InvalidMeasureinit : NdefX.NScope N_InvalidMeasureinit ["self", "value"] ["__class__"] (defScope s_InvalidMeasureinit) := NdefX.nscope_by (by decide +kernel)
abbrev s_InvalidLaneinit : Stmt := inClass (top 13) 0
abbrev N_InvalidLaneinit : List Str := ["self", "field", "__class__"]
theorem sc_InvalidLaneinit : NdefX.NScope N_InvalidLaneinit ["self", "field"] ["__class__"] (defScope s_InvalidLaneinit) := NdefX.nscope_by (by decide +kernel)
abbrev s_InvalidStateinit : Stmt := inClass (top 14) 0
abbrev N_InvalidStateinit : List Str := ["self", "value", "__class__"]
theorem sc_InvalidStateinit : NdefX.NScope N_InvalidStateinit ["self", "value"] ["__class__"] (defScope s_InvalidStateinit) := NdefX.nscope_by (by decide +kernel)
abbrev s_InvalidStepinit : Stmt := inClass (top 15) 0
abbrev N_InvalidStepinit : List Str := ["self", "value", "__class__"]
theorem sc_InvalidStepinit : NdefX.NScope N_InvalidStepinit ["self", "value"] ["__class__"] (defScope s_InvalidStepinit) := NdefX.nscope_by (by decide +kernel)
abbrev s_InvalidLineinit : Stmt := inClass (top 16) 0
abbrev N_InvalidLineinit : List Str := ["self", "field", "__class__"]
theorem sc_InvalidLineinit : NdefX.NScope N_InvalidLineinit ["self", "field"] ["__class__"] (defScope s_InvalidLineinit) := NdefX.nscope_by (by decide +kernel)
abbrev s_InvalidOfferinit : Stmt := inClass (top 17) 0
abbrev N_InvalidOfferinit : List Str := ["self", "number", "__class__"]
theorem sc_InvalidOfferinit : NdefX.NScope N_InvalidOfferinit ["self", "number"] ["__class__"] (defScope s_InvalidOfferinit) := NdefX.nscope_by (by decide +kernel)
abbrev s_InvalidWishinit : Stmt := inClass (top 18) 0
abbrev N_InvalidWishinit : List Str := ["self", "number", "__class__"]
theorem sc_InvalidWishinit : NdefX.NScope N_InvalidWishinit ["self", "number"] ["__class__"] (defScope s_InvalidWishinit) := NdefX.nscope_by (by decide +kernel)
abbrev s_InvalidQuestioninit : Stmt := inClass (top 19) 0
abbrev N_InvalidQuestioninit : List Str := ["self", "word", "__class__"]
theorem sc_InvalidQuestioninit : NdefX.NScope N_InvalidQuestioninit ["self", "word"] ["__class__"] (defScope s_InvalidQuestioninit) := NdefX.nscope_by (by decide +kernel)
abbrev s_InvalidCommandinit : Stmt := inClass (top 20) 0
abbrev N_InvalidCommandinit : List Str := ["self", "word", "__class__"]
theorem sc_InvalidCommandinit : NdefX.NScope N_InvalidCommandinit ["self", "word"] ["__class__"] (defScope s_InvalidCommandinit) := NdefX.nscope_by (by decide +kernel)
abbrev s_UnknownNameinit : Stmt := inClass (top 21) 0
abbrev N_UnknownNameinit : List Str := ["self", "value", "__class__"]
theorem sc_UnknownNameinit : NdefX.NScope N_UnknownNameinit ["self", "value"] ["__class__"] (defScope s_UnknownNameinit) := NdefX.nscope_by (by decide +kernel)
abbrev s_TooLonginit : Stmt := inClass (top 22) 0
abbrev N_TooLonginit : List Str := ["self", "service", "__class__"]
theorem sc_TooLonginit : NdefX.NScope N_TooLonginit ["self", "service"] ["__class__"] (defScope s_TooLonginit) := NdefX.nscope_by (by decide +kernel)
abbrev s_LimitExceededinit : Stmt := inClass (top 23) 0
abbrev N_LimitExceededinit : List Str := ["self", "most", "__class__"]
theorem sc_LimitExceededinit : NdefX.NScope N_LimitExceededinit ["self", "most"] ["__class__"] (defScope s_LimitExceededinit) := NdefX.nscope_by (by decide +kernel)
abbrev s_law_pool : Stmt := top 29
abbrev N_law_pool : List Str := ["_law_script", "_law_k", "_law_cell", "_law_seed"]
theorem sc_law_pool : FnScope N_law_pool ["_law_script", "_law_k"] (defScope s_law_pool) := ⟨rfl, rfl, rfl, by decide +kernel, rfl, by decide +kernel, by decide +kernel⟩
abbrev s_law_draw : Stmt := top 30
abbrev N_law_draw : List Str := ["_law_pool_here", "_law_many", "_law_digit"]
theorem sc_law_draw : FnScope N_law_draw ["_law_pool_here", "_law_many"] (defScope s_law_draw) := ⟨rfl, rfl, rfl, by decide +kernel, rfl, by decide +kernel, by decide +kernel⟩
abbrev s_law_choose : Stmt := top 31
abbrev N_law_choose : List Str := ["_law_pool_here", "_law_items"]
theorem sc_law_choose : FnScope N_law_choose ["_law_pool_here", "_law_items"] (defScope s_law_choose) := ⟨rfl, rfl, rfl, by decide +kernel, rfl, by decide +kernel, by decide +kernel⟩
abbrev s_law_made : Stmt := top 32
abbrev N_law_made : List Str := ["_law_held", "_law_found"]
theorem sc_law_made : FnScope N_law_made ["_law_held"] (defScope s_law_made) := ⟨rfl, rfl, rfl, by decide +kernel, rfl, by decide +kernel, by decide +kernel⟩
abbrev s_law_named : Stmt := top 33
abbrev N_law_named : List Str := ["_law_held", "_law_found"]
theorem sc_law_named : FnScope N_law_named ["_law_held"] (defScope s_law_named) := ⟨rfl, rfl, rfl, by decide +kernel, rfl, by decide +kernel, by decide +kernel⟩
abbrev s_law_fields : Stmt := top 34
abbrev N_law_fields : List Str := ["_law_made_here", "_law_found"]
theorem sc_law_fields : FnScope N_law_fields ["_law_made_here"] (defScope s_law_fields) := ⟨rfl, rfl, rfl, by decide +kernel, rfl, by decide +kernel, by decide +kernel⟩
abbrev s_law_kinds : Stmt := top 35
abbrev N_law_kinds : List Str := ["_law_one", "_law_found"]
theorem sc_law_kinds : FnScope N_law_kinds ["_law_one"] (defScope s_law_kinds) := ⟨rfl, rfl, rfl, by decide +kernel, rfl, by decide +kernel, by decide +kernel⟩
abbrev s_law : Stmt := top 36
abbrev N_law : List Str := ["_law_script", "_law_due", "_law_k", "_law_pool_here", "_law_held", "_law_made_here", "_law_at", "_law_one", "_law_kinds_here", "_law_spot"]
theorem sc_law : FnScope N_law ["_law_script"] (defScope s_law) := ⟨rfl, rfl, rfl, by decide +kernel, rfl, by decide +kernel, by decide +kernel⟩
structure Txt (mg : Str → Option Value) : Prop where
  n_isinstance : mg "isinstance" = none
  n_len : mg "len" = none
  n_range : mg "range" = none
  n_repr : mg "repr" = none
  n_max : mg "max" = none
  n_min : mg "min" = none
  n_int : mg "int" = none
  n_enumerate : mg "enumerate" = none
  n_ValueError : mg "ValueError" = none
  n_LookupError : mg "LookupError" = none
  n_OverflowError : mg "OverflowError" = none
  n_RuntimeError : mg "RuntimeError" = none
end K1

namespace K1
open PySem PySem.Spec PyProof.Rows L2 Mc Mx
section
variable {P : Program} {w : World} {K : PySem.W.Frag} {mg : Str → Option Value} {base : Heap}
local macro_rules | `(tactic| walk_at "rd1") => `(tactic| first
  | with_reducible refine g_seq ?_
  | with_reducible refine g_asg ?_
  | with_reducible refine g_name ?_
  | with_reducible refine g_c ?_
  | with_reducible refine g_op ?_
  | with_reducible refine g_ifS ?_
  | with_reducible refine g_if ?_
  | with_reducible refine g_test ?_
  | with_reducible refine g_B ?_
  | with_reducible refine g_bl ?_
  | with_reducible refine g_blV ?_
  | with_reducible refine g_not ?_
  | with_reducible refine g_and ?_
  | with_reducible refine g_or ?_
  | with_reducible refine g_notV ?_
  | with_reducible refine g_andV ?_
  | with_reducible refine g_orV ?_
  | with_reducible refine g_ret ?_
  | with_reducible refine g_drop ?_
  | with_reducible refine g_next ?_
  | with_reducible refine g_retN ?_
  | with_reducible refine g_call ?_
  | with_reducible refine g_cb ?_
  | with_reducible refine g_cons ?_
  | with_reducible refine g_nil ?_
  | with_reducible refine g_tup ?_
  | with_reducible refine g_lst ?_
  | with_reducible refine g_prop ?_
  | with_reducible refine g_fld ?_
  | with_reducible refine g_meth ?_
  | with_reducible refine g_chain ?_
  | with_reducible refine g_yes ?_
  | with_reducible refine g_make ?_
  | with_reducible refine g_makeK ?_
  | with_reducible refine g_gsub ?_
  | with_reducible refine g_sfld ?_
  | with_reducible refine g_un ?_
  | with_reducible refine g_bm ?_
  | with_reducible refine g_iteT ?_
  | with_reducible refine g_iteF ?_
  | with_reducible refine g_I0 ?_
  | with_reducible refine g_add ?_
  | with_reducible refine g_sub ?_
  | ((with_reducible refine' g_var ?hv ?_); (case hv => rfl))
  | ((with_reducible refine g_eq ?hv ?_); (case hv => rfl))
  | ((with_reducible refine g_ne ?hv ?_); (case hv => rfl)))
local macro_rules | `(tactic| walk_at "rd") => `(tactic| repeat (walk_at "rd1"))

local macro_rules | `(tactic| walk_at "ty") => `(tactic| first | exact .non | exact .bl _ | exact .int _ | exact .str _ | exact .lst (by assumption) | exact .tup (by assumption) | exact .dK (by assumption) | exact .kTup (by assumption) (by assumption))
local macro_rules | `(tactic| walk_at "isiF") => `(tactic| refine g_isi (by walk_at "ty") (b := false) (by decide +kernel) ?_)
local macro_rules | `(tactic| walk_at "isiT") => `(tactic| refine g_isi (by walk_at "ty") (b := true) (by decide +kernel) ?_)

theorem g_ost {σ : L2.St} {H : Hp} {D : Ends} {f : Str} {to te : TE} (q : te σ H fun y H1 => to σ H1 fun x H2 => ∃ a C : Addr, x = .ref a ∧ OexC K C ∧ PySem.W.findIn K (.ref C) f = some none ∧
  ((H2 a = some (exo a C none) ∧ ∀ dx, H2 dx = none → dx ≠ a → D.nx σ (upd (upd H2 dx (exd dx [(f, y)])) a (exo a C (some dx)))) ∨
    ∃ (dx : Addr) (fs : List (Str × V)), H2 a = some (exo a C (some dx)) ∧ H2 dx = some (exd dx fs) ∧ fs.length ≤ 900 ∧ D.nx σ (upd H2 dx (exd dx ((f, y) :: fs))))) : tOst K f to te D σ H := q
theorem g_ostB {nI : String} {tl : List Value} {σ : L2.St} {H : Hp} {D : Ends} {f : Str} {to te : TE} (q : te σ H fun y H1 => to σ H1 fun x H2 => ∃ a C : Addr, x = .ref a ∧ OexB nI tl K C ∧ PySem.W.findIn K (.ref C) f = some none ∧
  H2 a = some (exo a C none) ∧ ∀ dx, H2 dx = none → dx ≠ a → D.nx σ (upd (upd H2 dx (exd dx [(f, y)])) a (exo a C (some dx)))) : tOstB nI tl K f to te D σ H := q
def spEx2 (C : Addr) : Sp := fun vs H Q _ => ∃ a s p, vs = [.ref a, s, p] ∧ H a = some (exo a C none) ∧ ∀ dx, H dx = none → dx ≠ a → Q .non (upd (upd (upd H dx (exd dx [("service", s)])) a (exo a C (some dx))) dx (exd dx [("place", p), ("service", s)]))
theorem ok_InvalidName {C f cda cc : Addr} {fd : FuncData} (D : SupD P K "__init__" "InvalidName.__init__" (defArgs s_InvalidNameinit) (defBody s_InvalidNameinit) (defScope s_InvalidNameinit) C f fd cda cc) (T : SupC P K mg C) (nf : PySem.W.findIn K (.ref C) "value" = some none) :
    FnOk P w K mg base CX0 1 f fd ["self", "value"] (spEx C "value") := by
  refine fn_sup D T sc_InvalidNameinit rfl rfl (by decide +kernel) (by decide +kernel) (fun vs H Q E h => ?_) (fun L => ⟨_, rfl⟩) (fun A outer s H vs Q E h => ?_)
  · obtain ⟨a, v, rfl, _⟩ := h
    rfl
  · obtain ⟨a, v, rfl, ha, q⟩ := h
    refine ⟨a, rfl, ha, _, pss_one (ps_ost (pv 0) (pv 1)), ?_⟩
    refine g_ost ?_
    walk_at "rd"
    exact ⟨a, C, rfl, T.ox, nf, .inl ⟨ha, q⟩⟩
theorem ok_InvalidPolicy {C f cda cc : Addr} {fd : FuncData} (D : SupD P K "__init__" "InvalidPolicy.__init__" (defArgs s_InvalidPolicyinit) (defBody s_InvalidPolicyinit) (defScope s_InvalidPolicyinit) C f fd cda cc) (T : SupC P K mg C) (nf : PySem.W.findIn K (.ref C) "field" = some none) :
    FnOk P w K mg base CX0 1 f fd ["self", "field"] (spEx C "field") := by
  refine fn_sup D T sc_InvalidPolicyinit rfl rfl (by decide +kernel) (by decide +kernel) (fun vs H Q E h => ?_) (fun L => ⟨_, rfl⟩) (fun A outer s H vs Q E h => ?_)
  · obtain ⟨a, v, rfl, _⟩ := h
    rfl
  · obtain ⟨a, v, rfl, ha, q⟩ := h
    refine ⟨a, rfl, ha, _, pss_one (ps_ost (pv 0) (pv 1)), ?_⟩
    refine g_ost ?_
    walk_at "rd"
    exact ⟨a, C, rfl, T.ox, nf, .inl ⟨ha, q⟩⟩
theorem ok_InvalidPolicies {C f cda cc : Addr} {fd : FuncData} (D : SupD P K "__init__" "InvalidPolicies.__init__" (defArgs s_InvalidPoliciesinit) (defBody s_InvalidPoliciesinit) (defScope s_InvalidPoliciesinit) C f fd cda cc) (T : SupC P K mg C) (nf : PySem.W.findIn K (.ref C) "number" = some none) :
    FnOk P w K mg base CX0 1 f fd ["self", "number"] (spEx C "number") := by
  refine fn_sup D T sc_InvalidPoliciesinit rfl rfl (by decide +kernel) (by decide +kernel) (fun vs H Q E h => ?_) (fun L => ⟨_, rfl⟩) (fun A outer s H vs Q E h => ?_)
  · obtain ⟨a, v, rfl, _⟩ := h
    rfl
  · obtain ⟨a, v, rfl, ha, q⟩ := h
    refine ⟨a, rfl, ha, _, pss_one (ps_ost (pv 0) (pv 1)), ?_⟩
    refine g_ost ?_
    walk_at "rd"
    exact ⟨a, C, rfl, T.ox, nf, .inl ⟨ha, q⟩⟩
theorem ok_InvalidServices {C f cda cc : Addr} {fd : FuncData} (D : SupD P K "__init__" "InvalidServices.__init__" (defArgs s_InvalidServicesinit) (defBody s_InvalidServicesinit) (defScope s_InvalidServicesinit) C f fd cda cc) (T : SupC P K mg C) (nf : PySem.W.findIn K (.ref C) "number" = some none) :
    FnOk P w K mg base CX0 1 f fd ["self", "number"] (spEx C "number") := by
  refine fn_sup D T sc_InvalidServicesinit rfl rfl (by decide +kernel) (by decide +kernel) (fun vs H Q E h => ?_) (fun L => ⟨_, rfl⟩) (fun A outer s H vs Q E h => ?_)
  · obtain ⟨a, v, rfl, _⟩ := h
    rfl
  · obtain ⟨a, v, rfl, ha, q⟩ := h
    refine ⟨a, rfl, ha, _, pss_one (ps_ost (pv 0) (pv 1)), ?_⟩
    refine g_ost ?_
    walk_at "rd"
    exact ⟨a, C, rfl, T.ox, nf, .inl ⟨ha, q⟩⟩
theorem ok_InvalidPart {C f cda cc : Addr} {fd : FuncData} (D : SupD P K "__init__" "InvalidPart.__init__" (defArgs s_InvalidPartinit) (defBody s_InvalidPartinit) (defScope s_InvalidPartinit) C f fd cda cc) (T : SupC P K mg C) (nf : PySem.W.findIn K (.ref C) "service" = some none) (nf2 : PySem.W.findIn K (.ref C) "place" = some none) :
    FnOk P w K mg base CX0 1 f fd ["self", "service", "place"] (spEx2 C) := by
  refine fn_sup D T sc_InvalidPartinit rfl rfl (by decide +kernel) (by decide +kernel) (fun vs H Q E h => ?_) (fun L => ⟨_, rfl⟩) (fun A outer s H vs Q E h => ?_)
  · obtain ⟨a, s, p, rfl, _⟩ := h
    rfl
  · obtain ⟨a, s', p, rfl, ha, q⟩ := h
    refine ⟨a, rfl, ha, _, pss_cons (ps_ost (pv 0) (pv 1)) (pss_one (ps_ost (pv 0) (pv 2))), ?_⟩
    refine g_seq ?_
    refine g_ost ?_
    walk_at "rd"
    refine ⟨a, C, rfl, T.ox, nf, .inl ⟨ha, fun dx nd ne => ?_⟩⟩
    dsimp only
    refine g_ost ?_
    walk_at "rd"
    refine ⟨a, C, rfl, T.ox, nf2, .inr ⟨dx, _, upd_same, by rw [upd_ne ne]; exact upd_same, by show 1 ≤ 900; decide, q dx nd ne⟩⟩
theorem ok_InvalidText {C f cda cc : Addr} {fd : FuncData} (D : SupD P K "__init__" "InvalidText.__init__" (defArgs s_InvalidTextinit) (defBody s_InvalidTextinit) (defScope s_InvalidTextinit) C f fd cda cc) (T : SupC P K mg C) (nf : PySem.W.findIn K (.ref C) "line" = some none) :
    FnOk P w K mg base CX0 1 f fd ["self", "line"] (spEx C "line") := by
  refine fn_sup D T sc_InvalidTextinit rfl rfl (by decide +kernel) (by decide +kernel) (fun vs H Q E h => ?_) (fun L => ⟨_, rfl⟩) (fun A outer s H vs Q E h => ?_)
  · obtain ⟨a, v, rfl, _⟩ := h
    rfl
  · obtain ⟨a, v, rfl, ha, q⟩ := h
    refine ⟨a, rfl, ha, _, pss_one (ps_ost (pv 0) (pv 1)), ?_⟩
    refine g_ost ?_
    walk_at "rd"
    exact ⟨a, C, rfl, T.ox, nf, .inl ⟨ha, q⟩⟩
theorem ok_InvalidChoices {C f cda cc : Addr} {fd : FuncData} (D : SupD P K "__init__" "InvalidChoices.__init__" (defArgs s_InvalidChoicesinit) (defBody s_InvalidChoicesinit) (defScope s_InvalidChoicesinit) C f fd cda cc) (T : SupC P K mg C) (nf : PySem.W.findIn K (.ref C) "value" = some none) :
    FnOk P w K mg base CX0 1 f fd ["self", "value"] (spEx C "value") := by
  refine fn_sup D T sc_InvalidChoicesinit rfl rfl (by decide +kernel) (by decide +kernel) (fun vs H Q E h => ?_) (fun L => ⟨_, rfl⟩) (fun A outer s H vs Q E h => ?_)
  · obtain ⟨a, v, rfl, _⟩ := h
    rfl
  · obtain ⟨a, v, rfl, ha, q⟩ := h
    refine ⟨a, rfl, ha, _, pss_one (ps_ost (pv 0) (pv 1)), ?_⟩
    refine g_ost ?_
    walk_at "rd"
    exact ⟨a, C, rfl, T.ox, nf, .inl ⟨ha, q⟩⟩
theorem ok_InvalidChoice {C f cda cc : Addr} {fd : FuncData} (D : SupD P K "__init__" "InvalidChoice.__init__" (defArgs s_InvalidChoiceinit) (defBody s_InvalidChoiceinit) (defScope s_InvalidChoiceinit) C f fd cda cc) (T : SupC P K mg C) (nf : PySem.W.findIn K (.ref C) "path" = some none) :
    FnOk P w K mg base CX0 1 f fd ["self", "path"] (spEx C "path") := by
  refine fn_sup D T sc_InvalidChoiceinit rfl rfl (by decide +kernel) (by decide +kernel) (fun vs H Q E h => ?_) (fun L => ⟨_, rfl⟩) (fun A outer s H vs Q E h => ?_)
  · obtain ⟨a, v, rfl, _⟩ := h
    rfl
  · obtain ⟨a, v, rfl, ha, q⟩ := h
    refine ⟨a, rfl, ha, _, pss_one (ps_ost (pv 0) (pv 1)), ?_⟩
    refine g_ost ?_
    walk_at "rd"
    exact ⟨a, C, rfl, T.ox, nf, .inl ⟨ha, q⟩⟩
theorem ok_InvalidNumber {C f cda cc : Addr} {fd : FuncData} (D : SupD P K "__init__" "InvalidNumber.__init__" (defArgs s_InvalidNumberinit) (defBody s_InvalidNumberinit) (defScope s_InvalidNumberinit) C f fd cda cc) (T : SupC P K mg C) (nf : PySem.W.findIn K (.ref C) "value" = some none) :
    FnOk P w K mg base CX0 1 f fd ["self", "value"] (spEx C "value") := by
  refine fn_sup D T sc_InvalidNumberinit rfl rfl (by decide +kernel) (by decide +kernel) (fun vs H Q E h => ?_) (fun L => ⟨_, rfl⟩) (fun A outer s H vs Q E h => ?_)
  · obtain ⟨a, v, rfl, _⟩ := h
    rfl
  · obtain ⟨a, v, rfl, ha, q⟩ := h
    refine ⟨a, rfl, ha, _, pss_one (ps_ost (pv 0) (pv 1)), ?_⟩
    refine g_ost ?_
    walk_at "rd"
    exact ⟨a, C, rfl, T.ox, nf, .inl ⟨ha, q⟩⟩
theorem ok_InvalidRows {C f cda cc : Addr} {fd : FuncData} (D : SupD P K "__init__" "InvalidRows.__init__" (defArgs s_InvalidRowsinit) (defBody s_InvalidRowsinit) (defScope s_InvalidRowsinit) C f fd cda cc) (T : SupC P K mg C) (nf : PySem.W.findIn K (.ref C) "value" = some none) :
    FnOk P w K mg base CX0 1 f fd ["self", "value"] (spEx C "value") := by
  refine fn_sup D T sc_InvalidRowsinit rfl rfl (by decide +kernel) (by decide +kernel) (fun vs H Q E h => ?_) (fun L => ⟨_, rfl⟩) (fun A outer s H vs Q E h => ?_)
  · obtain ⟨a, v, rfl, _⟩ := h
    rfl
  · obtain ⟨a, v, rfl, ha, q⟩ := h
    refine ⟨a, rfl, ha, _, pss_one (ps_ost (pv 0) (pv 1)), ?_⟩
    refine g_ost ?_
    walk_at "rd"
    exact ⟨a, C, rfl, T.ox, nf, .inl ⟨ha, q⟩⟩
theorem ok_InvalidTable {C f cda cc : Addr} {fd : FuncData} (D : SupD P K "__init__" "InvalidTable.__init__" (defArgs s_InvalidTableinit) (defBody s_InvalidTableinit) (defScope s_InvalidTableinit) C f fd cda cc) (T : SupC P K mg C) (nf : PySem.W.findIn K (.ref C) "value" = some none) :
    FnOk P w K mg base CX0 1 f fd ["self", "value"] (spEx C "value") := by
  refine fn_sup D T sc_InvalidTableinit rfl rfl (by decide +kernel) (by decide +kernel) (fun vs H Q E h => ?_) (fun L => ⟨_, rfl⟩) (fun A outer s H vs Q E h => ?_)
  · obtain ⟨a, v, rfl, _⟩ := h
    rfl
  · obtain ⟨a, v, rfl, ha, q⟩ := h
    refine ⟨a, rfl, ha, _, pss_one (ps_ost (pv 0) (pv 1)), ?_⟩
    refine g_ost ?_
    walk_at "rd"
    exact ⟨a, C, rfl, T.ox, nf, .inl ⟨ha, q⟩⟩
theorem ok_InvalidMeasure {C f cda cc : Addr} {fd : FuncData} (D : SupD P K "__init__" "InvalidMeasure.__init__" (defArgs s_InvalidMeasureinit) (defBody s_InvalidMeasureinit) (defScope s_InvalidMeasureinit) C f fd cda cc) (T : SupC P K mg C) (nf : PySem.W.findIn K (.ref C) "value" = some none) :
    FnOk P w K mg base CX0 1 f fd ["self", "value"] (spEx C "value") := by
  refine fn_sup D T sc_InvalidMeasureinit rfl rfl (by decide +kernel) (by decide +kernel) (fun vs H Q E h => ?_) (fun L => ⟨_, rfl⟩) (fun A outer s H vs Q E h => ?_)
  · obtain ⟨a, v, rfl, _⟩ := h
    rfl
  · obtain ⟨a, v, rfl, ha, q⟩ := h
    refine ⟨a, rfl, ha, _, pss_one (ps_ost (pv 0) (pv 1)), ?_⟩
    refine g_ost ?_
    walk_at "rd"
    exact ⟨a, C, rfl, T.ox, nf, .inl ⟨ha, q⟩⟩
theorem ok_InvalidLane {C f cda cc : Addr} {fd : FuncData} (D : SupD P K "__init__" "InvalidLane.__init__" (defArgs s_InvalidLaneinit) (defBody s_InvalidLaneinit) (defScope s_InvalidLaneinit) C f fd cda cc) (T : SupC P K mg C) (nf : PySem.W.findIn K (.ref C) "field" = some none) :
    FnOk P w K mg base CX0 1 f fd ["self", "field"] (spEx C "field") := by
  refine fn_sup D T sc_InvalidLaneinit rfl rfl (by decide +kernel) (by decide +kernel) (fun vs H Q E h => ?_) (fun L => ⟨_, rfl⟩) (fun A outer s H vs Q E h => ?_)
  · obtain ⟨a, v, rfl, _⟩ := h
    rfl
  · obtain ⟨a, v, rfl, ha, q⟩ := h
    refine ⟨a, rfl, ha, _, pss_one (ps_ost (pv 0) (pv 1)), ?_⟩
    refine g_ost ?_
    walk_at "rd"
    exact ⟨a, C, rfl, T.ox, nf, .inl ⟨ha, q⟩⟩
theorem ok_InvalidState {C f cda cc : Addr} {fd : FuncData} (D : SupD P K "__init__" "InvalidState.__init__" (defArgs s_InvalidStateinit) (defBody s_InvalidStateinit) (defScope s_InvalidStateinit) C f fd cda cc) (T : SupC P K mg C) (nf : PySem.W.findIn K (.ref C) "value" = some none) :
    FnOk P w K mg base CX0 1 f fd ["self", "value"] (spEx C "value") := by
  refine fn_sup D T sc_InvalidStateinit rfl rfl (by decide +kernel) (by decide +kernel) (fun vs H Q E h => ?_) (fun L => ⟨_, rfl⟩) (fun A outer s H vs Q E h => ?_)
  · obtain ⟨a, v, rfl, _⟩ := h
    rfl
  · obtain ⟨a, v, rfl, ha, q⟩ := h
    refine ⟨a, rfl, ha, _, pss_one (ps_ost (pv 0) (pv 1)), ?_⟩
    refine g_ost ?_
    walk_at "rd"
    exact ⟨a, C, rfl, T.ox, nf, .inl ⟨ha, q⟩⟩
theorem ok_InvalidStep {C f cda cc : Addr} {fd : FuncData} (D : SupD P K "__init__" "InvalidStep.__init__" (defArgs s_InvalidStepinit) (defBody s_InvalidStepinit) (defScope s_InvalidStepinit) C f fd cda cc) (T : SupC P K mg C) (nf : PySem.W.findIn K (.ref C) "value" = some none) :
    FnOk P w K mg base CX0 1 f fd ["self", "value"] (spEx C "value") := by
  refine fn_sup D T sc_InvalidStepinit rfl rfl (by decide +kernel) (by decide +kernel) (fun vs H Q E h => ?_) (fun L => ⟨_, rfl⟩) (fun A outer s H vs Q E h => ?_)
  · obtain ⟨a, v, rfl, _⟩ := h
    rfl
  · obtain ⟨a, v, rfl, ha, q⟩ := h
    refine ⟨a, rfl, ha, _, pss_one (ps_ost (pv 0) (pv 1)), ?_⟩
    refine g_ost ?_
    walk_at "rd"
    exact ⟨a, C, rfl, T.ox, nf, .inl ⟨ha, q⟩⟩
theorem ok_InvalidLine {C f cda cc : Addr} {fd : FuncData} (D : SupD P K "__init__" "InvalidLine.__init__" (defArgs s_InvalidLineinit) (defBody s_InvalidLineinit) (defScope s_InvalidLineinit) C f fd cda cc) (T : SupC P K mg C) (nf : PySem.W.findIn K (.ref C) "field" = some none) :
    FnOk P w K mg base CX0 1 f fd ["self", "field"] (spEx C "field") := by
  refine fn_sup D T sc_InvalidLineinit rfl rfl (by decide +kernel) (by decide +kernel) (fun vs H Q E h => ?_) (fun L => ⟨_, rfl⟩) (fun A outer s H vs Q E h => ?_)
  · obtain ⟨a, v, rfl, _⟩ := h
    rfl
  · obtain ⟨a, v, rfl, ha, q⟩ := h
    refine ⟨a, rfl, ha, _, pss_one (ps_ost (pv 0) (pv 1)), ?_⟩
    refine g_ost ?_
    walk_at "rd"
    exact ⟨a, C, rfl, T.ox, nf, .inl ⟨ha, q⟩⟩
theorem ok_InvalidOffer {C f cda cc : Addr} {fd : FuncData} (D : SupD P K "__init__" "InvalidOffer.__init__" (defArgs s_InvalidOfferinit) (defBody s_InvalidOfferinit) (defScope s_InvalidOfferinit) C f fd cda cc) (T : SupC P K mg C) (nf : PySem.W.findIn K (.ref C) "number" = some none) :
    FnOk P w K mg base CX0 1 f fd ["self", "number"] (spEx C "number") := by
  refine fn_sup D T sc_InvalidOfferinit rfl rfl (by decide +kernel) (by decide +kernel) (fun vs H Q E h => ?_) (fun L => ⟨_, rfl⟩) (fun A outer s H vs Q E h => ?_)
  · obtain ⟨a, v, rfl, _⟩ := h
    rfl
  · obtain ⟨a, v, rfl, ha, q⟩ := h
    refine ⟨a, rfl, ha, _, pss_one (ps_ost (pv 0) (pv 1)), ?_⟩
    refine g_ost ?_
    walk_at "rd"
    exact ⟨a, C, rfl, T.ox, nf, .inl ⟨ha, q⟩⟩
theorem ok_InvalidWish {C f cda cc : Addr} {fd : FuncData} (D : SupD P K "__init__" "InvalidWish.__init__" (defArgs s_InvalidWishinit) (defBody s_InvalidWishinit) (defScope s_InvalidWishinit) C f fd cda cc) (T : SupC P K mg C) (nf : PySem.W.findIn K (.ref C) "number" = some none) :
    FnOk P w K mg base CX0 1 f fd ["self", "number"] (spEx C "number") := by
  refine fn_sup D T sc_InvalidWishinit rfl rfl (by decide +kernel) (by decide +kernel) (fun vs H Q E h => ?_) (fun L => ⟨_, rfl⟩) (fun A outer s H vs Q E h => ?_)
  · obtain ⟨a, v, rfl, _⟩ := h
    rfl
  · obtain ⟨a, v, rfl, ha, q⟩ := h
    refine ⟨a, rfl, ha, _, pss_one (ps_ost (pv 0) (pv 1)), ?_⟩
    refine g_ost ?_
    walk_at "rd"
    exact ⟨a, C, rfl, T.ox, nf, .inl ⟨ha, q⟩⟩
theorem ok_InvalidQuestion {C f cda cc : Addr} {fd : FuncData} (D : SupD P K "__init__" "InvalidQuestion.__init__" (defArgs s_InvalidQuestioninit) (defBody s_InvalidQuestioninit) (defScope s_InvalidQuestioninit) C f fd cda cc) (T : SupC P K mg C) (nf : PySem.W.findIn K (.ref C) "word" = some none) :
    FnOk P w K mg base CX0 1 f fd ["self", "word"] (spEx C "word") := by
  refine fn_sup D T sc_InvalidQuestioninit rfl rfl (by decide +kernel) (by decide +kernel) (fun vs H Q E h => ?_) (fun L => ⟨_, rfl⟩) (fun A outer s H vs Q E h => ?_)
  · obtain ⟨a, v, rfl, _⟩ := h
    rfl
  · obtain ⟨a, v, rfl, ha, q⟩ := h
    refine ⟨a, rfl, ha, _, pss_one (ps_ost (pv 0) (pv 1)), ?_⟩
    refine g_ost ?_
    walk_at "rd"
    exact ⟨a, C, rfl, T.ox, nf, .inl ⟨ha, q⟩⟩
theorem ok_InvalidCommand {C f cda cc : Addr} {fd : FuncData} (D : SupD P K "__init__" "InvalidCommand.__init__" (defArgs s_InvalidCommandinit) (defBody s_InvalidCommandinit) (defScope s_InvalidCommandinit) C f fd cda cc) (T : SupC P K mg C) (nf : PySem.W.findIn K (.ref C) "word" = some none) :
    FnOk P w K mg base CX0 1 f fd ["self", "word"] (spEx C "word") := by
  refine fn_sup D T sc_InvalidCommandinit rfl rfl (by decide +kernel) (by decide +kernel) (fun vs H Q E h => ?_) (fun L => ⟨_, rfl⟩) (fun A outer s H vs Q E h => ?_)
  · obtain ⟨a, v, rfl, _⟩ := h
    rfl
  · obtain ⟨a, v, rfl, ha, q⟩ := h
    refine ⟨a, rfl, ha, _, pss_one (ps_ost (pv 0) (pv 1)), ?_⟩
    refine g_ost ?_
    walk_at "rd"
    exact ⟨a, C, rfl, T.ox, nf, .inl ⟨ha, q⟩⟩
theorem ok_UnknownName {C f cda cc : Addr} {fd : FuncData} (D : SupD P K "__init__" "UnknownName.__init__" (defArgs s_UnknownNameinit) (defBody s_UnknownNameinit) (defScope s_UnknownNameinit) C f fd cda cc) (T : SupCB "LookupError" "LookupError.__new__" "LookupError.__init__" [.type "LookupError", .type "Exception", .type "BaseException", .type "object"] P K mg C) (nf : PySem.W.findIn K (.ref C) "value" = some none) :
    FnOk P w K mg base CX0 1 f fd ["self", "value"] (spEx C "value") := by
  refine fn_supB base_LE D T sc_UnknownNameinit rfl rfl (by decide +kernel) (by decide +kernel) (fun vs H Q E h => ?_) (fun L => ⟨_, rfl⟩) (fun A outer s H vs Q E h => ?_)
  · obtain ⟨a, v, rfl, _⟩ := h
    rfl
  · obtain ⟨a, v, rfl, ha, q⟩ := h
    refine ⟨a, rfl, ha, _, pss_one (ps_ostB base_LE (pv 0) (pv 1)), ?_⟩
    refine g_ostB ?_
    walk_at "rd"
    exact ⟨a, C, rfl, T.ox, nf, ha, q⟩
theorem ok_TooLong {C f cda cc : Addr} {fd : FuncData} (D : SupD P K "__init__" "TooLong.__init__" (defArgs s_TooLonginit) (defBody s_TooLonginit) (defScope s_TooLonginit) C f fd cda cc) (T : SupCB "OverflowError" "OverflowError.__new__" "OverflowError.__init__" [.type "OverflowError", .type "ArithmeticError", .type "Exception", .type "BaseException", .type "object"] P K mg C) (nf : PySem.W.findIn K (.ref C) "service" = some none) :
    FnOk P w K mg base CX0 1 f fd ["self", "service"] (spEx C "service") := by
  refine fn_supB base_OE D T sc_TooLonginit rfl rfl (by decide +kernel) (by decide +kernel) (fun vs H Q E h => ?_) (fun L => ⟨_, rfl⟩) (fun A outer s H vs Q E h => ?_)
  · obtain ⟨a, v, rfl, _⟩ := h
    rfl
  · obtain ⟨a, v, rfl, ha, q⟩ := h
    refine ⟨a, rfl, ha, _, pss_one (ps_ostB base_OE (pv 0) (pv 1)), ?_⟩
    refine g_ostB ?_
    walk_at "rd"
    exact ⟨a, C, rfl, T.ox, nf, ha, q⟩
theorem ok_LimitExceeded {C f cda cc : Addr} {fd : FuncData} (D : SupD P K "__init__" "LimitExceeded.__init__" (defArgs s_LimitExceededinit) (defBody s_LimitExceededinit) (defScope s_LimitExceededinit) C f fd cda cc) (T : SupCB "OverflowError" "OverflowError.__new__" "OverflowError.__init__" [.type "OverflowError", .type "ArithmeticError", .type "Exception", .type "BaseException", .type "object"] P K mg C) (nf : PySem.W.findIn K (.ref C) "most" = some none) :
    FnOk P w K mg base CX0 1 f fd ["self", "most"] (spEx C "most") := by
  refine fn_supB base_OE D T sc_LimitExceededinit rfl rfl (by decide +kernel) (by decide +kernel) (fun vs H Q E h => ?_) (fun L => ⟨_, rfl⟩) (fun A outer s H vs Q E h => ?_)
  · obtain ⟨a, v, rfl, _⟩ := h
    rfl
  · obtain ⟨a, v, rfl, ha, q⟩ := h
    refine ⟨a, rfl, ha, _, pss_one (ps_ostB base_OE (pv 0) (pv 1)), ?_⟩
    refine g_ostB ?_
    walk_at "rd"
    exact ⟨a, C, rfl, T.ox, nf, ha, q⟩
end
end K1

namespace K1
open PySem PySem.Spec PyProof.Rows L2 Mc Mx
theorem same_new {H : Hp} {p : Addr} {o : HO} (h : H p = none) : Same H (upd H p o) := fun b u e => by rw [upd_ne (ne_of_none e h)]; exact e
theorem sz_le {n : Nat} (h : n ≤ 1000) : n ≤ sizeLine := Nat.le_trans h (by decide)
def kbG (us ws : List Value) : List Value := us ++ ws.reverse
def kbV (us ws : List V) : List V := us ++ ws.reverse
theorem vals_app : ∀ {vs ws : List V} {us xs : List Value}, Vals vs us → Vals ws xs → Vals (vs ++ ws) (us ++ xs)
  | _, _, _, _, .nil, h => h
  | _, _, _, _, .cons r t, h => .cons r (vals_app t h)
section
variable {X : Cx} {B nI iI : String} {tl : List Value} {C fI : Addr} {k : Nat} {fd : FuncData} {ps ks : List Str} {sp : Sp} {pins : List (Addr × Obj)} {σ : L2.St} {H : Hp} {s : Shared} {Q : VK}
theorem run_newE {us : List Value} {vs : List V} (FB : BaseK B nI iI tl) (T : OexB nI tl X.K C) (iC : PySem.W.findIn X.K (.ref C) "__init__" = some (some (.ref fI))) (tI : PySem.W.typeIn X.K (.ref fI) = some (.type "function"))
    (F1 : FnOk X.prog X.w X.K X.mg X.base CX0 k fI fd ps sp) (room : Room (k + 1) X.A) (hb : Binds X.K fd ps []) (I1 : Inv X pins σ H s) (r1 : Vals vs us) (hz : vs.length ≤ 1000)
    (want : ∀ a, H a = none → sp (.ref a :: vs) (upd H a (exo a C none)) (fun v H2 => v = .non ∧ Q (.ref a) H2) E0) : wpAny (model X.prog X.w) X.A (call (.ref C) us) (EP X pins σ Q) X.xe s := by
  obtain ⟨nm, q, N, bs, sn, sub, ab, col, dd, k0, k1, k2, k3, k5, hC⟩ := T.cls
  obtain ⟨hp, gg, dr, tk, os⟩ := s
  have free : H (hp.objs.size + 1) = none := I1.hok.fresh (Nat.le_succ _)
  have want := want (hp.objs.size + 1) free
  have stays : ∀ b o, hp.get? b = some o → ((hp.push (PySem.W.kdv_tup us)).push (PySem.HandSPX.excO C hp.objs.size)).get? b = some o := fun b o z => Heap.get?_push_of_some _ (Heap.get?_push_of_some _ z)
  have atE : ((hp.push (PySem.W.kdv_tup us)).push (PySem.HandSPX.excO C hp.objs.size)).get? (hp.objs.size + 1) = some (PySem.HandSPX.excO C hp.objs.size) := by heap_get
  have I2 : Inv X pins σ (upd H (hp.objs.size + 1) (exo (hp.objs.size + 1) C none)) ⟨(hp.push (PySem.W.kdv_tup us)).push (PySem.HandSPX.excO C hp.objs.size), gg, dr, tk, os⟩ := I1.laid (t' := tk) stays (Nat.le_succ _) (exo_ok atE)
  have args : Vals (V.ref (hp.objs.size + 1) :: vs) (Value.ref (hp.objs.size + 1) :: us) := .cons rfl r1
  have len1 : (Value.ref (hp.objs.size + 1) :: us).length = ps.length := args.length.symm.trans (F1.len _ _ _ _ want)
  have len2 : us.length ≤ sizeLine := by
    rw [← Paired.length r1, sizeLine_eq]
    omega
  have bb := hb _ (Value.ref (hp.objs.size + 1) :: us) I2.kIn (by rw [List.append_nil]; exact len1)
  rw [List.append_nil] at bb
  have runs := F1.run _ X.stack _ _ ⟨Value.ref (hp.objs.size + 1) :: us, []⟩ _ _ _ E0 (room.make C us []) (I2.env0.make C us []) bb args want
  refine wpAny_call (PySem.HandSPX.call_own FB.eb (fun _ => rfl) (I1.kIn _ _ hC) (PySem.W.looks_findIn I1.kIn iC) (fun self => PySem.W.bind_fn I1.kIn self tI) len2 (codeAny_mono runs fun res z hz => ?_))
  match res, hz with
  | .error er, hz => exact False.elim hz
  | .ok (.ret u), hz =>
    obtain ⟨v, H2, I3, rv, ev, q2⟩ := I2.after hz
    rw [ev] at rv
    exact ⟨rv, .ref (hp.objs.size + 1), H2, I3, rfl, q2⟩
theorem run_newEK {ws : List Value} {zs : List V} {g : List Value → List Value → List Value} {gV : List V → List V → List V} (FB : BaseK B nI iI tl) (T : OexB nI tl X.K C) (iC : PySem.W.findIn X.K (.ref C) "__init__" = some (some (.ref fI))) (tI : PySem.W.typeIn X.K (.ref fI) = some (.type "function"))
    (F1 : FnOk X.prog X.w X.K X.mg X.base CX0 k fI fd ps sp) (room : Room (k + 1) X.A) (hb : KBn X.K fd ps 1 ks g gV) (I1 : Inv X pins σ H s) (r1 : Vals zs ws) (l1 : zs.length = ks.length)
    (want : ∀ a, H a = none → sp (gV [.ref a] zs) (upd H a (exo a C none)) (fun v H2 => v = .non ∧ Q (.ref a) H2) E0) : wpAny (model X.prog X.w) X.A (call (.ref C) [] (ks.zip ws)) (EP X pins σ Q) X.xe s := by
  obtain ⟨nm, q, N, bs, sn, sub, ab, col, dd, k0, k1, k2, k3, k5, hC⟩ := T.cls
  obtain ⟨hp, gg, dr, tk, os⟩ := s
  have free : H (hp.objs.size + 1) = none := I1.hok.fresh (Nat.le_succ _)
  have want := want (hp.objs.size + 1) free
  have stays : ∀ b o, hp.get? b = some o → ((hp.push (PySem.W.kdv_tup [])).push (PySem.HandSPX.excO C hp.objs.size)).get? b = some o := fun b o z => Heap.get?_push_of_some _ (Heap.get?_push_of_some _ z)
  have atE : ((hp.push (PySem.W.kdv_tup [])).push (PySem.HandSPX.excO C hp.objs.size)).get? (hp.objs.size + 1) = some (PySem.HandSPX.excO C hp.objs.size) := by heap_get
  have I2 : Inv X pins σ (upd H (hp.objs.size + 1) (exo (hp.objs.size + 1) C none)) ⟨(hp.push (PySem.W.kdv_tup [])).push (PySem.HandSPX.excO C hp.objs.size), gg, dr, tk, os⟩ := I1.laid (t' := tk) stays (Nat.le_succ _) (exo_ok atE)
  have rs : Vals [V.ref (hp.objs.size + 1)] [Value.ref (hp.objs.size + 1)] := .cons rfl .nil
  have runs := F1.run _ X.stack _ _ ⟨[Value.ref (hp.objs.size + 1)], ks.zip ws⟩ _ _ _ E0 (room.make C [] (ks.zip ws)) (I2.env0.make C [] (ks.zip ws)) (hb.to _ [Value.ref (hp.objs.size + 1)] ws I2.kIn rfl (r1.length.symm.trans l1)) (hb.rel rs r1) want
  refine wpAny_call (PySem.HandSPX.mx_call_ownK FB.eb (fun _ => rfl) (I1.kIn _ _ hC) (PySem.W.looks_findIn I1.kIn iC) (fun self => PySem.W.bind_fn I1.kIn self tI) (Nat.zero_le _) (codeAny_mono runs fun res z hz => ?_))
  match res, hz with
  | .error er, hz => exact False.elim hz
  | .ok (.ret u), hz =>
    obtain ⟨v, H2, I3, rv, ev, q2⟩ := I2.after hz
    rw [ev] at rv
    exact ⟨rv, .ref (hp.objs.size + 1), H2, I3, rfl, q2⟩
end
/-- an own error class with its __init__ -/
structure ExB (P : Program) (w : World) (K : PySem.W.Frag) (mg : Str → Option Value) (base : Heap) (n : Str) (C : Addr) (ps ks : List Str) (sp : Sp) : Prop where
  ex : ∃ (B nI iI : String) (tl : List Value) (f : Addr) (fd : FuncData), BaseK B nI iI tl ∧ OexB nI tl K C ∧ PySem.W.findIn K (.ref C) "__init__" = some (some (.ref f)) ∧ PySem.W.typeIn K (.ref f) = some (.type "function") ∧ FnOk P w K mg base CX0 1 f fd ps sp ∧
    Binds K fd ps [] ∧ KBn K fd ps 1 ks kbG kbV
  gl : mg n = some (.ref C)
def Made1 (C : Addr) (fld : Str) (v : V) (H1 : Hp) (Q : VK) : Prop := ∀ a d H2, H1 a = none → Same H1 H2 → H2 a = some (exo a C (some d)) → H2 d = some (exd d [(fld, v)]) → Q (.ref a) H2
def tNew1 (C : Addr) (fld : Str) (ta : TA) : TE := fun σ H Q => ta σ H fun vs H1 => ∃ v, vs = [v] ∧ Made1 C fld v H1 Q
def Made2 (C : Addr) (s p : V) (H1 : Hp) (Q : VK) : Prop := ∀ a d H2, H1 a = none → Same H1 H2 → H2 a = some (exo a C (some d)) → H2 d = some (exd d [("place", p), ("service", s)]) → Q (.ref a) H2
def tNew2 (C : Addr) (ta : TA) : TE := fun σ H Q => ta σ H fun vs H1 => ∃ s p, vs = [s, p] ∧ Made2 C s p H1 Q
def tNew2K (C : Addr) (ta : TA) : TE := fun σ H Q => ta σ H fun vs H1 => ∃ s p, vs = [p, s] ∧ Made2 C s p H1 Q
theorem made1 {C : Addr} {fld : Str} {v : V} {H1 : Hp} {Q : VK} (h : Made1 C fld v H1 Q) : ∀ a, H1 a = none → spEx C fld (.ref a :: [v]) (upd H1 a (exo a C none)) (fun v H2 => v = .non ∧ Q (.ref a) H2) E0 := by
  intro a ha
  refine ⟨a, v, rfl, upd_same, fun dx hdx hne => ⟨rfl, h a dx _ ha (fun b o hb => ?_) upd_same (by rw [upd_ne hne]; exact upd_same)⟩⟩
  rw [upd_ne hne] at hdx
  have b1 : b ≠ a := fun z => by rw [z, ha] at hb; cases hb
  have b2 : b ≠ dx := fun z => by rw [z, hdx] at hb; cases hb
  rw [upd_ne b1, upd_ne b2, upd_ne b1]
  exact hb
theorem made2 {C : Addr} {s p : V} {H1 : Hp} {Q : VK} (h : Made2 C s p H1 Q) : ∀ a, H1 a = none → spEx2 C (.ref a :: [s, p]) (upd H1 a (exo a C none)) (fun v H2 => v = .non ∧ Q (.ref a) H2) E0 := by
  intro a ha
  refine ⟨a, s, p, rfl, upd_same, fun dx hdx hne => ⟨rfl, h a dx _ ha (fun b o hb => ?_) (by rw [upd_ne hne.symm]; exact upd_same) upd_same⟩⟩
  rw [upd_ne hne] at hdx
  have b1 : b ≠ a := fun z => by rw [z, ha] at hb; cases hb
  have b2 : b ≠ dx := fun z => by rw [z, hdx] at hb; cases hb
  rw [upd_ne b2, upd_ne b1, upd_ne b2, upd_ne b1]
  exact hb
section
variable {X : Cx} {n fld : Str} {C : Addr} {j : Nat} {e : Expr} {es : List Expr} {kws : List Keyword} {ta : TA} {p pos : Pos} {ps ks : List Str}
theorem pe_nw1 (c : ExB X.prog X.w X.K X.mg X.base n C ps ks (spEx C fld)) (room : Room j X.A) (hj : 2 ≤ j) (hg : Gl X n) (ha : PA X (e :: es) ta)
    (h1 : (n == ("__debug__" : Str)) = false := by decide) (h2 : starEach (e :: es) X.env = (false, eval e X.env) :: starEach es X.env := by rfl) (h3 : (backTo pos (starEach es X.env)).any (·.1) = false := by rfl) : PE X (.Call (.Name n p) (e :: es) [] pos) (tNew1 C fld ta) := by
  obtain ⟨B, nI, iI, tl, f, fd, FB, T, iC, tI, F1, hb, _⟩ := c.ex
  refine ⟨fun pins s σ H Q I h => ?_⟩
  refine wpAny_Call_Name_kw (ld_glob I hg c.gl (PySem.W.callWith_K (h₀ := X.base) I.ok.mod.kin T.kC (thn (ha.run pos pins s σ H _ I h) fun us s1 ⟨vs, H1, I1, r1, q1⟩ => ⟨I1.kIn, ?_⟩) h2 h3) h1)
  obtain ⟨v, rfl, q⟩ := q1
  exact run_newE FB T iC tI F1 (room.mono hj) hb I1 r1 (by show 1 ≤ 1000; decide) (made1 q)
theorem pe_nw1K (c : ExB X.prog X.w X.K X.mg X.base n C ps [fld] (spEx C fld)) (room : Room j X.A) (hj : 2 ≤ j) (hg : Gl X n) (hkw : PK X kws ta)
    (hall : (backToKw pos (keywordEach kws X.env)).all (·.1.isSome) = true := by rfl) (hks : (backToKw pos (keywordEach kws X.env)).filterMap (·.1) = [fld] := by rfl) (h1 : (n == ("__debug__" : Str)) = false := by decide)
    (hpl : ((backTo pos (starEach [] X.env)).any (·.1) || (backToKw pos (keywordEach kws X.env)).any (·.1.isNone)) = false := by rfl) : PE X (.Call (.Name n p) [] kws pos) (tNew1 C fld ta) := by
  obtain ⟨B, nI, iI, tl, f, fd, FB, T, iC, tI, F1, _, hb⟩ := c.ex
  refine ⟨fun pins s σ H Q I h => ?_⟩
  refine wpAny_Call_Name_kw (ld_glob I hg c.gl (PySem.W.callWith_KW0 (h₀ := X.base) I.ok.mod.kin T.kC hall (thn (hkw.run pos pins s σ H _ I h) fun ws s1 ⟨zs, H1, I1, r1, q1⟩ => ⟨I1.kIn, ?_⟩) hpl) h1)
  rw [hks]
  obtain ⟨v, rfl, q⟩ := q1
  exact run_newEK FB T iC tI F1 (room.mono hj) hb I1 r1 rfl (made1 q)
theorem pe_nw2 (c : ExB X.prog X.w X.K X.mg X.base n C ps ks (spEx2 C)) (room : Room j X.A) (hj : 2 ≤ j) (hg : Gl X n) (ha : PA X (e :: es) ta)
    (h1 : (n == ("__debug__" : Str)) = false := by decide) (h2 : starEach (e :: es) X.env = (false, eval e X.env) :: starEach es X.env := by rfl) (h3 : (backTo pos (starEach es X.env)).any (·.1) = false := by rfl) : PE X (.Call (.Name n p) (e :: es) [] pos) (tNew2 C ta) := by
  obtain ⟨B, nI, iI, tl, f, fd, FB, T, iC, tI, F1, hb, _⟩ := c.ex
  refine ⟨fun pins s σ H Q I h => ?_⟩
  refine wpAny_Call_Name_kw (ld_glob I hg c.gl (PySem.W.callWith_K (h₀ := X.base) I.ok.mod.kin T.kC (thn (ha.run pos pins s σ H _ I h) fun us s1 ⟨vs, H1, I1, r1, q1⟩ => ⟨I1.kIn, ?_⟩) h2 h3) h1)
  obtain ⟨v, v2, rfl, q⟩ := q1
  exact run_newE FB T iC tI F1 (room.mono hj) hb I1 r1 (by show 2 ≤ 1000; decide) (made2 q)
theorem pe_nw2K (c : ExB X.prog X.w X.K X.mg X.base n C ps ["place", "service"] (spEx2 C)) (room : Room j X.A) (hj : 2 ≤ j) (hg : Gl X n) (hkw : PK X kws ta)
    (hall : (backToKw pos (keywordEach kws X.env)).all (·.1.isSome) = true := by rfl) (hks : (backToKw pos (keywordEach kws X.env)).filterMap (·.1) = (["place", "service"] : List Str) := by rfl) (h1 : (n == ("__debug__" : Str)) = false := by decide)
    (hpl : ((backTo pos (starEach [] X.env)).any (·.1) || (backToKw pos (keywordEach kws X.env)).any (·.1.isNone)) = false := by rfl) : PE X (.Call (.Name n p) [] kws pos) (tNew2K C ta) := by
  obtain ⟨B, nI, iI, tl, f, fd, FB, T, iC, tI, F1, _, hb⟩ := c.ex
  refine ⟨fun pins s σ H Q I h => ?_⟩
  refine wpAny_Call_Name_kw (ld_glob I hg c.gl (PySem.W.callWith_KW0 (h₀ := X.base) I.ok.mod.kin T.kC hall (thn (hkw.run pos pins s σ H _ I h) fun ws s1 ⟨zs, H1, I1, r1, q1⟩ => ⟨I1.kIn, ?_⟩) hpl) h1)
  rw [hks]
  obtain ⟨v, v2, rfl, q⟩ := q1
  exact run_newEK FB T iC tI F1 (room.mono hj) hb I1 r1 rfl (made2 q)
/-- a class without one -/
structure Ex0 (K : PySem.W.Frag) (mg : Str → Option Value) (n : Str) (C : Addr) : Prop where
  ex : ∃ (B nI iI : String) (tl : List Value), ExcBaseFacts B nI iI tl ∧ PySem.W.excIn K C tl nI = true
  kC : PySem.W.keepIn K (.ref C) = true
  gl : mg n = some (.ref C)
theorem pe_nw0 (c : Ex0 X.K X.mg n C) (hg : Gl X n) (h1 : (n == ("__debug__" : Str)) = false := by decide) : PE X (.Call (.Name n p) [] [] pos) (tNewE0 C) := by
  obtain ⟨B, nI, iI, tl, FB, q⟩ := c.ex
  exact pe_newE0 FB q c.kC hg c.gl h1
end
end K1

namespace K1
open PySem PySem.Spec PyProof.Rows L2 Mc Mx
section
variable {P : Program} {w : World} {K : PySem.W.Frag} {mg : Str → Option Value} {base : Heap}
local macro_rules | `(tactic| walk_at "rd1") => `(tactic| first
  | with_reducible refine g_seq ?_
  | with_reducible refine g_asg ?_
  | with_reducible refine g_name ?_
  | with_reducible refine g_c ?_
  | with_reducible refine g_op ?_
  | with_reducible refine g_ifS ?_
  | with_reducible refine g_if ?_
  | with_reducible refine g_test ?_
  | with_reducible refine g_B ?_
  | with_reducible refine g_bl ?_
  | with_reducible refine g_blV ?_
  | with_reducible refine g_not ?_
  | with_reducible refine g_and ?_
  | with_reducible refine g_or ?_
  | with_reducible refine g_notV ?_
  | with_reducible refine g_andV ?_
  | with_reducible refine g_orV ?_
  | with_reducible refine g_ret ?_
  | with_reducible refine g_drop ?_
  | with_reducible refine g_next ?_
  | with_reducible refine g_retN ?_
  | with_reducible refine g_call ?_
  | with_reducible refine g_cb ?_
  | with_reducible refine g_cons ?_
  | with_reducible refine g_nil ?_
  | with_reducible refine g_tup ?_
  | with_reducible refine g_lst ?_
  | with_reducible refine g_prop ?_
  | with_reducible refine g_fld ?_
  | with_reducible refine g_meth ?_
  | with_reducible refine g_chain ?_
  | with_reducible refine g_yes ?_
  | with_reducible refine g_make ?_
  | with_reducible refine g_makeK ?_
  | with_reducible refine g_gsub ?_
  | with_reducible refine g_sfld ?_
  | with_reducible refine g_un ?_
  | with_reducible refine g_bm ?_
  | with_reducible refine g_iteT ?_
  | with_reducible refine g_iteF ?_
  | with_reducible refine g_I0 ?_
  | with_reducible refine g_add ?_
  | with_reducible refine g_sub ?_
  | ((with_reducible refine' g_var ?hv ?_); (case hv => rfl))
  | ((with_reducible refine g_eq ?hv ?_); (case hv => rfl))
  | ((with_reducible refine g_ne ?hv ?_); (case hv => rfl)))
local macro_rules | `(tactic| walk_at "rd") => `(tactic| repeat (walk_at "rd1"))

local macro_rules | `(tactic| walk_at "ty") => `(tactic| first | exact .non | exact .bl _ | exact .int _ | exact .str _ | exact .lst (by assumption) | exact .tup (by assumption) | exact .dK (by assumption) | exact .kTup (by assumption) (by assumption))
local macro_rules | `(tactic| walk_at "isiF") => `(tactic| refine g_isi (by walk_at "ty") (b := false) (by decide +kernel) ?_)
local macro_rules | `(tactic| walk_at "isiT") => `(tactic| refine g_isi (by walk_at "ty") (b := true) (by decide +kernel) ?_)

/-- all but the pool is as it was -/
def Sx (p : Addr) (H H' : Hp) : Prop := ∀ b o, b ≠ p → H b = some o → H' b = some o
theorem Sx.refl {p : Addr} (H : Hp) : Sx p H H := fun _ _ _ h => h
theorem Sx.trans {p : Addr} {H H1 H2 : Hp} (a : Sx p H H1) (b : Sx p H1 H2) : Sx p H H2 := fun c o hc h => b c o hc (a c o hc h)
theorem Same.sx {p : Addr} {H H' : Hp} (h : Same H H') : Sx p H H' := fun c o _ e => h c o e
def PoolAt (H : Hp) (p : Addr) : Prop := ∃ c z : Int, H p = some (.lst [.int c, .int z]) ∧ 0 ≤ c ∧ 0 ≤ z ∧ z < 2147483647
theorem PoolAt.ext {p : Addr} {H H' : Hp} (h : PoolAt H p) (e : Same H H') : PoolAt H' p := by
  obtain ⟨c, z, h1, h2⟩ := h
  exact ⟨c, z, e _ _ h1, h2⟩
theorem PoolAt.not {p a : Addr} {H : Hp} {o : HO} (h : PoolAt H p) (e : H a = some o) (n : ∀ xs, o ≠ .lst xs) : a ≠ p := by
  obtain ⟨c, z, h1, _⟩ := h
  intro q
  rw [q, h1] at e
  exact n _ (Option.some.inj e).symm
theorem Sx.free {p a : Addr} {H H' : Hp} (pl' : PoolAt H' p) (e : Sx p H H') (h : H' a = none) : H a = none := by
  cases q : H a with
  | none => rfl
  | some o =>
    by_cases ha : a = p
    · obtain ⟨c, z, h1, _⟩ := pl'
      rw [ha, h1] at h
      cases h
    · rw [e a o ha q] at h
      cases h

def spPool (K : PySem.W.Frag) : Sp := fun vs H Q _ => ∃ (a : Addr) (k : Int) (ns : List Int), vs = [.ref a, .int k] ∧ SqL K H a (ns.map V.int) ∧ 0 ≤ k ∧ k ≤ 100 ∧ ∀ p H', H p = none → Same H H' → PoolAt H' p → Q (.ref p) H'
theorem ok_pool (T : Txt mg) (D : Def K mg "_law_pool" s_law_pool ["_law_script", "_law_k"]) : Cal P w K mg base 1 "_law_pool" (spPool K) := by
  refine cal_of D sc_law_pool (fun vs H Q E h => ?_) (fun f cdv A outer s H vs Q E hr h => ?_)
  · obtain ⟨a, k, ns, rfl, _⟩ := h
    rfl
  · obtain ⟨a, k, ns, rfl, sq, k0, k1, q⟩ := h
    have hk1 : 7919 * k ≤ 791900 := by omega
    have hk2 : (7919 * k) * k ≤ 791900 * 100 := Int.mul_le_mul hk1 k1 k0 (by decide)
    have hk3 : 0 ≤ (7919 * k) * k := Int.mul_nonneg (by omega) k0
    refine ⟨_, (pss_cons (ps_set (i := 2) sc_law_pool.nd rfl (Or.inl rfl) pe_int)
      (pss_cons (ps_if (pt_cmpR op_lt (pv 1) (pe_callB call_len_seq (by rfl) T.n_len (by decide +kernel) (pa_cons (pv 0) pa_nil)) (nomark _)) (pss_one (ps_set (i := 2) sc_law_pool.nd rfl (Or.inl rfl) (pe_ix ix_list (pv 0) (pv 1) (fun _ _ => rfl)))) pss_nil)
      (pss_cons (ps_set (i := 3) sc_law_pool.nd rfl (Or.inl rfl) (pe_op op_mod (pe_op op_pow (pe_op op_add (pe_op op_add (pe_op op_mod (pe_callTy call_int1 (by rfl) T.n_int (by decide +kernel) (pa_cons (pv 2) pa_nil)) pe_int) (pe_op op_mul (pe_op op_mul pe_int (pv 1)) (pv 1))) pe_int) pe_int) pe_int))
      (pss_cons (ps_if (pt_cmpR op_lt (pv 2) (pe_op op_pow pe_int pe_int) (nomark _)) (pss_one (ps_set (i := 2) sc_law_pool.nd rfl (Or.inl rfl) pe_int)) pss_nil)
      (pss_one (ps_ret (pe_lst (pa_cons (pv 2) (pa_cons (pv 3) pa_nil))))))))), ?_⟩
    walk_at "rd"
    refine ⟨a, _, rfl, .inl sq, ?_⟩
    walk_at "rd"
    refine g_ite (fun e => ?_) (fun e => ?_)
    · have hk : k < ((ns.map V.int).length : Int) := of_decide_eq_true e
      have hk' : k.toNat < ns.length := by rw [List.length_map] at hk; omega
      walk_at "rd"
      refine g_ixL sq (v := .int ns[k.toNat]) (at_of (j := k.toNat) (by omega) (by rw [List.getElem?_map, List.getElem?_eq_getElem hk']; rfl)) ?_
      generalize ns[k.toNat] = c
      walk_at "rd"
      refine .inl ⟨_, rfl, ?_⟩
      walk_at "rd"
      refine g_I (show (0 : Int) < 2147483629 by decide) ?_
      walk_at "rd"
      refine g_I (.inl ⟨by decide, by decide⟩) ?_
      walk_at "rd"
      refine g_I (.inl ⟨by omega, by omega⟩) ?_
      walk_at "rd"
      refine g_I ⟨by decide, by decide, by omega⟩ ?_
      walk_at "rd"
      refine g_I (show (0 : Int) < 2147483647 by decide) ?_
      walk_at "rd"
      refine g_I ⟨by decide, by decide, by decide⟩ ?_
      walk_at "rd"
      refine g_ite (fun e2 => ?_) (fun e2 => ?_)
      · walk_at "rd"
        refine ⟨(by show 2 ≤ sizeLine; decide), fun p hp => ?_⟩
        refine q p _ hp (same_new hp) ⟨0, _, upd_same, by decide, Int.emod_nonneg _ (by decide), Int.emod_lt_of_pos _ (by decide)⟩
      · walk_at "rd"
        refine ⟨(by show 2 ≤ sizeLine; decide), fun p hp => ?_⟩
        have e3 := of_decide_eq_false e2
        refine q p _ hp (same_new hp) ⟨_, _, upd_same, ?_, Int.emod_nonneg _ (by decide), Int.emod_lt_of_pos _ (by decide)⟩
        exact Int.le_trans (by decide) (Int.not_lt.mp e3)
    · walk_at "rd"
      walk_at "rd"
      refine .inl ⟨_, rfl, ?_⟩
      walk_at "rd"
      refine g_I (show (0 : Int) < 2147483629 by decide) ?_
      walk_at "rd"
      refine g_I (.inl ⟨by decide, by decide⟩) ?_
      walk_at "rd"
      refine g_I (.inl ⟨by omega, by omega⟩) ?_
      walk_at "rd"
      refine g_I ⟨by decide, by decide, by omega⟩ ?_
      walk_at "rd"
      refine g_I (show (0 : Int) < 2147483647 by decide) ?_
      walk_at "rd"
      refine g_I ⟨by decide, by decide, by decide⟩ ?_
      walk_at "rd"
      refine g_ite (fun e2 => ?_) (fun e2 => ?_)
      · walk_at "rd"
        refine ⟨(by show 2 ≤ sizeLine; decide), fun p hp => ?_⟩
        refine q p _ hp (same_new hp) ⟨0, _, upd_same, by decide, Int.emod_nonneg _ (by decide), Int.emod_lt_of_pos _ (by decide)⟩
      · walk_at "rd"
        refine ⟨(by show 2 ≤ sizeLine; decide), fun p hp => ?_⟩
        have e3 := of_decide_eq_false e2
        refine q p _ hp (same_new hp) ⟨_, _, upd_same, ?_, Int.emod_nonneg _ (by decide), Int.emod_lt_of_pos _ (by decide)⟩
        exact Int.le_trans (by decide) (Int.not_lt.mp e3)

theorem div_w {m : Int} (h0 : 1 ≤ m) (h1 : m ≤ 10 ^ 31) : m.natAbs.log2 < 9000 := by
  have h : m.natAbs < 2 ^ 110 := by omega
  have h2 : m.natAbs.log2 < 110 := (Nat.log2_lt (by omega)).mpr h
  omega
def spDraw : Sp := fun vs H Q _ => ∃ (p : Addr) (m : Int), vs = [.ref p, .int m] ∧ PoolAt H p ∧ 1 ≤ m ∧ m ≤ 10 ^ 31 ∧ ∀ (r : Int) H', 0 ≤ r → r < m → PoolAt H' p → Sx p H H' → Q (.int r) H'
theorem sx_upd {p : Addr} {H : Hp} {o : HO} : Sx p H (upd H p o) := fun b u hb e => by rw [upd_ne hb]; exact e
theorem ok_draw (T : Txt mg) (D : Def K mg "_law_draw" s_law_draw ["_law_pool_here", "_law_many"]) : Cal P w K mg base 1 "_law_draw" spDraw := by
  refine cal_of D sc_law_draw (fun vs H Q E h => ?_) (fun f cdv A outer s H vs Q E hr h => ?_)
  · obtain ⟨p, m, rfl, _⟩ := h
    rfl
  · obtain ⟨p, m, rfl, ⟨c, z, hp, hc, hz, hz2⟩, m0, m1, q⟩ := h
    refine ⟨_, (pss_cons (ps_if (pt_cmpR op_gt (pe_ix ix_list (pv 0) pe_int (fun _ _ => rfl)) pe_int (nomark _)) (pss_cons (ps_set (i := 2) sc_law_draw.nd rfl (Or.inl rfl) (pe_op op_mod (pe_callTy call_int1 (by rfl) T.n_int (by decide +kernel) (pa_cons (pe_ix ix_list (pv 0) pe_int (fun _ _ => rfl)) pa_nil)) (pv 1)))
      (pss_cons (ps_asg (pe_op op_fdivW (pe_ix ix_list (pv 0) pe_int (fun _ _ => rfl)) (pv 1)) (pg_sub (pv 0) pe_int set_list))
      (pss_one (ps_ret (pv 2))))) pss_nil)
      (pss_cons (ps_asg (pe_op op_mod (pe_callTy call_int1 (by rfl) T.n_int (by decide +kernel) (pa_cons (pe_op op_add (pe_op op_mul (pe_ix ix_list (pv 0) pe_int (fun _ _ => rfl)) pe_int) pe_int) pa_nil)) pe_int) (pg_sub (pv 0) pe_int set_list))
      (pss_one (ps_ret (pe_op op_mod (pe_op op_fdiv (pe_op op_mod (pe_callTy call_int1 (by rfl) T.n_int (by decide +kernel) (pa_cons (pe_op op_mul (pe_ix ix_list (pv 0) pe_int (fun _ _ => rfl)) (pe_ix ix_list (pv 0) pe_int (fun _ _ => rfl))) pa_nil)) pe_int) pe_int) (pv 1)))))), ?_⟩
    walk_at "rd"
    refine g_ixL (SqL.of hp) (v := .int c) (atI_nat (j := 0) rfl) ?_
    walk_at "rd"
    refine g_ite (fun e => ?_) (fun e => ?_)
    · have cp : 0 < c := of_decide_eq_true e
      walk_at "rd"
      refine g_ixL (SqL.of hp) (v := .int c) (atI_nat (j := 0) rfl) ?_
      walk_at "rd"
      refine .inl ⟨_, rfl, ?_⟩
      walk_at "rd"
      refine g_I (show (0 : Int) < m by omega) ?_
      walk_at "rd"
      refine g_ixL (SqL.of hp) (v := .int c) (atI_nat (j := 0) rfl) ?_
      walk_at "rd"
      refine g_I (⟨by omega, div_w m0 m1⟩ : CDivW _ _) ?_
      walk_at "rd"
      refine ⟨p, _, 0, 0, rfl, rfl, hp, rfl, ?_⟩
      walk_at "rd"
      refine q (c % m) _ (Int.emod_nonneg _ (by omega)) (Int.emod_lt_of_pos _ (by omega)) ⟨c / m, z, upd_same, Int.ediv_nonneg hc (by omega), hz, hz2⟩ sx_upd
    · walk_at "rd"
      refine g_ixL (SqL.of hp) (v := .int z) (atI_nat (j := 1) rfl) ?_
      walk_at "rd"
      refine g_I (.inl ⟨by omega, by omega⟩) ?_
      walk_at "rd"
      refine .inl ⟨_, rfl, ?_⟩
      walk_at "rd"
      refine g_I (show (0 : Int) < 2147483647 by decide) ?_
      walk_at "rd"
      refine ⟨p, _, 1, 1, rfl, rfl, hp, rfl, ?_⟩
      have y0 : 0 ≤ (z * 48271 + 11) % 2147483647 := Int.emod_nonneg _ (by decide)
      have y1 : (z * 48271 + 11) % 2147483647 < 2147483647 := Int.emod_lt_of_pos _ (by decide)
      generalize (z * 48271 + 11) % 2147483647 = y at y0 y1 ⊢
      walk_at "rd"
      refine g_ixL (SqL.of upd_same) (v := .int y) (atI_nat (j := 1) rfl) ?_
      walk_at "rd"
      refine g_ixL (SqL.of upd_same) (v := .int y) (atI_nat (j := 1) rfl) ?_
      walk_at "rd"
      refine g_I (.inl ⟨by omega, by omega⟩) ?_
      walk_at "rd"
      refine .inl ⟨_, rfl, ?_⟩
      walk_at "rd"
      refine g_I (show (0 : Int) < 2147483629 by decide) ?_
      walk_at "rd"
      refine g_I (⟨by decide, by decide⟩ : CDiv _ _) ?_
      walk_at "rd"
      refine g_I (show (0 : Int) < m by omega) ?_
      walk_at "rd"
      exact q _ _ (Int.emod_nonneg _ (by omega)) (Int.emod_lt_of_pos _ (by omega)) ⟨c, y, upd_same, hc, y0, y1⟩ sx_upd

def spChoose : Sp := fun vs H Q _ => ∃ (p l : Addr) (xs : List V), vs = [.ref p, .ref l] ∧ PoolAt H p ∧ l ≠ p ∧ H l = some (.lst xs) ∧ 0 < xs.length ∧ xs.length ≤ 1000 ∧ ∀ x H', x ∈ xs → PoolAt H' p → Sx p H H' → Q x H'
theorem ok_choose (T : Txt mg) (D : Def K mg "_law_choose" s_law_choose ["_law_pool_here", "_law_items"]) (c_law_draw : Cal P w K mg base 1 "_law_draw" spDraw) : Cal P w K mg base 2 "_law_choose" spChoose := by
  refine cal_of D sc_law_choose (fun vs H Q E h => ?_) (fun f cdv A outer s H vs Q E hr h => ?_)
  · obtain ⟨p, l, xs, rfl, _⟩ := h
    rfl
  · obtain ⟨p, l, xs, rfl, pl, hn, hl, h0, h1, q⟩ := h
    refine ⟨_, (pss_one (ps_ret (pe_ix ix_list (pv 1) (pe_f c_law_draw hr (by decide) (by rfl) (pa_cons (pv 0) (pa_cons (pe_callB call_len_seq (by rfl) T.n_len (by decide +kernel) (pa_cons (pv 1) pa_nil)) pa_nil))) (fun _ _ => rfl)))), ?_⟩
    walk_at "rd"
    refine ⟨l, xs, rfl, .inl (SqL.of hl), ?_⟩
    walk_at "rd"
    refine ⟨p, _, rfl, pl, by omega, by omega, fun r H1 r0 r1 pl1 sx => ?_⟩
    have hr' : r.toNat < xs.length := by omega
    walk_at "rd"
    refine g_ixL (SqL.of (sx _ _ hn hl)) (v := xs[r.toNat]) (at_of (j := r.toNat) (by omega) (List.getElem?_eq_getElem hr')) ?_
    exact q _ _ (List.getElem_mem hr') pl1 sx
end
end K1

namespace K1
open PySem PySem.Spec PyProof.Rows L2 Mc Mx
/-- what the top tells of the error classes -/
structure AllE (P : Program) (w : World) (K : PySem.W.Frag) (mg : Str → Option Value) (base : Heap) (C : Nat → Addr) : Prop where
  e0 : ExB P w K mg base "InvalidName" (C 0) ["self", "value"] ["value"] (spEx (C 0) "value")
  e1 : ExB P w K mg base "InvalidPolicy" (C 1) ["self", "field"] ["field"] (spEx (C 1) "field")
  e2 : ExB P w K mg base "InvalidPolicies" (C 2) ["self", "number"] ["number"] (spEx (C 2) "number")
  e3 : ExB P w K mg base "InvalidServices" (C 3) ["self", "number"] ["number"] (spEx (C 3) "number")
  e4 : ExB P w K mg base "InvalidPart" (C 4) ["self", "service", "place"] ["place", "service"] (spEx2 (C 4))
  e5 : ExB P w K mg base "InvalidText" (C 5) ["self", "line"] ["line"] (spEx (C 5) "line")
  e6 : ExB P w K mg base "InvalidChoices" (C 6) ["self", "value"] ["value"] (spEx (C 6) "value")
  e7 : ExB P w K mg base "InvalidChoice" (C 7) ["self", "path"] ["path"] (spEx (C 7) "path")
  e8 : ExB P w K mg base "InvalidNumber" (C 8) ["self", "value"] ["value"] (spEx (C 8) "value")
  e9 : ExB P w K mg base "InvalidRows" (C 9) ["self", "value"] ["value"] (spEx (C 9) "value")
  e10 : ExB P w K mg base "InvalidTable" (C 10) ["self", "value"] ["value"] (spEx (C 10) "value")
  e11 : ExB P w K mg base "InvalidMeasure" (C 11) ["self", "value"] ["value"] (spEx (C 11) "value")
  e12 : ExB P w K mg base "InvalidLane" (C 12) ["self", "field"] ["field"] (spEx (C 12) "field")
  e13 : ExB P w K mg base "InvalidState" (C 13) ["self", "value"] ["value"] (spEx (C 13) "value")
  e14 : ExB P w K mg base "InvalidStep" (C 14) ["self", "value"] ["value"] (spEx (C 14) "value")
  e15 : ExB P w K mg base "InvalidLine" (C 15) ["self", "field"] ["field"] (spEx (C 15) "field")
  e16 : ExB P w K mg base "InvalidOffer" (C 16) ["self", "number"] ["number"] (spEx (C 16) "number")
  e17 : ExB P w K mg base "InvalidWish" (C 17) ["self", "number"] ["number"] (spEx (C 17) "number")
  e18 : ExB P w K mg base "InvalidQuestion" (C 18) ["self", "word"] ["word"] (spEx (C 18) "word")
  e19 : ExB P w K mg base "InvalidCommand" (C 19) ["self", "word"] ["word"] (spEx (C 19) "word")
  e20 : ExB P w K mg base "UnknownName" (C 20) ["self", "value"] ["value"] (spEx (C 20) "value")
  e21 : ExB P w K mg base "TooLong" (C 21) ["self", "service"] ["service"] (spEx (C 21) "service")
  e22 : ExB P w K mg base "LimitExceeded" (C 22) ["self", "most"] ["most"] (spEx (C 22) "most")
  e23 : Ex0 K mg "NothingToUndo" (C 23)
  e24 : Ex0 K mg "NothingToRedo" (C 24)
  e25 : Ex0 K mg "NoTrial" (C 25)
  e26 : Ex0 K mg "NoSystem" (C 26)
/-- and of their kinds -/
def due (i : Nat) : Nat := if i < 20 then 0 else if i < 21 then 1 else if i < 23 then 2 else 3
structure AllK (K : PySem.W.Frag) (C : Nat → Addr) : Prop where
  ki : ∀ i, i < 27 → KiE K (C i)
  kt : ∀ i j, i < 27 → j < 27 → PySem.W.kitOne K (.ref (C i)) (.ref (C j)) = some (decide (j = i))
  k0 : ∀ i, i < 27 → PySem.W.kitOne K (.ref (C i)) (.type "ValueError") = some (decide (0 = due i))
  k1 : ∀ i, i < 27 → PySem.W.kitOne K (.ref (C i)) (.type "LookupError") = some (decide (1 = due i))
  k2 : ∀ i, i < 27 → PySem.W.kitOne K (.ref (C i)) (.type "OverflowError") = some (decide (2 = due i))
  k3 : ∀ i, i < 27 → PySem.W.kitOne K (.ref (C i)) (.type "RuntimeError") = some (decide (3 = due i))
  nfp : PySem.W.findIn K (.ref (C 4)) "place" = some none
  nf0 : PySem.W.findIn K (.ref (C 0)) "value" = some none
  nf1 : PySem.W.findIn K (.ref (C 1)) "field" = some none
  nf2 : PySem.W.findIn K (.ref (C 2)) "number" = some none
  nf3 : PySem.W.findIn K (.ref (C 3)) "number" = some none
  nf4 : PySem.W.findIn K (.ref (C 4)) "service" = some none
  nf5 : PySem.W.findIn K (.ref (C 5)) "line" = some none
  nf6 : PySem.W.findIn K (.ref (C 6)) "value" = some none
  nf7 : PySem.W.findIn K (.ref (C 7)) "path" = some none
  nf8 : PySem.W.findIn K (.ref (C 8)) "value" = some none
  nf9 : PySem.W.findIn K (.ref (C 9)) "value" = some none
  nf10 : PySem.W.findIn K (.ref (C 10)) "value" = some none
  nf11 : PySem.W.findIn K (.ref (C 11)) "value" = some none
  nf12 : PySem.W.findIn K (.ref (C 12)) "field" = some none
  nf13 : PySem.W.findIn K (.ref (C 13)) "value" = some none
  nf14 : PySem.W.findIn K (.ref (C 14)) "value" = some none
  nf15 : PySem.W.findIn K (.ref (C 15)) "field" = some none
  nf16 : PySem.W.findIn K (.ref (C 16)) "number" = some none
  nf17 : PySem.W.findIn K (.ref (C 17)) "number" = some none
  nf18 : PySem.W.findIn K (.ref (C 18)) "word" = some none
  nf19 : PySem.W.findIn K (.ref (C 19)) "word" = some none
  nf20 : PySem.W.findIn K (.ref (C 20)) "value" = some none
  nf21 : PySem.W.findIn K (.ref (C 21)) "service" = some none
  nf22 : PySem.W.findIn K (.ref (C 22)) "most" = some none
abbrev Spc := Addr × Option (List (Str × V))
def Er (H : Hp) (v : V) (s : Spc) : Prop := match s.2 with
  | some fs => ∃ a d, v = .ref a ∧ H a = some (exo a s.1 (some d)) ∧ H d = some (exd d fs)
  | none => ∃ a, v = .ref a ∧ H a = some (exo a s.1 none)
theorem Er.ext {H H' : Hp} {v : V} {s : Spc} (e : Same H H') (h : Er H v s) : Er H' v s := by
  obtain ⟨c, o⟩ := s
  cases o with
  | some fs => exact h.elim fun a h => h.elim fun d h => ⟨a, d, h.1, e _ _ h.2.1, e _ _ h.2.2⟩
  | none => exact h.elim fun a h => ⟨a, h.1, e _ _ h.2⟩
abbrev Ers (H : Hp) : List V → List Spc → Prop := Paired (Er H)
theorem Ers.ext {H H' : Hp} {xs : List V} {ss : List Spc} (e : Same H H') (h : Ers H xs ss) : Ers H' xs ss := L2.Paired.mapP h fun _ _ q => q.ext e
theorem paired_app {α β : Type} {G : α → β → Prop} : ∀ {xs ys : List α} {us vs : List β}, Paired G xs us → Paired G ys vs → Paired G (xs ++ ys) (us ++ vs)
  | _, _, _, _, .nil, h => h
  | _, _, _, _, .cons h t, k => .cons h (paired_app t k)
theorem er_snoc {H H' : Hp} {xs : List V} {ss : List Spc} {v : V} {s : Spc} (h : Ers H xs ss) (e : Same H H') (k : Er H' v s) : Ers H' (xs ++ [v]) (ss ++ [s]) := paired_app (h.ext e) (.cons k .nil)
theorem er_get {H : Hp} : ∀ {xs : List V} {ss : List Spc}, Ers H xs ss → ∀ {i : Nat} {s : Spc}, ss[i]? = some s → ∃ v, xs[i]? = some v ∧ Er H v s
  | _, _, .nil, i, s, h => by cases h
  | _, _, .cons r t, 0, s, h => by cases h; exact ⟨_, rfl, r⟩
  | _, _, .cons r t, i + 1, s, h => er_get t (i := i) h
def specs (C : Nat → Addr) (h : V) : List Spc := [(C 0, some [("value", h)]), (C 1, some [("field", h)]), (C 2, some [("number", h)]), (C 3, some [("number", h)]), (C 4, some [("place", .str "other"), ("service", h)]), (C 5, some [("line", h)]), (C 6, some [("value", h)]), (C 7, some [("path", h)]), (C 8, some [("value", h)]), (C 9, some [("value", h)]), (C 10, some [("value", h)]), (C 11, some [("value", h)]), (C 12, some [("field", h)]), (C 13, some [("value", h)]), (C 14, some [("value", h)]), (C 15, some [("field", h)]), (C 16, some [("number", h)]), (C 17, some [("number", h)]), (C 18, some [("word", h)]), (C 19, some [("word", h)]), (C 20, some [("value", h)]), (C 21, some [("service", h)]), (C 22, some [("most", h)]), (C 23, none), (C 24, none), (C 25, none), (C 26, none)]
section
variable {P : Program} {w : World} {K : PySem.W.Frag} {mg : Str → Option Value} {base : Heap} {C : Nat → Addr}
local macro_rules | `(tactic| walk_at "rd1") => `(tactic| first
  | with_reducible refine g_seq ?_
  | with_reducible refine g_asg ?_
  | with_reducible refine g_name ?_
  | with_reducible refine g_c ?_
  | with_reducible refine g_op ?_
  | with_reducible refine g_ifS ?_
  | with_reducible refine g_if ?_
  | with_reducible refine g_test ?_
  | with_reducible refine g_B ?_
  | with_reducible refine g_bl ?_
  | with_reducible refine g_blV ?_
  | with_reducible refine g_not ?_
  | with_reducible refine g_and ?_
  | with_reducible refine g_or ?_
  | with_reducible refine g_notV ?_
  | with_reducible refine g_andV ?_
  | with_reducible refine g_orV ?_
  | with_reducible refine g_ret ?_
  | with_reducible refine g_drop ?_
  | with_reducible refine g_next ?_
  | with_reducible refine g_retN ?_
  | with_reducible refine g_call ?_
  | with_reducible refine g_cb ?_
  | with_reducible refine g_cons ?_
  | with_reducible refine g_nil ?_
  | with_reducible refine g_tup ?_
  | with_reducible refine g_lst ?_
  | with_reducible refine g_prop ?_
  | with_reducible refine g_fld ?_
  | with_reducible refine g_meth ?_
  | with_reducible refine g_chain ?_
  | with_reducible refine g_yes ?_
  | with_reducible refine g_make ?_
  | with_reducible refine g_makeK ?_
  | with_reducible refine g_gsub ?_
  | with_reducible refine g_sfld ?_
  | with_reducible refine g_un ?_
  | with_reducible refine g_bm ?_
  | with_reducible refine g_iteT ?_
  | with_reducible refine g_iteF ?_
  | with_reducible refine g_I0 ?_
  | with_reducible refine g_add ?_
  | with_reducible refine g_sub ?_
  | ((with_reducible refine' g_var ?hv ?_); (case hv => rfl))
  | ((with_reducible refine g_eq ?hv ?_); (case hv => rfl))
  | ((with_reducible refine g_ne ?hv ?_); (case hv => rfl)))
local macro_rules | `(tactic| walk_at "rd") => `(tactic| repeat (walk_at "rd1"))

local macro_rules | `(tactic| walk_at "ty") => `(tactic| first | exact .non | exact .bl _ | exact .int _ | exact .str _ | exact .lst (by assumption) | exact .tup (by assumption) | exact .dK (by assumption) | exact .kTup (by assumption) (by assumption))
local macro_rules | `(tactic| walk_at "isiF") => `(tactic| refine g_isi (by walk_at "ty") (b := false) (by decide +kernel) ?_)
local macro_rules | `(tactic| walk_at "isiT") => `(tactic| refine g_isi (by walk_at "ty") (b := true) (by decide +kernel) ?_)

theorem g_new1 {C : Addr} {fld : Str} {ta : TA} {σ : L2.St} {H : Hp} {Q : VK} (q : ta σ H fun vs H1 => ∃ v, vs = [v] ∧ Made1 C fld v H1 Q) : tNew1 C fld ta σ H Q := q
theorem g_new2 {C : Addr} {ta : TA} {σ : L2.St} {H : Hp} {Q : VK} (q : ta σ H fun vs H1 => ∃ s p, vs = [s, p] ∧ Made2 C s p H1 Q) : tNew2 C ta σ H Q := q
theorem g_new2K {C : Addr} {ta : TA} {σ : L2.St} {H : Hp} {Q : VK} (q : ta σ H fun vs H1 => ∃ s p, vs = [p, s] ∧ Made2 C s p H1 Q) : tNew2K C ta σ H Q := q
theorem new0_go {C : Addr} {σ : L2.St} {H : Hp} {Q : VK} (k : ∀ a H', Same H H' → H' a = some (exo a C none) → Q (.ref a) H') : tNewE0 C σ H Q := fun a ha => k a _ (same_new ha) upd_same
theorem lst_go {H : Hp} {xs : List V} {Q : VK} (hl : xs.length ≤ 1000) (k : ∀ a H', H a = none → Same H H' → H' a = some (.lst xs) → Q (.ref a) H') : LstG Q xs H :=
  ⟨sz_le hl, fun p hp => k p _ hp (same_new hp) upd_same⟩
theorem tup_go {H : Hp} {xs : List V} {Q : VK} (hl : xs.length ≤ 1000) (k : ∀ a H', H a = none → Same H H' → H' a = some (.tup xs) → Q (.ref a) H') : TupG Q xs H :=
  ⟨sz_le hl, fun p hp => k p _ hp (same_new hp) upd_same⟩
theorem cat_go {H : Hp} {Q : VK} {a b : Addr} {xs ys : List V} (h : H a = some (.lst xs)) (h' : H b = some (.lst ys)) (hl : xs.length + ys.length ≤ 1000) (k : ∀ s H', H s = none → Same H H' → H' s = some (.lst (xs ++ ys)) → Q (.ref s) H') : rCat (.ref a) (.ref b) H Q :=
  ⟨a, b, xs, ys, rfl, rfl, h, h', sz_le hl, fun p hp => k p _ hp (same_new hp) upd_same⟩
def spMade (C : Nat → Addr) : Sp := fun vs H Q _ => ∃ h : V, vs = [h] ∧ ∀ r xs H', Same H H' → H' r = some (.lst xs) → Ers H' xs (specs C h) → Q (.ref r) H'
theorem ok_made (D : Def K mg "_law_made" s_law_made ["_law_held"]) (A : AllE P w K mg base C) : Cal P w K mg base 3 "_law_made" (spMade C) := by
  refine cal_of D sc_law_made (fun vs H Q E h => ?_) (fun f cdv A' outer s H vs Q E hr h => ?_)
  · obtain ⟨h, rfl, _⟩ := h
    rfl
  · obtain ⟨h, rfl, q⟩ := h
    refine ⟨_, (pss_cons (ps_set (i := 1) sc_law_made.nd rfl (Or.inl rfl) (pe_lst (pa_cons (pe_nw1 A.e0 hr (by decide) (by rfl) (pa_cons (pv 0) pa_nil)) (pa_cons (pe_nw1 A.e1 hr (by decide) (by rfl) (pa_cons (pv 0) pa_nil)) (pa_cons (pe_nw1 A.e2 hr (by decide) (by rfl) (pa_cons (pv 0) pa_nil)) (pa_cons (pe_nw1 A.e3 hr (by decide) (by rfl) (pa_cons (pv 0) pa_nil)) (pa_cons (pe_nw2 A.e4 hr (by decide) (by rfl) (pa_cons (pv 0) (pa_cons pe_str pa_nil))) pa_nil)))))))
      (pss_cons (ps_set (i := 1) sc_law_made.nd rfl (Or.inl rfl) (pe_op op_cat (pv 1) (pe_lst (pa_cons (pe_nw1 A.e5 hr (by decide) (by rfl) (pa_cons (pv 0) pa_nil)) (pa_cons (pe_nw1 A.e6 hr (by decide) (by rfl) (pa_cons (pv 0) pa_nil)) (pa_cons (pe_nw1 A.e7 hr (by decide) (by rfl) (pa_cons (pv 0) pa_nil)) (pa_cons (pe_nw1 A.e8 hr (by decide) (by rfl) (pa_cons (pv 0) pa_nil)) (pa_cons (pe_nw1 A.e9 hr (by decide) (by rfl) (pa_cons (pv 0) pa_nil)) pa_nil))))))))
      (pss_cons (ps_set (i := 1) sc_law_made.nd rfl (Or.inl rfl) (pe_op op_cat (pv 1) (pe_lst (pa_cons (pe_nw1 A.e10 hr (by decide) (by rfl) (pa_cons (pv 0) pa_nil)) (pa_cons (pe_nw1 A.e11 hr (by decide) (by rfl) (pa_cons (pv 0) pa_nil)) (pa_cons (pe_nw1 A.e12 hr (by decide) (by rfl) (pa_cons (pv 0) pa_nil)) (pa_cons (pe_nw1 A.e13 hr (by decide) (by rfl) (pa_cons (pv 0) pa_nil)) (pa_cons (pe_nw1 A.e14 hr (by decide) (by rfl) (pa_cons (pv 0) pa_nil)) pa_nil))))))))
      (pss_cons (ps_set (i := 1) sc_law_made.nd rfl (Or.inl rfl) (pe_op op_cat (pv 1) (pe_lst (pa_cons (pe_nw1 A.e15 hr (by decide) (by rfl) (pa_cons (pv 0) pa_nil)) (pa_cons (pe_nw1 A.e16 hr (by decide) (by rfl) (pa_cons (pv 0) pa_nil)) (pa_cons (pe_nw1 A.e17 hr (by decide) (by rfl) (pa_cons (pv 0) pa_nil)) (pa_cons (pe_nw1 A.e18 hr (by decide) (by rfl) (pa_cons (pv 0) pa_nil)) (pa_cons (pe_nw1 A.e19 hr (by decide) (by rfl) (pa_cons (pv 0) pa_nil)) pa_nil))))))))
      (pss_cons (ps_set (i := 1) sc_law_made.nd rfl (Or.inl rfl) (pe_op op_cat (pv 1) (pe_lst (pa_cons (pe_nw1 A.e20 hr (by decide) (by rfl) (pa_cons (pv 0) pa_nil)) (pa_cons (pe_nw1 A.e21 hr (by decide) (by rfl) (pa_cons (pv 0) pa_nil)) (pa_cons (pe_nw1 A.e22 hr (by decide) (by rfl) (pa_cons (pv 0) pa_nil)) (pa_cons (pe_nw0 A.e23 (by rfl)) (pa_cons (pe_nw0 A.e24 (by rfl)) pa_nil))))))))
      (pss_cons (ps_set (i := 1) sc_law_made.nd rfl (Or.inl rfl) (pe_op op_cat (pv 1) (pe_lst (pa_cons (pe_nw0 A.e25 (by rfl)) (pa_cons (pe_nw0 A.e26 (by rfl)) pa_nil)))))
      (pss_one (ps_ret (pv 1))))))))), ?_⟩
    have S : Same H H := Same.refl H
    have E : Ers H [] [] := .nil
    walk_at "rd"
    refine g_new1 ?_
    walk_at "rd"
    refine ⟨_, rfl, fun a0 d0 G0 _ S1 p0 q0 => ?_⟩
    have E : Ers G0 [V.ref a0] [(C 0, some [("value", h)])] := er_snoc E S1 ⟨a0, d0, rfl, p0, q0⟩
    have S := Same.trans S S1
    walk_at "rd"
    refine g_new1 ?_
    walk_at "rd"
    refine ⟨_, rfl, fun a1 d1 G1 _ S1 p1 q1 => ?_⟩
    have E : Ers G1 [V.ref a0, V.ref a1] [(C 0, some [("value", h)]), (C 1, some [("field", h)])] := er_snoc E S1 ⟨a1, d1, rfl, p1, q1⟩
    have S := Same.trans S S1
    walk_at "rd"
    refine g_new1 ?_
    walk_at "rd"
    refine ⟨_, rfl, fun a2 d2 G2 _ S1 p2 q2 => ?_⟩
    have E : Ers G2 [V.ref a0, V.ref a1, V.ref a2] [(C 0, some [("value", h)]), (C 1, some [("field", h)]), (C 2, some [("number", h)])] := er_snoc E S1 ⟨a2, d2, rfl, p2, q2⟩
    have S := Same.trans S S1
    walk_at "rd"
    refine g_new1 ?_
    walk_at "rd"
    refine ⟨_, rfl, fun a3 d3 G3 _ S1 p3 q3 => ?_⟩
    have E : Ers G3 [V.ref a0, V.ref a1, V.ref a2, V.ref a3] [(C 0, some [("value", h)]), (C 1, some [("field", h)]), (C 2, some [("number", h)]), (C 3, some [("number", h)])] := er_snoc E S1 ⟨a3, d3, rfl, p3, q3⟩
    have S := Same.trans S S1
    walk_at "rd"
    refine g_new2 ?_
    walk_at "rd"
    refine ⟨_, _, rfl, fun a4 d4 G4 _ S1 p4 q4 => ?_⟩
    have E : Ers G4 [V.ref a0, V.ref a1, V.ref a2, V.ref a3, V.ref a4] [(C 0, some [("value", h)]), (C 1, some [("field", h)]), (C 2, some [("number", h)]), (C 3, some [("number", h)]), (C 4, some [("place", .str "other"), ("service", h)])] := er_snoc E S1 ⟨a4, d4, rfl, p4, q4⟩
    have S := Same.trans S S1
    walk_at "rd"
    refine lst_go ?hl fun l0 J0 _ S1 hl0 => ?_
    case hl => exact Nat.le_of_ble_eq_true rfl
    have E := E.ext S1
    have S := Same.trans S S1
    have hr0 := hl0
    walk_at "rd"
    refine g_new1 ?_
    walk_at "rd"
    refine ⟨_, rfl, fun a5 d5 G5 _ S1 p5 q5 => ?_⟩
    have E : Ers G5 [V.ref a0, V.ref a1, V.ref a2, V.ref a3, V.ref a4, V.ref a5] [(C 0, some [("value", h)]), (C 1, some [("field", h)]), (C 2, some [("number", h)]), (C 3, some [("number", h)]), (C 4, some [("place", .str "other"), ("service", h)]), (C 5, some [("line", h)])] := er_snoc E S1 ⟨a5, d5, rfl, p5, q5⟩
    have S := Same.trans S S1
    have hr0 := S1 _ _ hr0
    walk_at "rd"
    refine g_new1 ?_
    walk_at "rd"
    refine ⟨_, rfl, fun a6 d6 G6 _ S1 p6 q6 => ?_⟩
    have E : Ers G6 [V.ref a0, V.ref a1, V.ref a2, V.ref a3, V.ref a4, V.ref a5, V.ref a6] [(C 0, some [("value", h)]), (C 1, some [("field", h)]), (C 2, some [("number", h)]), (C 3, some [("number", h)]), (C 4, some [("place", .str "other"), ("service", h)]), (C 5, some [("line", h)]), (C 6, some [("value", h)])] := er_snoc E S1 ⟨a6, d6, rfl, p6, q6⟩
    have S := Same.trans S S1
    have hr0 := S1 _ _ hr0
    walk_at "rd"
    refine g_new1 ?_
    walk_at "rd"
    refine ⟨_, rfl, fun a7 d7 G7 _ S1 p7 q7 => ?_⟩
    have E : Ers G7 [V.ref a0, V.ref a1, V.ref a2, V.ref a3, V.ref a4, V.ref a5, V.ref a6, V.ref a7] [(C 0, some [("value", h)]), (C 1, some [("field", h)]), (C 2, some [("number", h)]), (C 3, some [("number", h)]), (C 4, some [("place", .str "other"), ("service", h)]), (C 5, some [("line", h)]), (C 6, some [("value", h)]), (C 7, some [("path", h)])] := er_snoc E S1 ⟨a7, d7, rfl, p7, q7⟩
    have S := Same.trans S S1
    have hr0 := S1 _ _ hr0
    walk_at "rd"
    refine g_new1 ?_
    walk_at "rd"
    refine ⟨_, rfl, fun a8 d8 G8 _ S1 p8 q8 => ?_⟩
    have E : Ers G8 [V.ref a0, V.ref a1, V.ref a2, V.ref a3, V.ref a4, V.ref a5, V.ref a6, V.ref a7, V.ref a8] [(C 0, some [("value", h)]), (C 1, some [("field", h)]), (C 2, some [("number", h)]), (C 3, some [("number", h)]), (C 4, some [("place", .str "other"), ("service", h)]), (C 5, some [("line", h)]), (C 6, some [("value", h)]), (C 7, some [("path", h)]), (C 8, some [("value", h)])] := er_snoc E S1 ⟨a8, d8, rfl, p8, q8⟩
    have S := Same.trans S S1
    have hr0 := S1 _ _ hr0
    walk_at "rd"
    refine g_new1 ?_
    walk_at "rd"
    refine ⟨_, rfl, fun a9 d9 G9 _ S1 p9 q9 => ?_⟩
    have E : Ers G9 [V.ref a0, V.ref a1, V.ref a2, V.ref a3, V.ref a4, V.ref a5, V.ref a6, V.ref a7, V.ref a8, V.ref a9] [(C 0, some [("value", h)]), (C 1, some [("field", h)]), (C 2, some [("number", h)]), (C 3, some [("number", h)]), (C 4, some [("place", .str "other"), ("service", h)]), (C 5, some [("line", h)]), (C 6, some [("value", h)]), (C 7, some [("path", h)]), (C 8, some [("value", h)]), (C 9, some [("value", h)])] := er_snoc E S1 ⟨a9, d9, rfl, p9, q9⟩
    have S := Same.trans S S1
    have hr0 := S1 _ _ hr0
    walk_at "rd"
    refine lst_go ?hl fun l1 J1 _ S1 hl1 => ?_
    case hl => exact Nat.le_of_ble_eq_true rfl
    have E := E.ext S1
    have S := Same.trans S S1
    have hr0 := S1 _ _ hr0
    refine cat_go hr0 hl1 (Nat.le_of_ble_eq_true rfl) fun c1 L1 _ S1 hr0 => ?_
    have hr0 : L1 c1 = some (.lst [V.ref a0, V.ref a1, V.ref a2, V.ref a3, V.ref a4, V.ref a5, V.ref a6, V.ref a7, V.ref a8, V.ref a9]) := hr0
    have E := E.ext S1
    have S := Same.trans S S1
    walk_at "rd"
    refine g_new1 ?_
    walk_at "rd"
    refine ⟨_, rfl, fun a10 d10 G10 _ S1 p10 q10 => ?_⟩
    have E : Ers G10 [V.ref a0, V.ref a1, V.ref a2, V.ref a3, V.ref a4, V.ref a5, V.ref a6, V.ref a7, V.ref a8, V.ref a9, V.ref a10] [(C 0, some [("value", h)]), (C 1, some [("field", h)]), (C 2, some [("number", h)]), (C 3, some [("number", h)]), (C 4, some [("place", .str "other"), ("service", h)]), (C 5, some [("line", h)]), (C 6, some [("value", h)]), (C 7, some [("path", h)]), (C 8, some [("value", h)]), (C 9, some [("value", h)]), (C 10, some [("value", h)])] := er_snoc E S1 ⟨a10, d10, rfl, p10, q10⟩
    have S := Same.trans S S1
    have hr0 := S1 _ _ hr0
    walk_at "rd"
    refine g_new1 ?_
    walk_at "rd"
    refine ⟨_, rfl, fun a11 d11 G11 _ S1 p11 q11 => ?_⟩
    have E : Ers G11 [V.ref a0, V.ref a1, V.ref a2, V.ref a3, V.ref a4, V.ref a5, V.ref a6, V.ref a7, V.ref a8, V.ref a9, V.ref a10, V.ref a11] [(C 0, some [("value", h)]), (C 1, some [("field", h)]), (C 2, some [("number", h)]), (C 3, some [("number", h)]), (C 4, some [("place", .str "other"), ("service", h)]), (C 5, some [("line", h)]), (C 6, some [("value", h)]), (C 7, some [("path", h)]), (C 8, some [("value", h)]), (C 9, some [("value", h)]), (C 10, some [("value", h)]), (C 11, some [("value", h)])] := er_snoc E S1 ⟨a11, d11, rfl, p11, q11⟩
    have S := Same.trans S S1
    have hr0 := S1 _ _ hr0
    walk_at "rd"
    refine g_new1 ?_
    walk_at "rd"
    refine ⟨_, rfl, fun a12 d12 G12 _ S1 p12 q12 => ?_⟩
    have E : Ers G12 [V.ref a0, V.ref a1, V.ref a2, V.ref a3, V.ref a4, V.ref a5, V.ref a6, V.ref a7, V.ref a8, V.ref a9, V.ref a10, V.ref a11, V.ref a12] [(C 0, some [("value", h)]), (C 1, some [("field", h)]), (C 2, some [("number", h)]), (C 3, some [("number", h)]), (C 4, some [("place", .str "other"), ("service", h)]), (C 5, some [("line", h)]), (C 6, some [("value", h)]), (C 7, some [("path", h)]), (C 8, some [("value", h)]), (C 9, some [("value", h)]), (C 10, some [("value", h)]), (C 11, some [("value", h)]), (C 12, some [("field", h)])] := er_snoc E S1 ⟨a12, d12, rfl, p12, q12⟩
    have S := Same.trans S S1
    have hr0 := S1 _ _ hr0
    walk_at "rd"
    refine g_new1 ?_
    walk_at "rd"
    refine ⟨_, rfl, fun a13 d13 G13 _ S1 p13 q13 => ?_⟩
    have E : Ers G13 [V.ref a0, V.ref a1, V.ref a2, V.ref a3, V.ref a4, V.ref a5, V.ref a6, V.ref a7, V.ref a8, V.ref a9, V.ref a10, V.ref a11, V.ref a12, V.ref a13] [(C 0, some [("value", h)]), (C 1, some [("field", h)]), (C 2, some [("number", h)]), (C 3, some [("number", h)]), (C 4, some [("place", .str "other"), ("service", h)]), (C 5, some [("line", h)]), (C 6, some [("value", h)]), (C 7, some [("path", h)]), (C 8, some [("value", h)]), (C 9, some [("value", h)]), (C 10, some [("value", h)]), (C 11, some [("value", h)]), (C 12, some [("field", h)]), (C 13, some [("value", h)])] := er_snoc E S1 ⟨a13, d13, rfl, p13, q13⟩
    have S := Same.trans S S1
    have hr0 := S1 _ _ hr0
    walk_at "rd"
    refine g_new1 ?_
    walk_at "rd"
    refine ⟨_, rfl, fun a14 d14 G14 _ S1 p14 q14 => ?_⟩
    have E : Ers G14 [V.ref a0, V.ref a1, V.ref a2, V.ref a3, V.ref a4, V.ref a5, V.ref a6, V.ref a7, V.ref a8, V.ref a9, V.ref a10, V.ref a11, V.ref a12, V.ref a13, V.ref a14] [(C 0, some [("value", h)]), (C 1, some [("field", h)]), (C 2, some [("number", h)]), (C 3, some [("number", h)]), (C 4, some [("place", .str "other"), ("service", h)]), (C 5, some [("line", h)]), (C 6, some [("value", h)]), (C 7, some [("path", h)]), (C 8, some [("value", h)]), (C 9, some [("value", h)]), (C 10, some [("value", h)]), (C 11, some [("value", h)]), (C 12, some [("field", h)]), (C 13, some [("value", h)]), (C 14, some [("value", h)])] := er_snoc E S1 ⟨a14, d14, rfl, p14, q14⟩
    have S := Same.trans S S1
    have hr0 := S1 _ _ hr0
    walk_at "rd"
    refine lst_go ?hl fun l2 J2 _ S1 hl2 => ?_
    case hl => exact Nat.le_of_ble_eq_true rfl
    have E := E.ext S1
    have S := Same.trans S S1
    have hr0 := S1 _ _ hr0
    refine cat_go hr0 hl2 (Nat.le_of_ble_eq_true rfl) fun c2 L2 _ S1 hr0 => ?_
    have hr0 : L2 c2 = some (.lst [V.ref a0, V.ref a1, V.ref a2, V.ref a3, V.ref a4, V.ref a5, V.ref a6, V.ref a7, V.ref a8, V.ref a9, V.ref a10, V.ref a11, V.ref a12, V.ref a13, V.ref a14]) := hr0
    have E := E.ext S1
    have S := Same.trans S S1
    walk_at "rd"
    refine g_new1 ?_
    walk_at "rd"
    refine ⟨_, rfl, fun a15 d15 G15 _ S1 p15 q15 => ?_⟩
    have E : Ers G15 [V.ref a0, V.ref a1, V.ref a2, V.ref a3, V.ref a4, V.ref a5, V.ref a6, V.ref a7, V.ref a8, V.ref a9, V.ref a10, V.ref a11, V.ref a12, V.ref a13, V.ref a14, V.ref a15] [(C 0, some [("value", h)]), (C 1, some [("field", h)]), (C 2, some [("number", h)]), (C 3, some [("number", h)]), (C 4, some [("place", .str "other"), ("service", h)]), (C 5, some [("line", h)]), (C 6, some [("value", h)]), (C 7, some [("path", h)]), (C 8, some [("value", h)]), (C 9, some [("value", h)]), (C 10, some [("value", h)]), (C 11, some [("value", h)]), (C 12, some [("field", h)]), (C 13, some [("value", h)]), (C 14, some [("value", h)]), (C 15, some [("field", h)])] := er_snoc E S1 ⟨a15, d15, rfl, p15, q15⟩
    have S := Same.trans S S1
    have hr0 := S1 _ _ hr0
    walk_at "rd"
    refine g_new1 ?_
    walk_at "rd"
    refine ⟨_, rfl, fun a16 d16 G16 _ S1 p16 q16 => ?_⟩
    have E : Ers G16 [V.ref a0, V.ref a1, V.ref a2, V.ref a3, V.ref a4, V.ref a5, V.ref a6, V.ref a7, V.ref a8, V.ref a9, V.ref a10, V.ref a11, V.ref a12, V.ref a13, V.ref a14, V.ref a15, V.ref a16] [(C 0, some [("value", h)]), (C 1, some [("field", h)]), (C 2, some [("number", h)]), (C 3, some [("number", h)]), (C 4, some [("place", .str "other"), ("service", h)]), (C 5, some [("line", h)]), (C 6, some [("value", h)]), (C 7, some [("path", h)]), (C 8, some [("value", h)]), (C 9, some [("value", h)]), (C 10, some [("value", h)]), (C 11, some [("value", h)]), (C 12, some [("field", h)]), (C 13, some [("value", h)]), (C 14, some [("value", h)]), (C 15, some [("field", h)]), (C 16, some [("number", h)])] := er_snoc E S1 ⟨a16, d16, rfl, p16, q16⟩
    have S := Same.trans S S1
    have hr0 := S1 _ _ hr0
    walk_at "rd"
    refine g_new1 ?_
    walk_at "rd"
    refine ⟨_, rfl, fun a17 d17 G17 _ S1 p17 q17 => ?_⟩
    have E : Ers G17 [V.ref a0, V.ref a1, V.ref a2, V.ref a3, V.ref a4, V.ref a5, V.ref a6, V.ref a7, V.ref a8, V.ref a9, V.ref a10, V.ref a11, V.ref a12, V.ref a13, V.ref a14, V.ref a15, V.ref a16, V.ref a17] [(C 0, some [("value", h)]), (C 1, some [("field", h)]), (C 2, some [("number", h)]), (C 3, some [("number", h)]), (C 4, some [("place", .str "other"), ("service", h)]), (C 5, some [("line", h)]), (C 6, some [("value", h)]), (C 7, some [("path", h)]), (C 8, some [("value", h)]), (C 9, some [("value", h)]), (C 10, some [("value", h)]), (C 11, some [("value", h)]), (C 12, some [("field", h)]), (C 13, some [("value", h)]), (C 14, some [("value", h)]), (C 15, some [("field", h)]), (C 16, some [("number", h)]), (C 17, some [("number", h)])] := er_snoc E S1 ⟨a17, d17, rfl, p17, q17⟩
    have S := Same.trans S S1
    have hr0 := S1 _ _ hr0
    walk_at "rd"
    refine g_new1 ?_
    walk_at "rd"
    refine ⟨_, rfl, fun a18 d18 G18 _ S1 p18 q18 => ?_⟩
    have E : Ers G18 [V.ref a0, V.ref a1, V.ref a2, V.ref a3, V.ref a4, V.ref a5, V.ref a6, V.ref a7, V.ref a8, V.ref a9, V.ref a10, V.ref a11, V.ref a12, V.ref a13, V.ref a14, V.ref a15, V.ref a16, V.ref a17, V.ref a18] [(C 0, some [("value", h)]), (C 1, some [("field", h)]), (C 2, some [("number", h)]), (C 3, some [("number", h)]), (C 4, some [("place", .str "other"), ("service", h)]), (C 5, some [("line", h)]), (C 6, some [("value", h)]), (C 7, some [("path", h)]), (C 8, some [("value", h)]), (C 9, some [("value", h)]), (C 10, some [("value", h)]), (C 11, some [("value", h)]), (C 12, some [("field", h)]), (C 13, some [("value", h)]), (C 14, some [("value", h)]), (C 15, some [("field", h)]), (C 16, some [("number", h)]), (C 17, some [("number", h)]), (C 18, some [("word", h)])] := er_snoc E S1 ⟨a18, d18, rfl, p18, q18⟩
    have S := Same.trans S S1
    have hr0 := S1 _ _ hr0
    walk_at "rd"
    refine g_new1 ?_
    walk_at "rd"
    refine ⟨_, rfl, fun a19 d19 G19 _ S1 p19 q19 => ?_⟩
    have E : Ers G19 [V.ref a0, V.ref a1, V.ref a2, V.ref a3, V.ref a4, V.ref a5, V.ref a6, V.ref a7, V.ref a8, V.ref a9, V.ref a10, V.ref a11, V.ref a12, V.ref a13, V.ref a14, V.ref a15, V.ref a16, V.ref a17, V.ref a18, V.ref a19] [(C 0, some [("value", h)]), (C 1, some [("field", h)]), (C 2, some [("number", h)]), (C 3, some [("number", h)]), (C 4, some [("place", .str "other"), ("service", h)]), (C 5, some [("line", h)]), (C 6, some [("value", h)]), (C 7, some [("path", h)]), (C 8, some [("value", h)]), (C 9, some [("value", h)]), (C 10, some [("value", h)]), (C 11, some [("value", h)]), (C 12, some [("field", h)]), (C 13, some [("value", h)]), (C 14, some [("value", h)]), (C 15, some [("field", h)]), (C 16, some [("number", h)]), (C 17, some [("number", h)]), (C 18, some [("word", h)]), (C 19, some [("word", h)])] := er_snoc E S1 ⟨a19, d19, rfl, p19, q19⟩
    have S := Same.trans S S1
    have hr0 := S1 _ _ hr0
    walk_at "rd"
    refine lst_go ?hl fun l3 J3 _ S1 hl3 => ?_
    case hl => exact Nat.le_of_ble_eq_true rfl
    have E := E.ext S1
    have S := Same.trans S S1
    have hr0 := S1 _ _ hr0
    refine cat_go hr0 hl3 (Nat.le_of_ble_eq_true rfl) fun c3 L3 _ S1 hr0 => ?_
    have hr0 : L3 c3 = some (.lst [V.ref a0, V.ref a1, V.ref a2, V.ref a3, V.ref a4, V.ref a5, V.ref a6, V.ref a7, V.ref a8, V.ref a9, V.ref a10, V.ref a11, V.ref a12, V.ref a13, V.ref a14, V.ref a15, V.ref a16, V.ref a17, V.ref a18, V.ref a19]) := hr0
    have E := E.ext S1
    have S := Same.trans S S1
    walk_at "rd"
    refine g_new1 ?_
    walk_at "rd"
    refine ⟨_, rfl, fun a20 d20 G20 _ S1 p20 q20 => ?_⟩
    have E : Ers G20 [V.ref a0, V.ref a1, V.ref a2, V.ref a3, V.ref a4, V.ref a5, V.ref a6, V.ref a7, V.ref a8, V.ref a9, V.ref a10, V.ref a11, V.ref a12, V.ref a13, V.ref a14, V.ref a15, V.ref a16, V.ref a17, V.ref a18, V.ref a19, V.ref a20] [(C 0, some [("value", h)]), (C 1, some [("field", h)]), (C 2, some [("number", h)]), (C 3, some [("number", h)]), (C 4, some [("place", .str "other"), ("service", h)]), (C 5, some [("line", h)]), (C 6, some [("value", h)]), (C 7, some [("path", h)]), (C 8, some [("value", h)]), (C 9, some [("value", h)]), (C 10, some [("value", h)]), (C 11, some [("value", h)]), (C 12, some [("field", h)]), (C 13, some [("value", h)]), (C 14, some [("value", h)]), (C 15, some [("field", h)]), (C 16, some [("number", h)]), (C 17, some [("number", h)]), (C 18, some [("word", h)]), (C 19, some [("word", h)]), (C 20, some [("value", h)])] := er_snoc E S1 ⟨a20, d20, rfl, p20, q20⟩
    have S := Same.trans S S1
    have hr0 := S1 _ _ hr0
    walk_at "rd"
    refine g_new1 ?_
    walk_at "rd"
    refine ⟨_, rfl, fun a21 d21 G21 _ S1 p21 q21 => ?_⟩
    have E : Ers G21 [V.ref a0, V.ref a1, V.ref a2, V.ref a3, V.ref a4, V.ref a5, V.ref a6, V.ref a7, V.ref a8, V.ref a9, V.ref a10, V.ref a11, V.ref a12, V.ref a13, V.ref a14, V.ref a15, V.ref a16, V.ref a17, V.ref a18, V.ref a19, V.ref a20, V.ref a21] [(C 0, some [("value", h)]), (C 1, some [("field", h)]), (C 2, some [("number", h)]), (C 3, some [("number", h)]), (C 4, some [("place", .str "other"), ("service", h)]), (C 5, some [("line", h)]), (C 6, some [("value", h)]), (C 7, some [("path", h)]), (C 8, some [("value", h)]), (C 9, some [("value", h)]), (C 10, some [("value", h)]), (C 11, some [("value", h)]), (C 12, some [("field", h)]), (C 13, some [("value", h)]), (C 14, some [("value", h)]), (C 15, some [("field", h)]), (C 16, some [("number", h)]), (C 17, some [("number", h)]), (C 18, some [("word", h)]), (C 19, some [("word", h)]), (C 20, some [("value", h)]), (C 21, some [("service", h)])] := er_snoc E S1 ⟨a21, d21, rfl, p21, q21⟩
    have S := Same.trans S S1
    have hr0 := S1 _ _ hr0
    walk_at "rd"
    refine g_new1 ?_
    walk_at "rd"
    refine ⟨_, rfl, fun a22 d22 G22 _ S1 p22 q22 => ?_⟩
    have E : Ers G22 [V.ref a0, V.ref a1, V.ref a2, V.ref a3, V.ref a4, V.ref a5, V.ref a6, V.ref a7, V.ref a8, V.ref a9, V.ref a10, V.ref a11, V.ref a12, V.ref a13, V.ref a14, V.ref a15, V.ref a16, V.ref a17, V.ref a18, V.ref a19, V.ref a20, V.ref a21, V.ref a22] [(C 0, some [("value", h)]), (C 1, some [("field", h)]), (C 2, some [("number", h)]), (C 3, some [("number", h)]), (C 4, some [("place", .str "other"), ("service", h)]), (C 5, some [("line", h)]), (C 6, some [("value", h)]), (C 7, some [("path", h)]), (C 8, some [("value", h)]), (C 9, some [("value", h)]), (C 10, some [("value", h)]), (C 11, some [("value", h)]), (C 12, some [("field", h)]), (C 13, some [("value", h)]), (C 14, some [("value", h)]), (C 15, some [("field", h)]), (C 16, some [("number", h)]), (C 17, some [("number", h)]), (C 18, some [("word", h)]), (C 19, some [("word", h)]), (C 20, some [("value", h)]), (C 21, some [("service", h)]), (C 22, some [("most", h)])] := er_snoc E S1 ⟨a22, d22, rfl, p22, q22⟩
    have S := Same.trans S S1
    have hr0 := S1 _ _ hr0
    walk_at "rd"
    refine new0_go fun a23 G23 S1 p23 => ?_
    have E : Ers G23 [V.ref a0, V.ref a1, V.ref a2, V.ref a3, V.ref a4, V.ref a5, V.ref a6, V.ref a7, V.ref a8, V.ref a9, V.ref a10, V.ref a11, V.ref a12, V.ref a13, V.ref a14, V.ref a15, V.ref a16, V.ref a17, V.ref a18, V.ref a19, V.ref a20, V.ref a21, V.ref a22, V.ref a23] [(C 0, some [("value", h)]), (C 1, some [("field", h)]), (C 2, some [("number", h)]), (C 3, some [("number", h)]), (C 4, some [("place", .str "other"), ("service", h)]), (C 5, some [("line", h)]), (C 6, some [("value", h)]), (C 7, some [("path", h)]), (C 8, some [("value", h)]), (C 9, some [("value", h)]), (C 10, some [("value", h)]), (C 11, some [("value", h)]), (C 12, some [("field", h)]), (C 13, some [("value", h)]), (C 14, some [("value", h)]), (C 15, some [("field", h)]), (C 16, some [("number", h)]), (C 17, some [("number", h)]), (C 18, some [("word", h)]), (C 19, some [("word", h)]), (C 20, some [("value", h)]), (C 21, some [("service", h)]), (C 22, some [("most", h)]), (C 23, none)] := er_snoc E S1 ⟨a23, rfl, p23⟩
    have S := Same.trans S S1
    have hr0 := S1 _ _ hr0
    walk_at "rd"
    refine new0_go fun a24 G24 S1 p24 => ?_
    have E : Ers G24 [V.ref a0, V.ref a1, V.ref a2, V.ref a3, V.ref a4, V.ref a5, V.ref a6, V.ref a7, V.ref a8, V.ref a9, V.ref a10, V.ref a11, V.ref a12, V.ref a13, V.ref a14, V.ref a15, V.ref a16, V.ref a17, V.ref a18, V.ref a19, V.ref a20, V.ref a21, V.ref a22, V.ref a23, V.ref a24] [(C 0, some [("value", h)]), (C 1, some [("field", h)]), (C 2, some [("number", h)]), (C 3, some [("number", h)]), (C 4, some [("place", .str "other"), ("service", h)]), (C 5, some [("line", h)]), (C 6, some [("value", h)]), (C 7, some [("path", h)]), (C 8, some [("value", h)]), (C 9, some [("value", h)]), (C 10, some [("value", h)]), (C 11, some [("value", h)]), (C 12, some [("field", h)]), (C 13, some [("value", h)]), (C 14, some [("value", h)]), (C 15, some [("field", h)]), (C 16, some [("number", h)]), (C 17, some [("number", h)]), (C 18, some [("word", h)]), (C 19, some [("word", h)]), (C 20, some [("value", h)]), (C 21, some [("service", h)]), (C 22, some [("most", h)]), (C 23, none), (C 24, none)] := er_snoc E S1 ⟨a24, rfl, p24⟩
    have S := Same.trans S S1
    have hr0 := S1 _ _ hr0
    walk_at "rd"
    refine lst_go ?hl fun l4 J4 _ S1 hl4 => ?_
    case hl => exact Nat.le_of_ble_eq_true rfl
    have E := E.ext S1
    have S := Same.trans S S1
    have hr0 := S1 _ _ hr0
    refine cat_go hr0 hl4 (Nat.le_of_ble_eq_true rfl) fun c4 L4 _ S1 hr0 => ?_
    have hr0 : L4 c4 = some (.lst [V.ref a0, V.ref a1, V.ref a2, V.ref a3, V.ref a4, V.ref a5, V.ref a6, V.ref a7, V.ref a8, V.ref a9, V.ref a10, V.ref a11, V.ref a12, V.ref a13, V.ref a14, V.ref a15, V.ref a16, V.ref a17, V.ref a18, V.ref a19, V.ref a20, V.ref a21, V.ref a22, V.ref a23, V.ref a24]) := hr0
    have E := E.ext S1
    have S := Same.trans S S1
    walk_at "rd"
    refine new0_go fun a25 G25 S1 p25 => ?_
    have E : Ers G25 [V.ref a0, V.ref a1, V.ref a2, V.ref a3, V.ref a4, V.ref a5, V.ref a6, V.ref a7, V.ref a8, V.ref a9, V.ref a10, V.ref a11, V.ref a12, V.ref a13, V.ref a14, V.ref a15, V.ref a16, V.ref a17, V.ref a18, V.ref a19, V.ref a20, V.ref a21, V.ref a22, V.ref a23, V.ref a24, V.ref a25] [(C 0, some [("value", h)]), (C 1, some [("field", h)]), (C 2, some [("number", h)]), (C 3, some [("number", h)]), (C 4, some [("place", .str "other"), ("service", h)]), (C 5, some [("line", h)]), (C 6, some [("value", h)]), (C 7, some [("path", h)]), (C 8, some [("value", h)]), (C 9, some [("value", h)]), (C 10, some [("value", h)]), (C 11, some [("value", h)]), (C 12, some [("field", h)]), (C 13, some [("value", h)]), (C 14, some [("value", h)]), (C 15, some [("field", h)]), (C 16, some [("number", h)]), (C 17, some [("number", h)]), (C 18, some [("word", h)]), (C 19, some [("word", h)]), (C 20, some [("value", h)]), (C 21, some [("service", h)]), (C 22, some [("most", h)]), (C 23, none), (C 24, none), (C 25, none)] := er_snoc E S1 ⟨a25, rfl, p25⟩
    have S := Same.trans S S1
    have hr0 := S1 _ _ hr0
    walk_at "rd"
    refine new0_go fun a26 G26 S1 p26 => ?_
    have E : Ers G26 [V.ref a0, V.ref a1, V.ref a2, V.ref a3, V.ref a4, V.ref a5, V.ref a6, V.ref a7, V.ref a8, V.ref a9, V.ref a10, V.ref a11, V.ref a12, V.ref a13, V.ref a14, V.ref a15, V.ref a16, V.ref a17, V.ref a18, V.ref a19, V.ref a20, V.ref a21, V.ref a22, V.ref a23, V.ref a24, V.ref a25, V.ref a26] [(C 0, some [("value", h)]), (C 1, some [("field", h)]), (C 2, some [("number", h)]), (C 3, some [("number", h)]), (C 4, some [("place", .str "other"), ("service", h)]), (C 5, some [("line", h)]), (C 6, some [("value", h)]), (C 7, some [("path", h)]), (C 8, some [("value", h)]), (C 9, some [("value", h)]), (C 10, some [("value", h)]), (C 11, some [("value", h)]), (C 12, some [("field", h)]), (C 13, some [("value", h)]), (C 14, some [("value", h)]), (C 15, some [("field", h)]), (C 16, some [("number", h)]), (C 17, some [("number", h)]), (C 18, some [("word", h)]), (C 19, some [("word", h)]), (C 20, some [("value", h)]), (C 21, some [("service", h)]), (C 22, some [("most", h)]), (C 23, none), (C 24, none), (C 25, none), (C 26, none)] := er_snoc E S1 ⟨a26, rfl, p26⟩
    have S := Same.trans S S1
    have hr0 := S1 _ _ hr0
    walk_at "rd"
    refine lst_go ?hl fun l5 J5 _ S1 hl5 => ?_
    case hl => exact Nat.le_of_ble_eq_true rfl
    have E := E.ext S1
    have S := Same.trans S S1
    have hr0 := S1 _ _ hr0
    refine cat_go hr0 hl5 (Nat.le_of_ble_eq_true rfl) fun c5 L5 _ S1 hr0 => ?_
    have hr0 : L5 c5 = some (.lst [V.ref a0, V.ref a1, V.ref a2, V.ref a3, V.ref a4, V.ref a5, V.ref a6, V.ref a7, V.ref a8, V.ref a9, V.ref a10, V.ref a11, V.ref a12, V.ref a13, V.ref a14, V.ref a15, V.ref a16, V.ref a17, V.ref a18, V.ref a19, V.ref a20, V.ref a21, V.ref a22, V.ref a23, V.ref a24, V.ref a25, V.ref a26]) := hr0
    have E := E.ext S1
    have S := Same.trans S S1
    walk_at "rd"
    exact q _ _ _ S hr0 E
theorem ok_named (D : Def K mg "_law_named" s_law_named ["_law_held"]) (A : AllE P w K mg base C) : Cal P w K mg base 3 "_law_named" (spMade C) := by
  refine cal_of D sc_law_named (fun vs H Q E h => ?_) (fun f cdv A' outer s H vs Q E hr h => ?_)
  · obtain ⟨h, rfl, _⟩ := h
    rfl
  · obtain ⟨h, rfl, q⟩ := h
    refine ⟨_, (pss_cons (ps_set (i := 1) sc_law_named.nd rfl (Or.inl rfl) (pe_lst (pa_cons (pe_nw1K A.e0 hr (by decide) (by rfl) (pk_cons (pv 0) pk_nil)) (pa_cons (pe_nw1K A.e1 hr (by decide) (by rfl) (pk_cons (pv 0) pk_nil)) (pa_cons (pe_nw1K A.e2 hr (by decide) (by rfl) (pk_cons (pv 0) pk_nil)) (pa_cons (pe_nw1K A.e3 hr (by decide) (by rfl) (pk_cons (pv 0) pk_nil)) (pa_cons (pe_nw2K A.e4 hr (by decide) (by rfl) (pk_cons pe_str (pk_cons (pv 0) pk_nil))) pa_nil)))))))
      (pss_cons (ps_set (i := 1) sc_law_named.nd rfl (Or.inl rfl) (pe_op op_cat (pv 1) (pe_lst (pa_cons (pe_nw1K A.e5 hr (by decide) (by rfl) (pk_cons (pv 0) pk_nil)) (pa_cons (pe_nw1K A.e6 hr (by decide) (by rfl) (pk_cons (pv 0) pk_nil)) (pa_cons (pe_nw1K A.e7 hr (by decide) (by rfl) (pk_cons (pv 0) pk_nil)) (pa_cons (pe_nw1K A.e8 hr (by decide) (by rfl) (pk_cons (pv 0) pk_nil)) (pa_cons (pe_nw1K A.e9 hr (by decide) (by rfl) (pk_cons (pv 0) pk_nil)) pa_nil))))))))
      (pss_cons (ps_set (i := 1) sc_law_named.nd rfl (Or.inl rfl) (pe_op op_cat (pv 1) (pe_lst (pa_cons (pe_nw1K A.e10 hr (by decide) (by rfl) (pk_cons (pv 0) pk_nil)) (pa_cons (pe_nw1K A.e11 hr (by decide) (by rfl) (pk_cons (pv 0) pk_nil)) (pa_cons (pe_nw1K A.e12 hr (by decide) (by rfl) (pk_cons (pv 0) pk_nil)) (pa_cons (pe_nw1K A.e13 hr (by decide) (by rfl) (pk_cons (pv 0) pk_nil)) (pa_cons (pe_nw1K A.e14 hr (by decide) (by rfl) (pk_cons (pv 0) pk_nil)) pa_nil))))))))
      (pss_cons (ps_set (i := 1) sc_law_named.nd rfl (Or.inl rfl) (pe_op op_cat (pv 1) (pe_lst (pa_cons (pe_nw1K A.e15 hr (by decide) (by rfl) (pk_cons (pv 0) pk_nil)) (pa_cons (pe_nw1K A.e16 hr (by decide) (by rfl) (pk_cons (pv 0) pk_nil)) (pa_cons (pe_nw1K A.e17 hr (by decide) (by rfl) (pk_cons (pv 0) pk_nil)) (pa_cons (pe_nw1K A.e18 hr (by decide) (by rfl) (pk_cons (pv 0) pk_nil)) (pa_cons (pe_nw1K A.e19 hr (by decide) (by rfl) (pk_cons (pv 0) pk_nil)) pa_nil))))))))
      (pss_cons (ps_set (i := 1) sc_law_named.nd rfl (Or.inl rfl) (pe_op op_cat (pv 1) (pe_lst (pa_cons (pe_nw1K A.e20 hr (by decide) (by rfl) (pk_cons (pv 0) pk_nil)) (pa_cons (pe_nw1K A.e21 hr (by decide) (by rfl) (pk_cons (pv 0) pk_nil)) (pa_cons (pe_nw1K A.e22 hr (by decide) (by rfl) (pk_cons (pv 0) pk_nil)) (pa_cons (pe_nw0 A.e23 (by rfl)) (pa_cons (pe_nw0 A.e24 (by rfl)) pa_nil))))))))
      (pss_cons (ps_set (i := 1) sc_law_named.nd rfl (Or.inl rfl) (pe_op op_cat (pv 1) (pe_lst (pa_cons (pe_nw0 A.e25 (by rfl)) (pa_cons (pe_nw0 A.e26 (by rfl)) pa_nil)))))
      (pss_one (ps_ret (pv 1))))))))), ?_⟩
    have S : Same H H := Same.refl H
    have E : Ers H [] [] := .nil
    walk_at "rd"
    refine g_new1 ?_
    walk_at "rd"
    refine ⟨_, rfl, fun a0 d0 G0 _ S1 p0 q0 => ?_⟩
    have E : Ers G0 [V.ref a0] [(C 0, some [("value", h)])] := er_snoc E S1 ⟨a0, d0, rfl, p0, q0⟩
    have S := Same.trans S S1
    walk_at "rd"
    refine g_new1 ?_
    walk_at "rd"
    refine ⟨_, rfl, fun a1 d1 G1 _ S1 p1 q1 => ?_⟩
    have E : Ers G1 [V.ref a0, V.ref a1] [(C 0, some [("value", h)]), (C 1, some [("field", h)])] := er_snoc E S1 ⟨a1, d1, rfl, p1, q1⟩
    have S := Same.trans S S1
    walk_at "rd"
    refine g_new1 ?_
    walk_at "rd"
    refine ⟨_, rfl, fun a2 d2 G2 _ S1 p2 q2 => ?_⟩
    have E : Ers G2 [V.ref a0, V.ref a1, V.ref a2] [(C 0, some [("value", h)]), (C 1, some [("field", h)]), (C 2, some [("number", h)])] := er_snoc E S1 ⟨a2, d2, rfl, p2, q2⟩
    have S := Same.trans S S1
    walk_at "rd"
    refine g_new1 ?_
    walk_at "rd"
    refine ⟨_, rfl, fun a3 d3 G3 _ S1 p3 q3 => ?_⟩
    have E : Ers G3 [V.ref a0, V.ref a1, V.ref a2, V.ref a3] [(C 0, some [("value", h)]), (C 1, some [("field", h)]), (C 2, some [("number", h)]), (C 3, some [("number", h)])] := er_snoc E S1 ⟨a3, d3, rfl, p3, q3⟩
    have S := Same.trans S S1
    walk_at "rd"
    refine g_new2K ?_
    walk_at "rd"
    refine ⟨_, _, rfl, fun a4 d4 G4 _ S1 p4 q4 => ?_⟩
    have E : Ers G4 [V.ref a0, V.ref a1, V.ref a2, V.ref a3, V.ref a4] [(C 0, some [("value", h)]), (C 1, some [("field", h)]), (C 2, some [("number", h)]), (C 3, some [("number", h)]), (C 4, some [("place", .str "other"), ("service", h)])] := er_snoc E S1 ⟨a4, d4, rfl, p4, q4⟩
    have S := Same.trans S S1
    walk_at "rd"
    refine lst_go ?hl fun l0 J0 _ S1 hl0 => ?_
    case hl => exact Nat.le_of_ble_eq_true rfl
    have E := E.ext S1
    have S := Same.trans S S1
    have hr0 := hl0
    walk_at "rd"
    refine g_new1 ?_
    walk_at "rd"
    refine ⟨_, rfl, fun a5 d5 G5 _ S1 p5 q5 => ?_⟩
    have E : Ers G5 [V.ref a0, V.ref a1, V.ref a2, V.ref a3, V.ref a4, V.ref a5] [(C 0, some [("value", h)]), (C 1, some [("field", h)]), (C 2, some [("number", h)]), (C 3, some [("number", h)]), (C 4, some [("place", .str "other"), ("service", h)]), (C 5, some [("line", h)])] := er_snoc E S1 ⟨a5, d5, rfl, p5, q5⟩
    have S := Same.trans S S1
    have hr0 := S1 _ _ hr0
    walk_at "rd"
    refine g_new1 ?_
    walk_at "rd"
    refine ⟨_, rfl, fun a6 d6 G6 _ S1 p6 q6 => ?_⟩
    have E : Ers G6 [V.ref a0, V.ref a1, V.ref a2, V.ref a3, V.ref a4, V.ref a5, V.ref a6] [(C 0, some [("value", h)]), (C 1, some [("field", h)]), (C 2, some [("number", h)]), (C 3, some [("number", h)]), (C 4, some [("place", .str "other"), ("service", h)]), (C 5, some [("line", h)]), (C 6, some [("value", h)])] := er_snoc E S1 ⟨a6, d6, rfl, p6, q6⟩
    have S := Same.trans S S1
    have hr0 := S1 _ _ hr0
    walk_at "rd"
    refine g_new1 ?_
    walk_at "rd"
    refine ⟨_, rfl, fun a7 d7 G7 _ S1 p7 q7 => ?_⟩
    have E : Ers G7 [V.ref a0, V.ref a1, V.ref a2, V.ref a3, V.ref a4, V.ref a5, V.ref a6, V.ref a7] [(C 0, some [("value", h)]), (C 1, some [("field", h)]), (C 2, some [("number", h)]), (C 3, some [("number", h)]), (C 4, some [("place", .str "other"), ("service", h)]), (C 5, some [("line", h)]), (C 6, some [("value", h)]), (C 7, some [("path", h)])] := er_snoc E S1 ⟨a7, d7, rfl, p7, q7⟩
    have S := Same.trans S S1
    have hr0 := S1 _ _ hr0
    walk_at "rd"
    refine g_new1 ?_
    walk_at "rd"
    refine ⟨_, rfl, fun a8 d8 G8 _ S1 p8 q8 => ?_⟩
    have E : Ers G8 [V.ref a0, V.ref a1, V.ref a2, V.ref a3, V.ref a4, V.ref a5, V.ref a6, V.ref a7, V.ref a8] [(C 0, some [("value", h)]), (C 1, some [("field", h)]), (C 2, some [("number", h)]), (C 3, some [("number", h)]), (C 4, some [("place", .str "other"), ("service", h)]), (C 5, some [("line", h)]), (C 6, some [("value", h)]), (C 7, some [("path", h)]), (C 8, some [("value", h)])] := er_snoc E S1 ⟨a8, d8, rfl, p8, q8⟩
    have S := Same.trans S S1
    have hr0 := S1 _ _ hr0
    walk_at "rd"
    refine g_new1 ?_
    walk_at "rd"
    refine ⟨_, rfl, fun a9 d9 G9 _ S1 p9 q9 => ?_⟩
    have E : Ers G9 [V.ref a0, V.ref a1, V.ref a2, V.ref a3, V.ref a4, V.ref a5, V.ref a6, V.ref a7, V.ref a8, V.ref a9] [(C 0, some [("value", h)]), (C 1, some [("field", h)]), (C 2, some [("number", h)]), (C 3, some [("number", h)]), (C 4, some [("place", .str "other"), ("service", h)]), (C 5, some [("line", h)]), (C 6, some [("value", h)]), (C 7, some [("path", h)]), (C 8, some [("value", h)]), (C 9, some [("value", h)])] := er_snoc E S1 ⟨a9, d9, rfl, p9, q9⟩
    have S := Same.trans S S1
    have hr0 := S1 _ _ hr0
    walk_at "rd"
    refine lst_go ?hl fun l1 J1 _ S1 hl1 => ?_
    case hl => exact Nat.le_of_ble_eq_true rfl
    have E := E.ext S1
    have S := Same.trans S S1
    have hr0 := S1 _ _ hr0
    refine cat_go hr0 hl1 (Nat.le_of_ble_eq_true rfl) fun c1 L1 _ S1 hr0 => ?_
    have hr0 : L1 c1 = some (.lst [V.ref a0, V.ref a1, V.ref a2, V.ref a3, V.ref a4, V.ref a5, V.ref a6, V.ref a7, V.ref a8, V.ref a9]) := hr0
    have E := E.ext S1
    have S := Same.trans S S1
    walk_at "rd"
    refine g_new1 ?_
    walk_at "rd"
    refine ⟨_, rfl, fun a10 d10 G10 _ S1 p10 q10 => ?_⟩
    have E : Ers G10 [V.ref a0, V.ref a1, V.ref a2, V.ref a3, V.ref a4, V.ref a5, V.ref a6, V.ref a7, V.ref a8, V.ref a9, V.ref a10] [(C 0, some [("value", h)]), (C 1, some [("field", h)]), (C 2, some [("number", h)]), (C 3, some [("number", h)]), (C 4, some [("place", .str "other"), ("service", h)]), (C 5, some [("line", h)]), (C 6, some [("value", h)]), (C 7, some [("path", h)]), (C 8, some [("value", h)]), (C 9, some [("value", h)]), (C 10, some [("value", h)])] := er_snoc E S1 ⟨a10, d10, rfl, p10, q10⟩
    have S := Same.trans S S1
    have hr0 := S1 _ _ hr0
    walk_at "rd"
    refine g_new1 ?_
    walk_at "rd"
    refine ⟨_, rfl, fun a11 d11 G11 _ S1 p11 q11 => ?_⟩
    have E : Ers G11 [V.ref a0, V.ref a1, V.ref a2, V.ref a3, V.ref a4, V.ref a5, V.ref a6, V.ref a7, V.ref a8, V.ref a9, V.ref a10, V.ref a11] [(C 0, some [("value", h)]), (C 1, some [("field", h)]), (C 2, some [("number", h)]), (C 3, some [("number", h)]), (C 4, some [("place", .str "other"), ("service", h)]), (C 5, some [("line", h)]), (C 6, some [("value", h)]), (C 7, some [("path", h)]), (C 8, some [("value", h)]), (C 9, some [("value", h)]), (C 10, some [("value", h)]), (C 11, some [("value", h)])] := er_snoc E S1 ⟨a11, d11, rfl, p11, q11⟩
    have S := Same.trans S S1
    have hr0 := S1 _ _ hr0
    walk_at "rd"
    refine g_new1 ?_
    walk_at "rd"
    refine ⟨_, rfl, fun a12 d12 G12 _ S1 p12 q12 => ?_⟩
    have E : Ers G12 [V.ref a0, V.ref a1, V.ref a2, V.ref a3, V.ref a4, V.ref a5, V.ref a6, V.ref a7, V.ref a8, V.ref a9, V.ref a10, V.ref a11, V.ref a12] [(C 0, some [("value", h)]), (C 1, some [("field", h)]), (C 2, some [("number", h)]), (C 3, some [("number", h)]), (C 4, some [("place", .str "other"), ("service", h)]), (C 5, some [("line", h)]), (C 6, some [("value", h)]), (C 7, some [("path", h)]), (C 8, some [("value", h)]), (C 9, some [("value", h)]), (C 10, some [("value", h)]), (C 11, some [("value", h)]), (C 12, some [("field", h)])] := er_snoc E S1 ⟨a12, d12, rfl, p12, q12⟩
    have S := Same.trans S S1
    have hr0 := S1 _ _ hr0
    walk_at "rd"
    refine g_new1 ?_
    walk_at "rd"
    refine ⟨_, rfl, fun a13 d13 G13 _ S1 p13 q13 => ?_⟩
    have E : Ers G13 [V.ref a0, V.ref a1, V.ref a2, V.ref a3, V.ref a4, V.ref a5, V.ref a6, V.ref a7, V.ref a8, V.ref a9, V.ref a10, V.ref a11, V.ref a12, V.ref a13] [(C 0, some [("value", h)]), (C 1, some [("field", h)]), (C 2, some [("number", h)]), (C 3, some [("number", h)]), (C 4, some [("place", .str "other"), ("service", h)]), (C 5, some [("line", h)]), (C 6, some [("value", h)]), (C 7, some [("path", h)]), (C 8, some [("value", h)]), (C 9, some [("value", h)]), (C 10, some [("value", h)]), (C 11, some [("value", h)]), (C 12, some [("field", h)]), (C 13, some [("value", h)])] := er_snoc E S1 ⟨a13, d13, rfl, p13, q13⟩
    have S := Same.trans S S1
    have hr0 := S1 _ _ hr0
    walk_at "rd"
    refine g_new1 ?_
    walk_at "rd"
    refine ⟨_, rfl, fun a14 d14 G14 _ S1 p14 q14 => ?_⟩
    have E : Ers G14 [V.ref a0, V.ref a1, V.ref a2, V.ref a3, V.ref a4, V.ref a5, V.ref a6, V.ref a7, V.ref a8, V.ref a9, V.ref a10, V.ref a11, V.ref a12, V.ref a13, V.ref a14] [(C 0, some [("value", h)]), (C 1, some [("field", h)]), (C 2, some [("number", h)]), (C 3, some [("number", h)]), (C 4, some [("place", .str "other"), ("service", h)]), (C 5, some [("line", h)]), (C 6, some [("value", h)]), (C 7, some [("path", h)]), (C 8, some [("value", h)]), (C 9, some [("value", h)]), (C 10, some [("value", h)]), (C 11, some [("value", h)]), (C 12, some [("field", h)]), (C 13, some [("value", h)]), (C 14, some [("value", h)])] := er_snoc E S1 ⟨a14, d14, rfl, p14, q14⟩
    have S := Same.trans S S1
    have hr0 := S1 _ _ hr0
    walk_at "rd"
    refine lst_go ?hl fun l2 J2 _ S1 hl2 => ?_
    case hl => exact Nat.le_of_ble_eq_true rfl
    have E := E.ext S1
    have S := Same.trans S S1
    have hr0 := S1 _ _ hr0
    refine cat_go hr0 hl2 (Nat.le_of_ble_eq_true rfl) fun c2 L2 _ S1 hr0 => ?_
    have hr0 : L2 c2 = some (.lst [V.ref a0, V.ref a1, V.ref a2, V.ref a3, V.ref a4, V.ref a5, V.ref a6, V.ref a7, V.ref a8, V.ref a9, V.ref a10, V.ref a11, V.ref a12, V.ref a13, V.ref a14]) := hr0
    have E := E.ext S1
    have S := Same.trans S S1
    walk_at "rd"
    refine g_new1 ?_
    walk_at "rd"
    refine ⟨_, rfl, fun a15 d15 G15 _ S1 p15 q15 => ?_⟩
    have E : Ers G15 [V.ref a0, V.ref a1, V.ref a2, V.ref a3, V.ref a4, V.ref a5, V.ref a6, V.ref a7, V.ref a8, V.ref a9, V.ref a10, V.ref a11, V.ref a12, V.ref a13, V.ref a14, V.ref a15] [(C 0, some [("value", h)]), (C 1, some [("field", h)]), (C 2, some [("number", h)]), (C 3, some [("number", h)]), (C 4, some [("place", .str "other"), ("service", h)]), (C 5, some [("line", h)]), (C 6, some [("value", h)]), (C 7, some [("path", h)]), (C 8, some [("value", h)]), (C 9, some [("value", h)]), (C 10, some [("value", h)]), (C 11, some [("value", h)]), (C 12, some [("field", h)]), (C 13, some [("value", h)]), (C 14, some [("value", h)]), (C 15, some [("field", h)])] := er_snoc E S1 ⟨a15, d15, rfl, p15, q15⟩
    have S := Same.trans S S1
    have hr0 := S1 _ _ hr0
    walk_at "rd"
    refine g_new1 ?_
    walk_at "rd"
    refine ⟨_, rfl, fun a16 d16 G16 _ S1 p16 q16 => ?_⟩
    have E : Ers G16 [V.ref a0, V.ref a1, V.ref a2, V.ref a3, V.ref a4, V.ref a5, V.ref a6, V.ref a7, V.ref a8, V.ref a9, V.ref a10, V.ref a11, V.ref a12, V.ref a13, V.ref a14, V.ref a15, V.ref a16] [(C 0, some [("value", h)]), (C 1, some [("field", h)]), (C 2, some [("number", h)]), (C 3, some [("number", h)]), (C 4, some [("place", .str "other"), ("service", h)]), (C 5, some [("line", h)]), (C 6, some [("value", h)]), (C 7, some [("path", h)]), (C 8, some [("value", h)]), (C 9, some [("value", h)]), (C 10, some [("value", h)]), (C 11, some [("value", h)]), (C 12, some [("field", h)]), (C 13, some [("value", h)]), (C 14, some [("value", h)]), (C 15, some [("field", h)]), (C 16, some [("number", h)])] := er_snoc E S1 ⟨a16, d16, rfl, p16, q16⟩
    have S := Same.trans S S1
    have hr0 := S1 _ _ hr0
    walk_at "rd"
    refine g_new1 ?_
    walk_at "rd"
    refine ⟨_, rfl, fun a17 d17 G17 _ S1 p17 q17 => ?_⟩
    have E : Ers G17 [V.ref a0, V.ref a1, V.ref a2, V.ref a3, V.ref a4, V.ref a5, V.ref a6, V.ref a7, V.ref a8, V.ref a9, V.ref a10, V.ref a11, V.ref a12, V.ref a13, V.ref a14, V.ref a15, V.ref a16, V.ref a17] [(C 0, some [("value", h)]), (C 1, some [("field", h)]), (C 2, some [("number", h)]), (C 3, some [("number", h)]), (C 4, some [("place", .str "other"), ("service", h)]), (C 5, some [("line", h)]), (C 6, some [("value", h)]), (C 7, some [("path", h)]), (C 8, some [("value", h)]), (C 9, some [("value", h)]), (C 10, some [("value", h)]), (C 11, some [("value", h)]), (C 12, some [("field", h)]), (C 13, some [("value", h)]), (C 14, some [("value", h)]), (C 15, some [("field", h)]), (C 16, some [("number", h)]), (C 17, some [("number", h)])] := er_snoc E S1 ⟨a17, d17, rfl, p17, q17⟩
    have S := Same.trans S S1
    have hr0 := S1 _ _ hr0
    walk_at "rd"
    refine g_new1 ?_
    walk_at "rd"
    refine ⟨_, rfl, fun a18 d18 G18 _ S1 p18 q18 => ?_⟩
    have E : Ers G18 [V.ref a0, V.ref a1, V.ref a2, V.ref a3, V.ref a4, V.ref a5, V.ref a6, V.ref a7, V.ref a8, V.ref a9, V.ref a10, V.ref a11, V.ref a12, V.ref a13, V.ref a14, V.ref a15, V.ref a16, V.ref a17, V.ref a18] [(C 0, some [("value", h)]), (C 1, some [("field", h)]), (C 2, some [("number", h)]), (C 3, some [("number", h)]), (C 4, some [("place", .str "other"), ("service", h)]), (C 5, some [("line", h)]), (C 6, some [("value", h)]), (C 7, some [("path", h)]), (C 8, some [("value", h)]), (C 9, some [("value", h)]), (C 10, some [("value", h)]), (C 11, some [("value", h)]), (C 12, some [("field", h)]), (C 13, some [("value", h)]), (C 14, some [("value", h)]), (C 15, some [("field", h)]), (C 16, some [("number", h)]), (C 17, some [("number", h)]), (C 18, some [("word", h)])] := er_snoc E S1 ⟨a18, d18, rfl, p18, q18⟩
    have S := Same.trans S S1
    have hr0 := S1 _ _ hr0
    walk_at "rd"
    refine g_new1 ?_
    walk_at "rd"
    refine ⟨_, rfl, fun a19 d19 G19 _ S1 p19 q19 => ?_⟩
    have E : Ers G19 [V.ref a0, V.ref a1, V.ref a2, V.ref a3, V.ref a4, V.ref a5, V.ref a6, V.ref a7, V.ref a8, V.ref a9, V.ref a10, V.ref a11, V.ref a12, V.ref a13, V.ref a14, V.ref a15, V.ref a16, V.ref a17, V.ref a18, V.ref a19] [(C 0, some [("value", h)]), (C 1, some [("field", h)]), (C 2, some [("number", h)]), (C 3, some [("number", h)]), (C 4, some [("place", .str "other"), ("service", h)]), (C 5, some [("line", h)]), (C 6, some [("value", h)]), (C 7, some [("path", h)]), (C 8, some [("value", h)]), (C 9, some [("value", h)]), (C 10, some [("value", h)]), (C 11, some [("value", h)]), (C 12, some [("field", h)]), (C 13, some [("value", h)]), (C 14, some [("value", h)]), (C 15, some [("field", h)]), (C 16, some [("number", h)]), (C 17, some [("number", h)]), (C 18, some [("word", h)]), (C 19, some [("word", h)])] := er_snoc E S1 ⟨a19, d19, rfl, p19, q19⟩
    have S := Same.trans S S1
    have hr0 := S1 _ _ hr0
    walk_at "rd"
    refine lst_go ?hl fun l3 J3 _ S1 hl3 => ?_
    case hl => exact Nat.le_of_ble_eq_true rfl
    have E := E.ext S1
    have S := Same.trans S S1
    have hr0 := S1 _ _ hr0
    refine cat_go hr0 hl3 (Nat.le_of_ble_eq_true rfl) fun c3 L3 _ S1 hr0 => ?_
    have hr0 : L3 c3 = some (.lst [V.ref a0, V.ref a1, V.ref a2, V.ref a3, V.ref a4, V.ref a5, V.ref a6, V.ref a7, V.ref a8, V.ref a9, V.ref a10, V.ref a11, V.ref a12, V.ref a13, V.ref a14, V.ref a15, V.ref a16, V.ref a17, V.ref a18, V.ref a19]) := hr0
    have E := E.ext S1
    have S := Same.trans S S1
    walk_at "rd"
    refine g_new1 ?_
    walk_at "rd"
    refine ⟨_, rfl, fun a20 d20 G20 _ S1 p20 q20 => ?_⟩
    have E : Ers G20 [V.ref a0, V.ref a1, V.ref a2, V.ref a3, V.ref a4, V.ref a5, V.ref a6, V.ref a7, V.ref a8, V.ref a9, V.ref a10, V.ref a11, V.ref a12, V.ref a13, V.ref a14, V.ref a15, V.ref a16, V.ref a17, V.ref a18, V.ref a19, V.ref a20] [(C 0, some [("value", h)]), (C 1, some [("field", h)]), (C 2, some [("number", h)]), (C 3, some [("number", h)]), (C 4, some [("place", .str "other"), ("service", h)]), (C 5, some [("line", h)]), (C 6, some [("value", h)]), (C 7, some [("path", h)]), (C 8, some [("value", h)]), (C 9, some [("value", h)]), (C 10, some [("value", h)]), (C 11, some [("value", h)]), (C 12, some [("field", h)]), (C 13, some [("value", h)]), (C 14, some [("value", h)]), (C 15, some [("field", h)]), (C 16, some [("number", h)]), (C 17, some [("number", h)]), (C 18, some [("word", h)]), (C 19, some [("word", h)]), (C 20, some [("value", h)])] := er_snoc E S1 ⟨a20, d20, rfl, p20, q20⟩
    have S := Same.trans S S1
    have hr0 := S1 _ _ hr0
    walk_at "rd"
    refine g_new1 ?_
    walk_at "rd"
    refine ⟨_, rfl, fun a21 d21 G21 _ S1 p21 q21 => ?_⟩
    have E : Ers G21 [V.ref a0, V.ref a1, V.ref a2, V.ref a3, V.ref a4, V.ref a5, V.ref a6, V.ref a7, V.ref a8, V.ref a9, V.ref a10, V.ref a11, V.ref a12, V.ref a13, V.ref a14, V.ref a15, V.ref a16, V.ref a17, V.ref a18, V.ref a19, V.ref a20, V.ref a21] [(C 0, some [("value", h)]), (C 1, some [("field", h)]), (C 2, some [("number", h)]), (C 3, some [("number", h)]), (C 4, some [("place", .str "other"), ("service", h)]), (C 5, some [("line", h)]), (C 6, some [("value", h)]), (C 7, some [("path", h)]), (C 8, some [("value", h)]), (C 9, some [("value", h)]), (C 10, some [("value", h)]), (C 11, some [("value", h)]), (C 12, some [("field", h)]), (C 13, some [("value", h)]), (C 14, some [("value", h)]), (C 15, some [("field", h)]), (C 16, some [("number", h)]), (C 17, some [("number", h)]), (C 18, some [("word", h)]), (C 19, some [("word", h)]), (C 20, some [("value", h)]), (C 21, some [("service", h)])] := er_snoc E S1 ⟨a21, d21, rfl, p21, q21⟩
    have S := Same.trans S S1
    have hr0 := S1 _ _ hr0
    walk_at "rd"
    refine g_new1 ?_
    walk_at "rd"
    refine ⟨_, rfl, fun a22 d22 G22 _ S1 p22 q22 => ?_⟩
    have E : Ers G22 [V.ref a0, V.ref a1, V.ref a2, V.ref a3, V.ref a4, V.ref a5, V.ref a6, V.ref a7, V.ref a8, V.ref a9, V.ref a10, V.ref a11, V.ref a12, V.ref a13, V.ref a14, V.ref a15, V.ref a16, V.ref a17, V.ref a18, V.ref a19, V.ref a20, V.ref a21, V.ref a22] [(C 0, some [("value", h)]), (C 1, some [("field", h)]), (C 2, some [("number", h)]), (C 3, some [("number", h)]), (C 4, some [("place", .str "other"), ("service", h)]), (C 5, some [("line", h)]), (C 6, some [("value", h)]), (C 7, some [("path", h)]), (C 8, some [("value", h)]), (C 9, some [("value", h)]), (C 10, some [("value", h)]), (C 11, some [("value", h)]), (C 12, some [("field", h)]), (C 13, some [("value", h)]), (C 14, some [("value", h)]), (C 15, some [("field", h)]), (C 16, some [("number", h)]), (C 17, some [("number", h)]), (C 18, some [("word", h)]), (C 19, some [("word", h)]), (C 20, some [("value", h)]), (C 21, some [("service", h)]), (C 22, some [("most", h)])] := er_snoc E S1 ⟨a22, d22, rfl, p22, q22⟩
    have S := Same.trans S S1
    have hr0 := S1 _ _ hr0
    walk_at "rd"
    refine new0_go fun a23 G23 S1 p23 => ?_
    have E : Ers G23 [V.ref a0, V.ref a1, V.ref a2, V.ref a3, V.ref a4, V.ref a5, V.ref a6, V.ref a7, V.ref a8, V.ref a9, V.ref a10, V.ref a11, V.ref a12, V.ref a13, V.ref a14, V.ref a15, V.ref a16, V.ref a17, V.ref a18, V.ref a19, V.ref a20, V.ref a21, V.ref a22, V.ref a23] [(C 0, some [("value", h)]), (C 1, some [("field", h)]), (C 2, some [("number", h)]), (C 3, some [("number", h)]), (C 4, some [("place", .str "other"), ("service", h)]), (C 5, some [("line", h)]), (C 6, some [("value", h)]), (C 7, some [("path", h)]), (C 8, some [("value", h)]), (C 9, some [("value", h)]), (C 10, some [("value", h)]), (C 11, some [("value", h)]), (C 12, some [("field", h)]), (C 13, some [("value", h)]), (C 14, some [("value", h)]), (C 15, some [("field", h)]), (C 16, some [("number", h)]), (C 17, some [("number", h)]), (C 18, some [("word", h)]), (C 19, some [("word", h)]), (C 20, some [("value", h)]), (C 21, some [("service", h)]), (C 22, some [("most", h)]), (C 23, none)] := er_snoc E S1 ⟨a23, rfl, p23⟩
    have S := Same.trans S S1
    have hr0 := S1 _ _ hr0
    walk_at "rd"
    refine new0_go fun a24 G24 S1 p24 => ?_
    have E : Ers G24 [V.ref a0, V.ref a1, V.ref a2, V.ref a3, V.ref a4, V.ref a5, V.ref a6, V.ref a7, V.ref a8, V.ref a9, V.ref a10, V.ref a11, V.ref a12, V.ref a13, V.ref a14, V.ref a15, V.ref a16, V.ref a17, V.ref a18, V.ref a19, V.ref a20, V.ref a21, V.ref a22, V.ref a23, V.ref a24] [(C 0, some [("value", h)]), (C 1, some [("field", h)]), (C 2, some [("number", h)]), (C 3, some [("number", h)]), (C 4, some [("place", .str "other"), ("service", h)]), (C 5, some [("line", h)]), (C 6, some [("value", h)]), (C 7, some [("path", h)]), (C 8, some [("value", h)]), (C 9, some [("value", h)]), (C 10, some [("value", h)]), (C 11, some [("value", h)]), (C 12, some [("field", h)]), (C 13, some [("value", h)]), (C 14, some [("value", h)]), (C 15, some [("field", h)]), (C 16, some [("number", h)]), (C 17, some [("number", h)]), (C 18, some [("word", h)]), (C 19, some [("word", h)]), (C 20, some [("value", h)]), (C 21, some [("service", h)]), (C 22, some [("most", h)]), (C 23, none), (C 24, none)] := er_snoc E S1 ⟨a24, rfl, p24⟩
    have S := Same.trans S S1
    have hr0 := S1 _ _ hr0
    walk_at "rd"
    refine lst_go ?hl fun l4 J4 _ S1 hl4 => ?_
    case hl => exact Nat.le_of_ble_eq_true rfl
    have E := E.ext S1
    have S := Same.trans S S1
    have hr0 := S1 _ _ hr0
    refine cat_go hr0 hl4 (Nat.le_of_ble_eq_true rfl) fun c4 L4 _ S1 hr0 => ?_
    have hr0 : L4 c4 = some (.lst [V.ref a0, V.ref a1, V.ref a2, V.ref a3, V.ref a4, V.ref a5, V.ref a6, V.ref a7, V.ref a8, V.ref a9, V.ref a10, V.ref a11, V.ref a12, V.ref a13, V.ref a14, V.ref a15, V.ref a16, V.ref a17, V.ref a18, V.ref a19, V.ref a20, V.ref a21, V.ref a22, V.ref a23, V.ref a24]) := hr0
    have E := E.ext S1
    have S := Same.trans S S1
    walk_at "rd"
    refine new0_go fun a25 G25 S1 p25 => ?_
    have E : Ers G25 [V.ref a0, V.ref a1, V.ref a2, V.ref a3, V.ref a4, V.ref a5, V.ref a6, V.ref a7, V.ref a8, V.ref a9, V.ref a10, V.ref a11, V.ref a12, V.ref a13, V.ref a14, V.ref a15, V.ref a16, V.ref a17, V.ref a18, V.ref a19, V.ref a20, V.ref a21, V.ref a22, V.ref a23, V.ref a24, V.ref a25] [(C 0, some [("value", h)]), (C 1, some [("field", h)]), (C 2, some [("number", h)]), (C 3, some [("number", h)]), (C 4, some [("place", .str "other"), ("service", h)]), (C 5, some [("line", h)]), (C 6, some [("value", h)]), (C 7, some [("path", h)]), (C 8, some [("value", h)]), (C 9, some [("value", h)]), (C 10, some [("value", h)]), (C 11, some [("value", h)]), (C 12, some [("field", h)]), (C 13, some [("value", h)]), (C 14, some [("value", h)]), (C 15, some [("field", h)]), (C 16, some [("number", h)]), (C 17, some [("number", h)]), (C 18, some [("word", h)]), (C 19, some [("word", h)]), (C 20, some [("value", h)]), (C 21, some [("service", h)]), (C 22, some [("most", h)]), (C 23, none), (C 24, none), (C 25, none)] := er_snoc E S1 ⟨a25, rfl, p25⟩
    have S := Same.trans S S1
    have hr0 := S1 _ _ hr0
    walk_at "rd"
    refine new0_go fun a26 G26 S1 p26 => ?_
    have E : Ers G26 [V.ref a0, V.ref a1, V.ref a2, V.ref a3, V.ref a4, V.ref a5, V.ref a6, V.ref a7, V.ref a8, V.ref a9, V.ref a10, V.ref a11, V.ref a12, V.ref a13, V.ref a14, V.ref a15, V.ref a16, V.ref a17, V.ref a18, V.ref a19, V.ref a20, V.ref a21, V.ref a22, V.ref a23, V.ref a24, V.ref a25, V.ref a26] [(C 0, some [("value", h)]), (C 1, some [("field", h)]), (C 2, some [("number", h)]), (C 3, some [("number", h)]), (C 4, some [("place", .str "other"), ("service", h)]), (C 5, some [("line", h)]), (C 6, some [("value", h)]), (C 7, some [("path", h)]), (C 8, some [("value", h)]), (C 9, some [("value", h)]), (C 10, some [("value", h)]), (C 11, some [("value", h)]), (C 12, some [("field", h)]), (C 13, some [("value", h)]), (C 14, some [("value", h)]), (C 15, some [("field", h)]), (C 16, some [("number", h)]), (C 17, some [("number", h)]), (C 18, some [("word", h)]), (C 19, some [("word", h)]), (C 20, some [("value", h)]), (C 21, some [("service", h)]), (C 22, some [("most", h)]), (C 23, none), (C 24, none), (C 25, none), (C 26, none)] := er_snoc E S1 ⟨a26, rfl, p26⟩
    have S := Same.trans S S1
    have hr0 := S1 _ _ hr0
    walk_at "rd"
    refine lst_go ?hl fun l5 J5 _ S1 hl5 => ?_
    case hl => exact Nat.le_of_ble_eq_true rfl
    have E := E.ext S1
    have S := Same.trans S S1
    have hr0 := S1 _ _ hr0
    refine cat_go hr0 hl5 (Nat.le_of_ble_eq_true rfl) fun c5 L5 _ S1 hr0 => ?_
    have hr0 : L5 c5 = some (.lst [V.ref a0, V.ref a1, V.ref a2, V.ref a3, V.ref a4, V.ref a5, V.ref a6, V.ref a7, V.ref a8, V.ref a9, V.ref a10, V.ref a11, V.ref a12, V.ref a13, V.ref a14, V.ref a15, V.ref a16, V.ref a17, V.ref a18, V.ref a19, V.ref a20, V.ref a21, V.ref a22, V.ref a23, V.ref a24, V.ref a25, V.ref a26]) := hr0
    have E := E.ext S1
    have S := Same.trans S S1
    walk_at "rd"
    exact q _ _ _ S hr0 E
end
end K1

namespace K1
open PySem PySem.Spec PyProof.Rows L2 Mc Mx
section
variable {P : Program} {w : World} {K : PySem.W.Frag} {mg : Str → Option Value} {base : Heap} {C : Nat → Addr}
local macro_rules | `(tactic| walk_at "rd1") => `(tactic| first
  | with_reducible refine g_seq ?_
  | with_reducible refine g_asg ?_
  | with_reducible refine g_name ?_
  | with_reducible refine g_c ?_
  | with_reducible refine g_op ?_
  | with_reducible refine g_ifS ?_
  | with_reducible refine g_if ?_
  | with_reducible refine g_test ?_
  | with_reducible refine g_B ?_
  | with_reducible refine g_bl ?_
  | with_reducible refine g_blV ?_
  | with_reducible refine g_not ?_
  | with_reducible refine g_and ?_
  | with_reducible refine g_or ?_
  | with_reducible refine g_notV ?_
  | with_reducible refine g_andV ?_
  | with_reducible refine g_orV ?_
  | with_reducible refine g_ret ?_
  | with_reducible refine g_drop ?_
  | with_reducible refine g_next ?_
  | with_reducible refine g_retN ?_
  | with_reducible refine g_call ?_
  | with_reducible refine g_cb ?_
  | with_reducible refine g_cons ?_
  | with_reducible refine g_nil ?_
  | with_reducible refine g_tup ?_
  | with_reducible refine g_lst ?_
  | with_reducible refine g_prop ?_
  | with_reducible refine g_fld ?_
  | with_reducible refine g_meth ?_
  | with_reducible refine g_chain ?_
  | with_reducible refine g_yes ?_
  | with_reducible refine g_make ?_
  | with_reducible refine g_makeK ?_
  | with_reducible refine g_gsub ?_
  | with_reducible refine g_sfld ?_
  | with_reducible refine g_un ?_
  | with_reducible refine g_bm ?_
  | with_reducible refine g_iteT ?_
  | with_reducible refine g_iteF ?_
  | with_reducible refine g_I0 ?_
  | with_reducible refine g_add ?_
  | with_reducible refine g_sub ?_
  | ((with_reducible refine' g_var ?hv ?_); (case hv => rfl))
  | ((with_reducible refine g_eq ?hv ?_); (case hv => rfl))
  | ((with_reducible refine g_ne ?hv ?_); (case hv => rfl)))
local macro_rules | `(tactic| walk_at "rd") => `(tactic| repeat (walk_at "rd1"))

local macro_rules | `(tactic| walk_at "ty") => `(tactic| first | exact .non | exact .bl _ | exact .int _ | exact .str _ | exact .lst (by assumption) | exact .tup (by assumption) | exact .dK (by assumption) | exact .kTup (by assumption) (by assumption))
local macro_rules | `(tactic| walk_at "isiF") => `(tactic| refine g_isi (by walk_at "ty") (b := false) (by decide +kernel) ?_)
local macro_rules | `(tactic| walk_at "isiT") => `(tactic| refine g_isi (by walk_at "ty") (b := true) (by decide +kernel) ?_)

theorem g_exA {f : Str} {te : TE} {σ : L2.St} {H : Hp} {Q : VK} (q : te σ H fun x H1 => ∃ (a C d : Addr) (fs : List (Str × V)) (v : V), x = .ref a ∧ H1 a = some (exo a C (some d)) ∧ H1 d = some (exd d fs) ∧ XfC K C ∧ PySem.W.findIn K (.ref C) f = some none ∧ fs.lookup f = some v ∧ Q v H1) : tExA K f te σ H Q := q
def spFlds (C : Nat → Addr) : Sp := fun vs H Q _ => ∃ (r : Addr) (xs : List V) (h : V), vs = [.ref r] ∧ H r = some (.lst xs) ∧ Ers H xs (specs C h) ∧ ∀ r' H', Same H H' → H' r' = some (.lst (List.replicate 23 h)) → Q (.ref r') H'
theorem ok_fields (D : Def K mg "_law_fields" s_law_fields ["_law_made_here"]) (B : AllK K C) : Cal P w K mg base 3 "_law_fields" (spFlds C) := by
  refine cal_of D sc_law_fields (fun vs H Q E h => ?_) (fun f cdv A' outer s H vs Q E hr h => ?_)
  · obtain ⟨r, xs, h, rfl, _⟩ := h
    rfl
  · obtain ⟨r, xs, h, rfl, hr0, E, q⟩ := h
    refine ⟨_, (pss_cons (ps_set (i := 1) sc_law_fields.nd rfl (Or.inl rfl) (pe_lst (pa_cons (pe_exA (K := K) rfl (pe_ix ix_list (pv 0) pe_int (fun _ _ => rfl))) (pa_cons (pe_exA (K := K) rfl (pe_ix ix_list (pv 0) pe_int (fun _ _ => rfl))) (pa_cons (pe_exA (K := K) rfl (pe_ix ix_list (pv 0) pe_int (fun _ _ => rfl))) (pa_cons (pe_exA (K := K) rfl (pe_ix ix_list (pv 0) pe_int (fun _ _ => rfl))) (pa_cons (pe_exA (K := K) rfl (pe_ix ix_list (pv 0) pe_int (fun _ _ => rfl))) (pa_cons (pe_exA (K := K) rfl (pe_ix ix_list (pv 0) pe_int (fun _ _ => rfl))) pa_nil))))))))
      (pss_cons (ps_set (i := 1) sc_law_fields.nd rfl (Or.inl rfl) (pe_op op_cat (pv 1) (pe_lst (pa_cons (pe_exA (K := K) rfl (pe_ix ix_list (pv 0) pe_int (fun _ _ => rfl))) (pa_cons (pe_exA (K := K) rfl (pe_ix ix_list (pv 0) pe_int (fun _ _ => rfl))) (pa_cons (pe_exA (K := K) rfl (pe_ix ix_list (pv 0) pe_int (fun _ _ => rfl))) (pa_cons (pe_exA (K := K) rfl (pe_ix ix_list (pv 0) pe_int (fun _ _ => rfl))) (pa_cons (pe_exA (K := K) rfl (pe_ix ix_list (pv 0) pe_int (fun _ _ => rfl))) (pa_cons (pe_exA (K := K) rfl (pe_ix ix_list (pv 0) pe_int (fun _ _ => rfl))) pa_nil)))))))))
      (pss_cons (ps_set (i := 1) sc_law_fields.nd rfl (Or.inl rfl) (pe_op op_cat (pv 1) (pe_lst (pa_cons (pe_exA (K := K) rfl (pe_ix ix_list (pv 0) pe_int (fun _ _ => rfl))) (pa_cons (pe_exA (K := K) rfl (pe_ix ix_list (pv 0) pe_int (fun _ _ => rfl))) (pa_cons (pe_exA (K := K) rfl (pe_ix ix_list (pv 0) pe_int (fun _ _ => rfl))) (pa_cons (pe_exA (K := K) rfl (pe_ix ix_list (pv 0) pe_int (fun _ _ => rfl))) (pa_cons (pe_exA (K := K) rfl (pe_ix ix_list (pv 0) pe_int (fun _ _ => rfl))) (pa_cons (pe_exA (K := K) rfl (pe_ix ix_list (pv 0) pe_int (fun _ _ => rfl))) pa_nil)))))))))
      (pss_cons (ps_set (i := 1) sc_law_fields.nd rfl (Or.inl rfl) (pe_op op_cat (pv 1) (pe_lst (pa_cons (pe_exA (K := K) rfl (pe_ix ix_list (pv 0) pe_int (fun _ _ => rfl))) (pa_cons (pe_exA (K := K) rfl (pe_ix ix_list (pv 0) pe_int (fun _ _ => rfl))) (pa_cons (pe_exA (K := K) rfl (pe_ix ix_list (pv 0) pe_int (fun _ _ => rfl))) (pa_cons (pe_exA (K := K) rfl (pe_ix ix_list (pv 0) pe_int (fun _ _ => rfl))) (pa_cons (pe_exA (K := K) rfl (pe_ix ix_list (pv 0) pe_int (fun _ _ => rfl))) pa_nil))))))))
      (pss_one (ps_ret (pv 1))))))), ?_⟩
    have S : Same H H := Same.refl H
    walk_at "rd"
    refine g_exA ?_
    walk_at "rd"
    obtain ⟨v0, hv0, a0, d0, rfl, p0, q0⟩ := er_get E (i := 0) (s := (C 0, some _)) rfl
    refine g_ixL (SqL.of hr0) (v := .ref a0) (atI_nat (j := 0) hv0) ?_
    refine ⟨a0, C 0, d0, _, h, rfl, p0, q0, (B.ki 0 (by decide)).xf, B.nf0, rfl, ?_⟩
    walk_at "rd"
    refine g_exA ?_
    walk_at "rd"
    obtain ⟨v1, hv1, a1, d1, rfl, p1, q1⟩ := er_get E (i := 1) (s := (C 1, some _)) rfl
    refine g_ixL (SqL.of hr0) (v := .ref a1) (atI_nat (j := 1) hv1) ?_
    refine ⟨a1, C 1, d1, _, h, rfl, p1, q1, (B.ki 1 (by decide)).xf, B.nf1, rfl, ?_⟩
    walk_at "rd"
    refine g_exA ?_
    walk_at "rd"
    obtain ⟨v2, hv2, a2, d2, rfl, p2, q2⟩ := er_get E (i := 2) (s := (C 2, some _)) rfl
    refine g_ixL (SqL.of hr0) (v := .ref a2) (atI_nat (j := 2) hv2) ?_
    refine ⟨a2, C 2, d2, _, h, rfl, p2, q2, (B.ki 2 (by decide)).xf, B.nf2, rfl, ?_⟩
    walk_at "rd"
    refine g_exA ?_
    walk_at "rd"
    obtain ⟨v3, hv3, a3, d3, rfl, p3, q3⟩ := er_get E (i := 3) (s := (C 3, some _)) rfl
    refine g_ixL (SqL.of hr0) (v := .ref a3) (atI_nat (j := 3) hv3) ?_
    refine ⟨a3, C 3, d3, _, h, rfl, p3, q3, (B.ki 3 (by decide)).xf, B.nf3, rfl, ?_⟩
    walk_at "rd"
    refine g_exA ?_
    walk_at "rd"
    obtain ⟨v4, hv4, a4, d4, rfl, p4, q4⟩ := er_get E (i := 4) (s := (C 4, some _)) rfl
    refine g_ixL (SqL.of hr0) (v := .ref a4) (atI_nat (j := 4) hv4) ?_
    refine ⟨a4, C 4, d4, _, h, rfl, p4, q4, (B.ki 4 (by decide)).xf, B.nf4, rfl, ?_⟩
    walk_at "rd"
    refine g_exA ?_
    walk_at "rd"
    obtain ⟨v5, hv5, a5, d5, rfl, p5, q5⟩ := er_get E (i := 5) (s := (C 5, some _)) rfl
    refine g_ixL (SqL.of hr0) (v := .ref a5) (atI_nat (j := 5) hv5) ?_
    refine ⟨a5, C 5, d5, _, h, rfl, p5, q5, (B.ki 5 (by decide)).xf, B.nf5, rfl, ?_⟩
    walk_at "rd"
    refine lst_go ?hl fun l0 J0 _ S1 hl0 => ?_
    case hl => exact Nat.le_of_ble_eq_true rfl
    have E := E.ext S1
    have hr0 := S1 _ _ hr0
    have S := Same.trans S S1
    have hs := hl0
    walk_at "rd"
    refine g_exA ?_
    walk_at "rd"
    obtain ⟨v6, hv6, a6, d6, rfl, p6, q6⟩ := er_get E (i := 6) (s := (C 6, some _)) rfl
    refine g_ixL (SqL.of hr0) (v := .ref a6) (atI_nat (j := 6) hv6) ?_
    refine ⟨a6, C 6, d6, _, h, rfl, p6, q6, (B.ki 6 (by decide)).xf, B.nf6, rfl, ?_⟩
    walk_at "rd"
    refine g_exA ?_
    walk_at "rd"
    obtain ⟨v7, hv7, a7, d7, rfl, p7, q7⟩ := er_get E (i := 7) (s := (C 7, some _)) rfl
    refine g_ixL (SqL.of hr0) (v := .ref a7) (atI_nat (j := 7) hv7) ?_
    refine ⟨a7, C 7, d7, _, h, rfl, p7, q7, (B.ki 7 (by decide)).xf, B.nf7, rfl, ?_⟩
    walk_at "rd"
    refine g_exA ?_
    walk_at "rd"
    obtain ⟨v8, hv8, a8, d8, rfl, p8, q8⟩ := er_get E (i := 8) (s := (C 8, some _)) rfl
    refine g_ixL (SqL.of hr0) (v := .ref a8) (atI_nat (j := 8) hv8) ?_
    refine ⟨a8, C 8, d8, _, h, rfl, p8, q8, (B.ki 8 (by decide)).xf, B.nf8, rfl, ?_⟩
    walk_at "rd"
    refine g_exA ?_
    walk_at "rd"
    obtain ⟨v9, hv9, a9, d9, rfl, p9, q9⟩ := er_get E (i := 9) (s := (C 9, some _)) rfl
    refine g_ixL (SqL.of hr0) (v := .ref a9) (atI_nat (j := 9) hv9) ?_
    refine ⟨a9, C 9, d9, _, h, rfl, p9, q9, (B.ki 9 (by decide)).xf, B.nf9, rfl, ?_⟩
    walk_at "rd"
    refine g_exA ?_
    walk_at "rd"
    obtain ⟨v10, hv10, a10, d10, rfl, p10, q10⟩ := er_get E (i := 10) (s := (C 10, some _)) rfl
    refine g_ixL (SqL.of hr0) (v := .ref a10) (atI_nat (j := 10) hv10) ?_
    refine ⟨a10, C 10, d10, _, h, rfl, p10, q10, (B.ki 10 (by decide)).xf, B.nf10, rfl, ?_⟩
    walk_at "rd"
    refine g_exA ?_
    walk_at "rd"
    obtain ⟨v11, hv11, a11, d11, rfl, p11, q11⟩ := er_get E (i := 11) (s := (C 11, some _)) rfl
    refine g_ixL (SqL.of hr0) (v := .ref a11) (atI_nat (j := 11) hv11) ?_
    refine ⟨a11, C 11, d11, _, h, rfl, p11, q11, (B.ki 11 (by decide)).xf, B.nf11, rfl, ?_⟩
    walk_at "rd"
    refine lst_go ?hl fun l1 J1 _ S1 hl1 => ?_
    case hl => exact Nat.le_of_ble_eq_true rfl
    have E := E.ext S1
    have hr0 := S1 _ _ hr0
    have S := Same.trans S S1
    have hs := S1 _ _ hs
    refine cat_go hs hl1 (Nat.le_of_ble_eq_true rfl) fun c1 L1 _ S1 hs => ?_
    have hs : L1 c1 = some (.lst (List.replicate 12 h)) := hs
    have E := E.ext S1
    have hr0 := S1 _ _ hr0
    have S := Same.trans S S1
    walk_at "rd"
    refine g_exA ?_
    walk_at "rd"
    obtain ⟨v12, hv12, a12, d12, rfl, p12, q12⟩ := er_get E (i := 12) (s := (C 12, some _)) rfl
    refine g_ixL (SqL.of hr0) (v := .ref a12) (atI_nat (j := 12) hv12) ?_
    refine ⟨a12, C 12, d12, _, h, rfl, p12, q12, (B.ki 12 (by decide)).xf, B.nf12, rfl, ?_⟩
    walk_at "rd"
    refine g_exA ?_
    walk_at "rd"
    obtain ⟨v13, hv13, a13, d13, rfl, p13, q13⟩ := er_get E (i := 13) (s := (C 13, some _)) rfl
    refine g_ixL (SqL.of hr0) (v := .ref a13) (atI_nat (j := 13) hv13) ?_
    refine ⟨a13, C 13, d13, _, h, rfl, p13, q13, (B.ki 13 (by decide)).xf, B.nf13, rfl, ?_⟩
    walk_at "rd"
    refine g_exA ?_
    walk_at "rd"
    obtain ⟨v14, hv14, a14, d14, rfl, p14, q14⟩ := er_get E (i := 14) (s := (C 14, some _)) rfl
    refine g_ixL (SqL.of hr0) (v := .ref a14) (atI_nat (j := 14) hv14) ?_
    refine ⟨a14, C 14, d14, _, h, rfl, p14, q14, (B.ki 14 (by decide)).xf, B.nf14, rfl, ?_⟩
    walk_at "rd"
    refine g_exA ?_
    walk_at "rd"
    obtain ⟨v15, hv15, a15, d15, rfl, p15, q15⟩ := er_get E (i := 15) (s := (C 15, some _)) rfl
    refine g_ixL (SqL.of hr0) (v := .ref a15) (atI_nat (j := 15) hv15) ?_
    refine ⟨a15, C 15, d15, _, h, rfl, p15, q15, (B.ki 15 (by decide)).xf, B.nf15, rfl, ?_⟩
    walk_at "rd"
    refine g_exA ?_
    walk_at "rd"
    obtain ⟨v16, hv16, a16, d16, rfl, p16, q16⟩ := er_get E (i := 16) (s := (C 16, some _)) rfl
    refine g_ixL (SqL.of hr0) (v := .ref a16) (atI_nat (j := 16) hv16) ?_
    refine ⟨a16, C 16, d16, _, h, rfl, p16, q16, (B.ki 16 (by decide)).xf, B.nf16, rfl, ?_⟩
    walk_at "rd"
    refine g_exA ?_
    walk_at "rd"
    obtain ⟨v17, hv17, a17, d17, rfl, p17, q17⟩ := er_get E (i := 17) (s := (C 17, some _)) rfl
    refine g_ixL (SqL.of hr0) (v := .ref a17) (atI_nat (j := 17) hv17) ?_
    refine ⟨a17, C 17, d17, _, h, rfl, p17, q17, (B.ki 17 (by decide)).xf, B.nf17, rfl, ?_⟩
    walk_at "rd"
    refine lst_go ?hl fun l2 J2 _ S1 hl2 => ?_
    case hl => exact Nat.le_of_ble_eq_true rfl
    have E := E.ext S1
    have hr0 := S1 _ _ hr0
    have S := Same.trans S S1
    have hs := S1 _ _ hs
    refine cat_go hs hl2 (Nat.le_of_ble_eq_true rfl) fun c2 L2 _ S1 hs => ?_
    have hs : L2 c2 = some (.lst (List.replicate 18 h)) := hs
    have E := E.ext S1
    have hr0 := S1 _ _ hr0
    have S := Same.trans S S1
    walk_at "rd"
    refine g_exA ?_
    walk_at "rd"
    obtain ⟨v18, hv18, a18, d18, rfl, p18, q18⟩ := er_get E (i := 18) (s := (C 18, some _)) rfl
    refine g_ixL (SqL.of hr0) (v := .ref a18) (atI_nat (j := 18) hv18) ?_
    refine ⟨a18, C 18, d18, _, h, rfl, p18, q18, (B.ki 18 (by decide)).xf, B.nf18, rfl, ?_⟩
    walk_at "rd"
    refine g_exA ?_
    walk_at "rd"
    obtain ⟨v19, hv19, a19, d19, rfl, p19, q19⟩ := er_get E (i := 19) (s := (C 19, some _)) rfl
    refine g_ixL (SqL.of hr0) (v := .ref a19) (atI_nat (j := 19) hv19) ?_
    refine ⟨a19, C 19, d19, _, h, rfl, p19, q19, (B.ki 19 (by decide)).xf, B.nf19, rfl, ?_⟩
    walk_at "rd"
    refine g_exA ?_
    walk_at "rd"
    obtain ⟨v20, hv20, a20, d20, rfl, p20, q20⟩ := er_get E (i := 20) (s := (C 20, some _)) rfl
    refine g_ixL (SqL.of hr0) (v := .ref a20) (atI_nat (j := 20) hv20) ?_
    refine ⟨a20, C 20, d20, _, h, rfl, p20, q20, (B.ki 20 (by decide)).xf, B.nf20, rfl, ?_⟩
    walk_at "rd"
    refine g_exA ?_
    walk_at "rd"
    obtain ⟨v21, hv21, a21, d21, rfl, p21, q21⟩ := er_get E (i := 21) (s := (C 21, some _)) rfl
    refine g_ixL (SqL.of hr0) (v := .ref a21) (atI_nat (j := 21) hv21) ?_
    refine ⟨a21, C 21, d21, _, h, rfl, p21, q21, (B.ki 21 (by decide)).xf, B.nf21, rfl, ?_⟩
    walk_at "rd"
    refine g_exA ?_
    walk_at "rd"
    obtain ⟨v22, hv22, a22, d22, rfl, p22, q22⟩ := er_get E (i := 22) (s := (C 22, some _)) rfl
    refine g_ixL (SqL.of hr0) (v := .ref a22) (atI_nat (j := 22) hv22) ?_
    refine ⟨a22, C 22, d22, _, h, rfl, p22, q22, (B.ki 22 (by decide)).xf, B.nf22, rfl, ?_⟩
    walk_at "rd"
    refine lst_go ?hl fun l3 J3 _ S1 hl3 => ?_
    case hl => exact Nat.le_of_ble_eq_true rfl
    have E := E.ext S1
    have hr0 := S1 _ _ hr0
    have S := Same.trans S S1
    have hs := S1 _ _ hs
    refine cat_go hs hl3 (Nat.le_of_ble_eq_true rfl) fun c3 L3 _ S1 hs => ?_
    have hs : L3 c3 = some (.lst (List.replicate 23 h)) := hs
    have E := E.ext S1
    have hr0 := S1 _ _ hr0
    have S := Same.trans S S1
    walk_at "rd"
    exact q _ _ S hs
def KindAt (C : Nat → Addr) (H : Hp) (v : V) (i : Nat) : Prop := i < 27 ∧ ∃ a d, v = .ref a ∧ H a = some (exo a (C i) d) ∧ ∀ dd, d = some dd → ∃ fs, H dd = some (exd dd fs)
theorem KindAt.ext {H H' : Hp} {v : V} {i : Nat} (e : Same H H') (h : KindAt C H v i) : KindAt C H' v i := by
  obtain ⟨hi, a, d, ev, h1, h2⟩ := h
  exact ⟨hi, a, d, ev, e _ _ h1, fun dd hd => (h2 dd hd).elim fun fs q => ⟨fs, e _ _ q⟩⟩
theorem isi_go {H : Hp} {Q : VK} {v : V} {i j : Nat} (B : AllK K C) (k : KindAt C H v i) (hj : j < 27) (q : Q (.bl (decide (j = i))) H) : rIsiE K [v, .ref (C j)] H Q := by
  obtain ⟨hi, a, d, rfl, h1, h2⟩ := k
  exact ⟨a, C i, d, .ref (C j), .ref (C j), decide (j = i), rfl, h1, h2, B.ki i hi, .own _, B.kt i j hi hj, q⟩
def spKinds (C : Nat → Addr) : Sp := fun vs H Q _ => ∃ (v : V) (i : Nat), vs = [v] ∧ KindAt C H v i ∧ ∀ r H', Same H H' → H' r = some (.lst ((List.range 27).map fun j => .bl (decide (j = i)))) → Q (.ref r) H'
theorem ok_kinds (D : Def K mg "_law_kinds" s_law_kinds ["_law_one"]) (T : Txt mg) (A : AllE P w K mg base C) (B : AllK K C) : Cal P w K mg base 3 "_law_kinds" (spKinds C) := by
  refine cal_of D sc_law_kinds (fun vs H Q E h => ?_) (fun f cdv A' outer s H vs Q E hr h => ?_)
  · obtain ⟨v, i, rfl, _⟩ := h
    rfl
  · obtain ⟨v, i, rfl, kd, q⟩ := h
    refine ⟨_, (pss_cons (ps_set (i := 1) sc_law_kinds.nd rfl (Or.inl rfl) (pe_lst (pa_cons (pe_callB (call_isiE (K := K) rfl) (by rfl) T.n_isinstance (by decide +kernel) (pa_cons (pv 0) (pa_cons (pe_gx (v := .ref (C 0)) (by rfl) ⟨_, A.e0.gl, rfl⟩) pa_nil))) (pa_cons (pe_callB (call_isiE (K := K) rfl) (by rfl) T.n_isinstance (by decide +kernel) (pa_cons (pv 0) (pa_cons (pe_gx (v := .ref (C 1)) (by rfl) ⟨_, A.e1.gl, rfl⟩) pa_nil))) (pa_cons (pe_callB (call_isiE (K := K) rfl) (by rfl) T.n_isinstance (by decide +kernel) (pa_cons (pv 0) (pa_cons (pe_gx (v := .ref (C 2)) (by rfl) ⟨_, A.e2.gl, rfl⟩) pa_nil))) pa_nil)))))
      (pss_cons (ps_set (i := 1) sc_law_kinds.nd rfl (Or.inl rfl) (pe_op op_cat (pv 1) (pe_lst (pa_cons (pe_callB (call_isiE (K := K) rfl) (by rfl) T.n_isinstance (by decide +kernel) (pa_cons (pv 0) (pa_cons (pe_gx (v := .ref (C 3)) (by rfl) ⟨_, A.e3.gl, rfl⟩) pa_nil))) (pa_cons (pe_callB (call_isiE (K := K) rfl) (by rfl) T.n_isinstance (by decide +kernel) (pa_cons (pv 0) (pa_cons (pe_gx (v := .ref (C 4)) (by rfl) ⟨_, A.e4.gl, rfl⟩) pa_nil))) (pa_cons (pe_callB (call_isiE (K := K) rfl) (by rfl) T.n_isinstance (by decide +kernel) (pa_cons (pv 0) (pa_cons (pe_gx (v := .ref (C 5)) (by rfl) ⟨_, A.e5.gl, rfl⟩) pa_nil))) pa_nil))))))
      (pss_cons (ps_set (i := 1) sc_law_kinds.nd rfl (Or.inl rfl) (pe_op op_cat (pv 1) (pe_lst (pa_cons (pe_callB (call_isiE (K := K) rfl) (by rfl) T.n_isinstance (by decide +kernel) (pa_cons (pv 0) (pa_cons (pe_gx (v := .ref (C 6)) (by rfl) ⟨_, A.e6.gl, rfl⟩) pa_nil))) (pa_cons (pe_callB (call_isiE (K := K) rfl) (by rfl) T.n_isinstance (by decide +kernel) (pa_cons (pv 0) (pa_cons (pe_gx (v := .ref (C 7)) (by rfl) ⟨_, A.e7.gl, rfl⟩) pa_nil))) (pa_cons (pe_callB (call_isiE (K := K) rfl) (by rfl) T.n_isinstance (by decide +kernel) (pa_cons (pv 0) (pa_cons (pe_gx (v := .ref (C 8)) (by rfl) ⟨_, A.e8.gl, rfl⟩) pa_nil))) pa_nil))))))
      (pss_cons (ps_set (i := 1) sc_law_kinds.nd rfl (Or.inl rfl) (pe_op op_cat (pv 1) (pe_lst (pa_cons (pe_callB (call_isiE (K := K) rfl) (by rfl) T.n_isinstance (by decide +kernel) (pa_cons (pv 0) (pa_cons (pe_gx (v := .ref (C 9)) (by rfl) ⟨_, A.e9.gl, rfl⟩) pa_nil))) (pa_cons (pe_callB (call_isiE (K := K) rfl) (by rfl) T.n_isinstance (by decide +kernel) (pa_cons (pv 0) (pa_cons (pe_gx (v := .ref (C 10)) (by rfl) ⟨_, A.e10.gl, rfl⟩) pa_nil))) (pa_cons (pe_callB (call_isiE (K := K) rfl) (by rfl) T.n_isinstance (by decide +kernel) (pa_cons (pv 0) (pa_cons (pe_gx (v := .ref (C 11)) (by rfl) ⟨_, A.e11.gl, rfl⟩) pa_nil))) pa_nil))))))
      (pss_cons (ps_set (i := 1) sc_law_kinds.nd rfl (Or.inl rfl) (pe_op op_cat (pv 1) (pe_lst (pa_cons (pe_callB (call_isiE (K := K) rfl) (by rfl) T.n_isinstance (by decide +kernel) (pa_cons (pv 0) (pa_cons (pe_gx (v := .ref (C 12)) (by rfl) ⟨_, A.e12.gl, rfl⟩) pa_nil))) (pa_cons (pe_callB (call_isiE (K := K) rfl) (by rfl) T.n_isinstance (by decide +kernel) (pa_cons (pv 0) (pa_cons (pe_gx (v := .ref (C 13)) (by rfl) ⟨_, A.e13.gl, rfl⟩) pa_nil))) (pa_cons (pe_callB (call_isiE (K := K) rfl) (by rfl) T.n_isinstance (by decide +kernel) (pa_cons (pv 0) (pa_cons (pe_gx (v := .ref (C 14)) (by rfl) ⟨_, A.e14.gl, rfl⟩) pa_nil))) pa_nil))))))
      (pss_cons (ps_set (i := 1) sc_law_kinds.nd rfl (Or.inl rfl) (pe_op op_cat (pv 1) (pe_lst (pa_cons (pe_callB (call_isiE (K := K) rfl) (by rfl) T.n_isinstance (by decide +kernel) (pa_cons (pv 0) (pa_cons (pe_gx (v := .ref (C 15)) (by rfl) ⟨_, A.e15.gl, rfl⟩) pa_nil))) (pa_cons (pe_callB (call_isiE (K := K) rfl) (by rfl) T.n_isinstance (by decide +kernel) (pa_cons (pv 0) (pa_cons (pe_gx (v := .ref (C 16)) (by rfl) ⟨_, A.e16.gl, rfl⟩) pa_nil))) (pa_cons (pe_callB (call_isiE (K := K) rfl) (by rfl) T.n_isinstance (by decide +kernel) (pa_cons (pv 0) (pa_cons (pe_gx (v := .ref (C 17)) (by rfl) ⟨_, A.e17.gl, rfl⟩) pa_nil))) pa_nil))))))
      (pss_cons (ps_set (i := 1) sc_law_kinds.nd rfl (Or.inl rfl) (pe_op op_cat (pv 1) (pe_lst (pa_cons (pe_callB (call_isiE (K := K) rfl) (by rfl) T.n_isinstance (by decide +kernel) (pa_cons (pv 0) (pa_cons (pe_gx (v := .ref (C 18)) (by rfl) ⟨_, A.e18.gl, rfl⟩) pa_nil))) (pa_cons (pe_callB (call_isiE (K := K) rfl) (by rfl) T.n_isinstance (by decide +kernel) (pa_cons (pv 0) (pa_cons (pe_gx (v := .ref (C 19)) (by rfl) ⟨_, A.e19.gl, rfl⟩) pa_nil))) (pa_cons (pe_callB (call_isiE (K := K) rfl) (by rfl) T.n_isinstance (by decide +kernel) (pa_cons (pv 0) (pa_cons (pe_gx (v := .ref (C 20)) (by rfl) ⟨_, A.e20.gl, rfl⟩) pa_nil))) pa_nil))))))
      (pss_cons (ps_set (i := 1) sc_law_kinds.nd rfl (Or.inl rfl) (pe_op op_cat (pv 1) (pe_lst (pa_cons (pe_callB (call_isiE (K := K) rfl) (by rfl) T.n_isinstance (by decide +kernel) (pa_cons (pv 0) (pa_cons (pe_gx (v := .ref (C 21)) (by rfl) ⟨_, A.e21.gl, rfl⟩) pa_nil))) (pa_cons (pe_callB (call_isiE (K := K) rfl) (by rfl) T.n_isinstance (by decide +kernel) (pa_cons (pv 0) (pa_cons (pe_gx (v := .ref (C 22)) (by rfl) ⟨_, A.e22.gl, rfl⟩) pa_nil))) (pa_cons (pe_callB (call_isiE (K := K) rfl) (by rfl) T.n_isinstance (by decide +kernel) (pa_cons (pv 0) (pa_cons (pe_gx (v := .ref (C 23)) (by rfl) ⟨_, A.e23.gl, rfl⟩) pa_nil))) pa_nil))))))
      (pss_cons (ps_set (i := 1) sc_law_kinds.nd rfl (Or.inl rfl) (pe_op op_cat (pv 1) (pe_lst (pa_cons (pe_callB (call_isiE (K := K) rfl) (by rfl) T.n_isinstance (by decide +kernel) (pa_cons (pv 0) (pa_cons (pe_gx (v := .ref (C 24)) (by rfl) ⟨_, A.e24.gl, rfl⟩) pa_nil))) (pa_cons (pe_callB (call_isiE (K := K) rfl) (by rfl) T.n_isinstance (by decide +kernel) (pa_cons (pv 0) (pa_cons (pe_gx (v := .ref (C 25)) (by rfl) ⟨_, A.e25.gl, rfl⟩) pa_nil))) (pa_cons (pe_callB (call_isiE (K := K) rfl) (by rfl) T.n_isinstance (by decide +kernel) (pa_cons (pv 0) (pa_cons (pe_gx (v := .ref (C 26)) (by rfl) ⟨_, A.e26.gl, rfl⟩) pa_nil))) pa_nil))))))
      (pss_one (ps_ret (pv 1)))))))))))), ?_⟩
    have S : Same H H := Same.refl H
    walk_at "rd"
    refine isi_go (j := 0) B kd (by decide) ?_
    walk_at "rd"
    refine isi_go (j := 1) B kd (by decide) ?_
    walk_at "rd"
    refine isi_go (j := 2) B kd (by decide) ?_
    walk_at "rd"
    refine lst_go ?hl fun l0 J0 _ S1 hl0 => ?_
    case hl => exact Nat.le_of_ble_eq_true rfl
    have kd := kd.ext S1
    have S := Same.trans S S1
    have hs := hl0
    walk_at "rd"
    refine isi_go (j := 3) B kd (by decide) ?_
    walk_at "rd"
    refine isi_go (j := 4) B kd (by decide) ?_
    walk_at "rd"
    refine isi_go (j := 5) B kd (by decide) ?_
    walk_at "rd"
    refine lst_go ?hl fun l1 J1 _ S1 hl1 => ?_
    case hl => exact Nat.le_of_ble_eq_true rfl
    have kd := kd.ext S1
    have S := Same.trans S S1
    have hs := S1 _ _ hs
    refine cat_go hs hl1 (Nat.le_of_ble_eq_true rfl) fun c1 L1 _ S1 hs => ?_
    have hs : L1 c1 = some (.lst [V.bl (decide (0 = i)), V.bl (decide (1 = i)), V.bl (decide (2 = i)), V.bl (decide (3 = i)), V.bl (decide (4 = i)), V.bl (decide (5 = i))]) := hs
    have kd := kd.ext S1
    have S := Same.trans S S1
    walk_at "rd"
    refine isi_go (j := 6) B kd (by decide) ?_
    walk_at "rd"
    refine isi_go (j := 7) B kd (by decide) ?_
    walk_at "rd"
    refine isi_go (j := 8) B kd (by decide) ?_
    walk_at "rd"
    refine lst_go ?hl fun l2 J2 _ S1 hl2 => ?_
    case hl => exact Nat.le_of_ble_eq_true rfl
    have kd := kd.ext S1
    have S := Same.trans S S1
    have hs := S1 _ _ hs
    refine cat_go hs hl2 (Nat.le_of_ble_eq_true rfl) fun c2 L2 _ S1 hs => ?_
    have hs : L2 c2 = some (.lst [V.bl (decide (0 = i)), V.bl (decide (1 = i)), V.bl (decide (2 = i)), V.bl (decide (3 = i)), V.bl (decide (4 = i)), V.bl (decide (5 = i)), V.bl (decide (6 = i)), V.bl (decide (7 = i)), V.bl (decide (8 = i))]) := hs
    have kd := kd.ext S1
    have S := Same.trans S S1
    walk_at "rd"
    refine isi_go (j := 9) B kd (by decide) ?_
    walk_at "rd"
    refine isi_go (j := 10) B kd (by decide) ?_
    walk_at "rd"
    refine isi_go (j := 11) B kd (by decide) ?_
    walk_at "rd"
    refine lst_go ?hl fun l3 J3 _ S1 hl3 => ?_
    case hl => exact Nat.le_of_ble_eq_true rfl
    have kd := kd.ext S1
    have S := Same.trans S S1
    have hs := S1 _ _ hs
    refine cat_go hs hl3 (Nat.le_of_ble_eq_true rfl) fun c3 L3 _ S1 hs => ?_
    have hs : L3 c3 = some (.lst [V.bl (decide (0 = i)), V.bl (decide (1 = i)), V.bl (decide (2 = i)), V.bl (decide (3 = i)), V.bl (decide (4 = i)), V.bl (decide (5 = i)), V.bl (decide (6 = i)), V.bl (decide (7 = i)), V.bl (decide (8 = i)), V.bl (decide (9 = i)), V.bl (decide (10 = i)), V.bl (decide (11 = i))]) := hs
    have kd := kd.ext S1
    have S := Same.trans S S1
    walk_at "rd"
    refine isi_go (j := 12) B kd (by decide) ?_
    walk_at "rd"
    refine isi_go (j := 13) B kd (by decide) ?_
    walk_at "rd"
    refine isi_go (j := 14) B kd (by decide) ?_
    walk_at "rd"
    refine lst_go ?hl fun l4 J4 _ S1 hl4 => ?_
    case hl => exact Nat.le_of_ble_eq_true rfl
    have kd := kd.ext S1
    have S := Same.trans S S1
    have hs := S1 _ _ hs
    refine cat_go hs hl4 (Nat.le_of_ble_eq_true rfl) fun c4 L4 _ S1 hs => ?_
    have hs : L4 c4 = some (.lst [V.bl (decide (0 = i)), V.bl (decide (1 = i)), V.bl (decide (2 = i)), V.bl (decide (3 = i)), V.bl (decide (4 = i)), V.bl (decide (5 = i)), V.bl (decide (6 = i)), V.bl (decide (7 = i)), V.bl (decide (8 = i)), V.bl (decide (9 = i)), V.bl (decide (10 = i)), V.bl (decide (11 = i)), V.bl (decide (12 = i)), V.bl (decide (13 = i)), V.bl (decide (14 = i))]) := hs
    have kd := kd.ext S1
    have S := Same.trans S S1
    walk_at "rd"
    refine isi_go (j := 15) B kd (by decide) ?_
    walk_at "rd"
    refine isi_go (j := 16) B kd (by decide) ?_
    walk_at "rd"
    refine isi_go (j := 17) B kd (by decide) ?_
    walk_at "rd"
    refine lst_go ?hl fun l5 J5 _ S1 hl5 => ?_
    case hl => exact Nat.le_of_ble_eq_true rfl
    have kd := kd.ext S1
    have S := Same.trans S S1
    have hs := S1 _ _ hs
    refine cat_go hs hl5 (Nat.le_of_ble_eq_true rfl) fun c5 L5 _ S1 hs => ?_
    have hs : L5 c5 = some (.lst [V.bl (decide (0 = i)), V.bl (decide (1 = i)), V.bl (decide (2 = i)), V.bl (decide (3 = i)), V.bl (decide (4 = i)), V.bl (decide (5 = i)), V.bl (decide (6 = i)), V.bl (decide (7 = i)), V.bl (decide (8 = i)), V.bl (decide (9 = i)), V.bl (decide (10 = i)), V.bl (decide (11 = i)), V.bl (decide (12 = i)), V.bl (decide (13 = i)), V.bl (decide (14 = i)), V.bl (decide (15 = i)), V.bl (decide (16 = i)), V.bl (decide (17 = i))]) := hs
    have kd := kd.ext S1
    have S := Same.trans S S1
    walk_at "rd"
    refine isi_go (j := 18) B kd (by decide) ?_
    walk_at "rd"
    refine isi_go (j := 19) B kd (by decide) ?_
    walk_at "rd"
    refine isi_go (j := 20) B kd (by decide) ?_
    walk_at "rd"
    refine lst_go ?hl fun l6 J6 _ S1 hl6 => ?_
    case hl => exact Nat.le_of_ble_eq_true rfl
    have kd := kd.ext S1
    have S := Same.trans S S1
    have hs := S1 _ _ hs
    refine cat_go hs hl6 (Nat.le_of_ble_eq_true rfl) fun c6 L6 _ S1 hs => ?_
    have hs : L6 c6 = some (.lst [V.bl (decide (0 = i)), V.bl (decide (1 = i)), V.bl (decide (2 = i)), V.bl (decide (3 = i)), V.bl (decide (4 = i)), V.bl (decide (5 = i)), V.bl (decide (6 = i)), V.bl (decide (7 = i)), V.bl (decide (8 = i)), V.bl (decide (9 = i)), V.bl (decide (10 = i)), V.bl (decide (11 = i)), V.bl (decide (12 = i)), V.bl (decide (13 = i)), V.bl (decide (14 = i)), V.bl (decide (15 = i)), V.bl (decide (16 = i)), V.bl (decide (17 = i)), V.bl (decide (18 = i)), V.bl (decide (19 = i)), V.bl (decide (20 = i))]) := hs
    have kd := kd.ext S1
    have S := Same.trans S S1
    walk_at "rd"
    refine isi_go (j := 21) B kd (by decide) ?_
    walk_at "rd"
    refine isi_go (j := 22) B kd (by decide) ?_
    walk_at "rd"
    refine isi_go (j := 23) B kd (by decide) ?_
    walk_at "rd"
    refine lst_go ?hl fun l7 J7 _ S1 hl7 => ?_
    case hl => exact Nat.le_of_ble_eq_true rfl
    have kd := kd.ext S1
    have S := Same.trans S S1
    have hs := S1 _ _ hs
    refine cat_go hs hl7 (Nat.le_of_ble_eq_true rfl) fun c7 L7 _ S1 hs => ?_
    have hs : L7 c7 = some (.lst [V.bl (decide (0 = i)), V.bl (decide (1 = i)), V.bl (decide (2 = i)), V.bl (decide (3 = i)), V.bl (decide (4 = i)), V.bl (decide (5 = i)), V.bl (decide (6 = i)), V.bl (decide (7 = i)), V.bl (decide (8 = i)), V.bl (decide (9 = i)), V.bl (decide (10 = i)), V.bl (decide (11 = i)), V.bl (decide (12 = i)), V.bl (decide (13 = i)), V.bl (decide (14 = i)), V.bl (decide (15 = i)), V.bl (decide (16 = i)), V.bl (decide (17 = i)), V.bl (decide (18 = i)), V.bl (decide (19 = i)), V.bl (decide (20 = i)), V.bl (decide (21 = i)), V.bl (decide (22 = i)), V.bl (decide (23 = i))]) := hs
    have kd := kd.ext S1
    have S := Same.trans S S1
    walk_at "rd"
    refine isi_go (j := 24) B kd (by decide) ?_
    walk_at "rd"
    refine isi_go (j := 25) B kd (by decide) ?_
    walk_at "rd"
    refine isi_go (j := 26) B kd (by decide) ?_
    walk_at "rd"
    refine lst_go ?hl fun l8 J8 _ S1 hl8 => ?_
    case hl => exact Nat.le_of_ble_eq_true rfl
    have kd := kd.ext S1
    have S := Same.trans S S1
    have hs := S1 _ _ hs
    refine cat_go hs hl8 (Nat.le_of_ble_eq_true rfl) fun c8 L8 _ S1 hs => ?_
    have hs : L8 c8 = some (.lst [V.bl (decide (0 = i)), V.bl (decide (1 = i)), V.bl (decide (2 = i)), V.bl (decide (3 = i)), V.bl (decide (4 = i)), V.bl (decide (5 = i)), V.bl (decide (6 = i)), V.bl (decide (7 = i)), V.bl (decide (8 = i)), V.bl (decide (9 = i)), V.bl (decide (10 = i)), V.bl (decide (11 = i)), V.bl (decide (12 = i)), V.bl (decide (13 = i)), V.bl (decide (14 = i)), V.bl (decide (15 = i)), V.bl (decide (16 = i)), V.bl (decide (17 = i)), V.bl (decide (18 = i)), V.bl (decide (19 = i)), V.bl (decide (20 = i)), V.bl (decide (21 = i)), V.bl (decide (22 = i)), V.bl (decide (23 = i)), V.bl (decide (24 = i)), V.bl (decide (25 = i)), V.bl (decide (26 = i))]) := hs
    have kd := kd.ext S1
    have S := Same.trans S S1
    walk_at "rd"
    exact q _ _ S hs
end
end K1

namespace PySem
open Sem (wp)
section
variable {prog : Program} {w : World} {A : Around} {E : Value → Shared → Prop} {s : Shared} {h₀ : Heap} {a : Addr} {o : Obj} {vs : Array Value} {n : Nat} {xs : List PyData} {bs₀ : List Addr} {Q : Value → Shared → Prop}
theorem mx_shows_list (h1 : h₀.get? a = some o) (h2 : o.cls = .type "list") (h3 : o.data = .seq vs n) (h4 : ReadsAll h₀ vs.toList xs bs₀) (hs : (PyData.list xs).showable = true) (hsm : (PyData.list xs).hasDict = true → sysModules ∉ bs₀)
    (hsz : (PyData.list xs).shown.length ≤ sizeLine) : ∃ T idr, ShowsBy prog w h₀ a (.list xs) T idr := by
  have hz' : (listText (PyData.shownAll xs)).length ≤ sizeLine := by simpa only [PyData.shown] using hsz
  obtain ⟨bs, hb, hk⟩ := ReprAllK.of_readsAll (prog := prog) (w := w) h4 (by simpa [PyData.showable] using hs) (fun hx hm => hsm (by simpa [PyData.hasDict] using hx) hm) (fun t ht => Nat.le_trans (listText_mem_le ht) hz')
  have hna : a ∉ bs := not_mem_of_deeper (.list h1 h2 h3 h4) (by simp only [PyData.depth]; omega) hb
  refine ⟨"list", "list.__repr__", F.slot_list_repr.toG, F.slot_list_str, F.slot_list_format, fun s hk0 => ⟨o, hk0 _ _ h1, h2⟩, fun A E s Q hg hu hk0 hQ => ?_⟩
  simp only [PyData.depth] at hu
  simp only [PyData.shown] at hQ
  obtain ⟨l⟩ := vs
  cases l with
  | nil =>
    have h4' : ReadsAll h₀ [] xs _ := h4
    cases h4'
    simp only [PyData.shownAll, listText_nil] at hQ
    exact call_list_repr_empty ⟨o, hk0 _ _ h1, h2⟩ (hk0 _ _ h1) h3 (hQ s.heap _ _ fun _ _ e => e)
  | cons x l =>
    exact call_list_reprK h1 h2 h3 hna (by simpa using hk.length_eq) (fun i y e => hk.item i y (by simpa using e)) hg (fun b _ => Clear.nil b) hu hk0 hQ hz'
theorem mx_repr_list (h1 : h₀.get? a = some o) (h2 : o.cls = .type "list") (h3 : o.data = .seq vs n) (h4 : ReadsAll h₀ vs.toList xs bs₀) (hs : (PyData.list xs).showable = true) (hsm : (PyData.list xs).hasDict = true → sysModules ∉ bs₀)
    (hsz : (PyData.list xs).shown.length ≤ sizeLine) (hg : A.guards = some []) (hu : A.units + ((PyData.list xs).depth + 1) < cLine) (hk0 : ∀ b o, h₀.get? b = some o → s.heap.get? b = some o)
    (hQ : ∀ h' u tk, (∀ b o, s.heap.get? b = some o → h'.get? b = some o) → Q (.str (PyData.list xs).shown u) { s with heap := h', toks := tk }) : wpAny (model prog w) A (call (.builtin "repr") [.ref a]) Q E s := by
  obtain ⟨T, idr, S⟩ := mx_shows_list (prog := prog) (w := w) h1 h2 h3 h4 hs hsm hsz
  exact call_repr_slot (by omega) (S.typeIs s hk0) S.slotRepr (S.call A.in1 E s _ hg (by show A.units + 1 + (PyData.list xs).depth < cLine; omega) hk0 fun h' u tk hk => ⟨_, _, rfl, hQ h' u tk hk⟩)
end
end PySem
namespace K1
open PySem PySem.Spec PyProof.Rows L2 Mc Mx
/-- a held value: its data -/
def HeldR (K : PySem.W.Frag) (H : Hp) (v : V) (d : PyData) : Prop := (Dp K H v d ∧ d.hasDict = false) ∨ ∃ a, v = .ref a ∧ H a = some (.dK []) ∧ d = .dict []
theorem hd_rep {d : PyData} (h : d.hasDict = false) : ∀ n : Nat, PyData.hasDictAll (List.replicate n d) = false
  | 0 => rfl
  | n + 1 => by
    show (d.hasDict || PyData.hasDictAll (List.replicate n d)) = false
    rw [h, hd_rep h n]
    rfl
theorem dp_rep {K : PySem.W.Frag} {H : Hp} {v : V} {d : PyData} (h : Dp K H v d) : ∀ n : Nat, DpAll K H (List.replicate n v) (List.replicate n d)
  | 0 => .nil
  | n + 1 => .cons h (dp_rep h n)
theorem rd_rep {X : Cx} {pins : List (Addr × Obj)} {σ : L2.St} {H : Hp} {s : Shared} (I : Inv X pins σ H s) {a : Addr} (ha : H a = some (.dK [])) : ∀ (n : Nat) (us : List Value), Vals (List.replicate n (V.ref a)) us → ReadsAll s.heap us (List.replicate n (.dict [])) (List.replicate n a)
  | 0, _, .nil => .nil
  | n + 1, _, .cons r t => by
    obtain ⟨hn, ns, vs, kv, dd⟩ := dk_of I.hok ha
    obtain ⟨es, ep, ⟨o, ho, hx, hdt⟩, hsz, at_⟩ := dd.raw
    have hl : ([] : List (Key × V)).length = vs.length := Paired.length kv
    have e0 : es = #[] := Array.eq_empty_of_size_eq_zero (by rw [hsz, ← hl]; rfl)
    rw [e0] at hdt
    cases (show _ = Value.ref a from r)
    exact ReadsAll.cons (as := [a]) (Reads.dict (as := []) (bs := []) ho hx.1 hdt .nil .nil) (rd_rep I ha n _ t)
def rReprL (K : PySem.W.Frag) : List V → Hp → VK → Prop := fun xs H Q => ∃ (L : Addr) (n : Nat) (v : V) (d : PyData), xs = [.ref L] ∧ H L = some (.lst (List.replicate n v)) ∧ HeldR K H v d ∧ (PyData.list (List.replicate n d)).showable = true ∧ (PyData.list (List.replicate n d)).depth ≤ 40 ∧
  (PyData.list (List.replicate n d)).shown.length ≤ sizeLine ∧ Q (.str (PyData.list (List.replicate n d)).shown) H
theorem call_reprL {X : Cx} {K : PySem.W.Frag} (hg : X.A.guards = some []) (hu : X.A.units + 64 < cLine) (hK : X.K = K) : CallR X (.builtin "repr") (rReprL K) := by
  subst hK
  intro pins s σ H xs us Q I r h
  obtain ⟨L, n, v, d, rfl, hL, hh, hs, hp, hz, q⟩ := h
  obtain rfl := Vals.ref1 r
  obtain ⟨_, its, c, rv, h1⟩ := (show ObjOk X.prog X.w H s.heap L (.lst (List.replicate n v)) from I.hok L _ hL)
  rcases hh with ⟨hd, hx⟩ | ⟨a, rfl, ha, rfl⟩
  · obtain ⟨as, R⟩ := Dp.readsAll I _ _ its (dp_rep hd n) rv
    exact mx_repr_list h1 rfl rfl (by simpa using R) hs (fun e => by rw [show (PyData.list (List.replicate n d)).hasDict = PyData.hasDictAll (List.replicate n d) from rfl, hd_rep hx] at e; cases e) hz hg (by omega) (fun b o e => e) (fun h' u tk hk => ⟨.str _, H, I.kept hk, ⟨u, rfl⟩, q⟩)
  · have R := rd_rep I ha n its rv
    obtain ⟨_, ns, _⟩ := dk_of I.hok ha
    exact mx_repr_list h1 rfl rfl (by simpa using R) hs (fun _ m => by
      have e := (List.mem_replicate.mp m).2
      rw [← e] at ns
      simp at ns) hz hg (by omega) (fun b o e => e) (fun h' u tk hk => ⟨.str _, H, I.kept hk, ⟨u, rfl⟩, q⟩)
end K1

namespace K1
open PySem PySem.Spec PyProof.Rows L2 Mc Mx
section
variable {P : Program} {w : World} {K : PySem.W.Frag} {mg : Str → Option Value} {base : Heap} {C : Nat → Addr}
local macro_rules | `(tactic| walk_at "rd1") => `(tactic| first
  | with_reducible refine g_seq ?_
  | with_reducible refine g_asg ?_
  | with_reducible refine g_name ?_
  | with_reducible refine g_c ?_
  | with_reducible refine g_op ?_
  | with_reducible refine g_ifS ?_
  | with_reducible refine g_if ?_
  | with_reducible refine g_test ?_
  | with_reducible refine g_B ?_
  | with_reducible refine g_bl ?_
  | with_reducible refine g_blV ?_
  | with_reducible refine g_not ?_
  | with_reducible refine g_and ?_
  | with_reducible refine g_or ?_
  | with_reducible refine g_notV ?_
  | with_reducible refine g_andV ?_
  | with_reducible refine g_orV ?_
  | with_reducible refine g_ret ?_
  | with_reducible refine g_drop ?_
  | with_reducible refine g_next ?_
  | with_reducible refine g_retN ?_
  | with_reducible refine g_call ?_
  | with_reducible refine g_cb ?_
  | with_reducible refine g_cons ?_
  | with_reducible refine g_nil ?_
  | with_reducible refine g_tup ?_
  | with_reducible refine g_lst ?_
  | with_reducible refine g_prop ?_
  | with_reducible refine g_fld ?_
  | with_reducible refine g_meth ?_
  | with_reducible refine g_chain ?_
  | with_reducible refine g_yes ?_
  | with_reducible refine g_make ?_
  | with_reducible refine g_makeK ?_
  | with_reducible refine g_gsub ?_
  | with_reducible refine g_sfld ?_
  | with_reducible refine g_un ?_
  | with_reducible refine g_bm ?_
  | with_reducible refine g_iteT ?_
  | with_reducible refine g_iteF ?_
  | with_reducible refine g_I0 ?_
  | with_reducible refine g_add ?_
  | with_reducible refine g_sub ?_
  | ((with_reducible refine' g_var ?hv ?_); (case hv => rfl))
  | ((with_reducible refine g_eq ?hv ?_); (case hv => rfl))
  | ((with_reducible refine g_ne ?hv ?_); (case hv => rfl)))
local macro_rules | `(tactic| walk_at "rd") => `(tactic| repeat (walk_at "rd1"))

local macro_rules | `(tactic| walk_at "ty") => `(tactic| first | exact .non | exact .bl _ | exact .int _ | exact .str _ | exact .lst (by assumption) | exact .tup (by assumption) | exact .dK (by assumption) | exact .kTup (by assumption) (by assumption))
local macro_rules | `(tactic| walk_at "isiF") => `(tactic| refine g_isi (by walk_at "ty") (b := false) (by decide +kernel) ?_)
local macro_rules | `(tactic| walk_at "isiT") => `(tactic| refine g_isi (by walk_at "ty") (b := true) (by decide +kernel) ?_)

theorem for_enum {K : PySem.W.Frag} {a : Addr} {xs : List V} {g : TG} {tb : TS} {D : Ends} {σ : L2.St} {H : Hp} (Pv : Nat → L2.St → Hp → Prop) (h0 : Pv 0 σ H) (hl : ∀ i σ H, i ≤ xs.length → Pv i σ H → SqL K H a xs)
    (hs : ∀ i x σ H T, xs[i]? = some x → Pv i σ H → H T = none → g (.ref T) σ (upd H T (.tup [.int (i : Nat), x])) fun σ2 H2 => tb { D with nx := Pv (i + 1), ct := Pv (i + 1), bk := D.nx } σ2 H2) (hd : ∀ σ H, Pv xs.length σ H → D.nx σ H) :
    ∃ W : Nat → Nat → L2.St → Hp → Prop, (∃ m, W 0 m σ H) ∧ ∀ i m σ H, W i m σ H →
      ((Ite K a).stop i H ∧ D.nx σ H) ∨ ((Ite K a).go i H ∧ ∃ N : L2.St → Hp → Prop, (∀ σ' H', N σ' H' → ∃ m', m' < m ∧ W (i + 1) m' σ' H') ∧ ∀ x H', (Ite K a).yld i H x H' → g x σ H' fun σ2 H2 => tb { D with nx := N, ct := N, bk := D.nx } σ2 H2) := by
  refine ⟨fun i m σ H => m = xs.length - i ∧ i ≤ xs.length ∧ Pv i σ H, ⟨_, rfl, Nat.zero_le _, h0⟩, fun i m σ H ⟨em, le, pv⟩ => ?_⟩
  have sq := hl i σ H le pv
  rcases Nat.lt_or_ge i xs.length with lt | ge
  · refine .inr ⟨⟨xs, xs[i], sq, List.getElem?_eq_getElem lt⟩, Pv (i + 1), fun σ' H' p => ⟨_, ?_, rfl, lt, p⟩, fun x H' y => ?_⟩
    · omega
    · obtain ⟨T, z, e1, nT, e2, ez⟩ := y
      rw [e1, e2]
      exact hs i z σ H T (ez xs sq) pv nT
  · obtain rfl : i = xs.length := Nat.le_antisymm le ge
    exact .inl ⟨⟨xs, sq, Nat.le_refl _⟩, hd σ H pv⟩
def ForW (g : TG) (tb : TS) (D : Ends) (σ : L2.St) (J : It) (H1 : Hp) : Prop := ∃ W : Nat → Nat → L2.St → Hp → Prop, (∃ m, W 0 m σ H1) ∧ ∀ i m σ H, W i m σ H →
  (J.stop i H ∧ D.nx σ H) ∨ (J.go i H ∧ ∃ N : L2.St → Hp → Prop, (∀ σ' H', N σ' H' → ∃ m', m' < m ∧ W (i + 1) m' σ' H') ∧ ∀ x H', J.yld i H x H' → g x σ H' fun σ2 H2 => tb { D with nx := N, ct := N, bk := D.nx } σ2 H2)
theorem g_for {wi : TI} {g : TG} {tb : TS} {D : Ends} {σ : L2.St} {H : Hp} (q : wi σ H fun J H1 => ForW g tb D σ J H1) : tFor wi g tb D σ H := q
theorem g_ienum {ta : TA} {σ : L2.St} {H : Hp} {R : It → Hp → Prop} (q : ta σ H fun vs H1 => ∃ a xs, vs = [.ref a] ∧ SqL K H1 a xs ∧ R (Ite K a) H1) : iEnum K ta σ H R := q
theorem g_irng {ta : TA} {σ : L2.St} {H : Hp} {R : It → Hp → Prop} (q : ta σ H fun vs H1 => ∃ j : Int, vs = [.int j] ∧ -(2 ^ 62) ≤ j ∧ j < 2 ^ 62 ∧ R (Itr 0 j.toNat) H1) : iRng1 ta σ H R := q
theorem g_ilist {te : TE} {σ : L2.St} {H : Hp} {R : It → Hp → Prop} (q : te σ H fun v H1 => ∃ a, v = .ref a ∧ (∃ xs, SqL K H1 a xs) ∧ R (Itl K a) H1) : iList K te σ H R := q
theorem g_gc {g : TG} {gs : TGs} {x : V} {xs : List V} {σ : L2.St} {H : Hp} {Q : L2.St → Hp → Prop} (q : g x σ H fun σ1 H1 => gs xs σ1 H1 Q) : gCons g gs (x :: xs) σ H Q := ⟨x, xs, rfl, q⟩
theorem g_gn {σ : L2.St} {H : Hp} {Q : L2.St → Hp → Prop} (q : Q σ H) : gNil [] σ H Q := ⟨rfl, q⟩

theorem rep_go {H : Hp} {Q : VK} {l : Addr} {v : V} {k : Int} {n : Nat} (h : H l = some (.lst [v])) (hk : k = (n : Int)) (hn : n ≤ 1000) (q : ∀ p H', H p = none → Same H H' → H' p = some (.lst (List.replicate n v)) → Q (.ref p) H') : rRep (.ref l) (.int k) H Q := by
  subst hk
  refine ⟨l, (n : Int), [v], rfl, rfl, h, by omega, by omega, by rw [List.length_singleton, Nat.one_mul, Int.toNat_natCast]; exact sz_le hn, fun p hp => q p _ hp (same_new hp) ?_⟩
  rw [upd_same, Int.toNat_natCast]
  have e : ∀ n : Nat, (List.replicate n [v]).flatten = List.replicate n v := fun n => by
    induction n with
    | zero => rfl
    | succ n ih => rw [List.replicate_succ, List.flatten_cons, ih, List.replicate_succ]; rfl
  rw [e]
/-- what is held, and what is shown of 23 of it -/
def HeldOk (K : PySem.W.Frag) (H : Hp) (v : V) : Prop := ∃ d, HeldR K H v d ∧ (PyData.list (List.replicate 23 d)).showable = true ∧ (PyData.list (List.replicate 23 d)).depth ≤ 40 ∧ (PyData.list (List.replicate 23 d)).shown.length ≤ sizeLine
theorem HeldR.ext {H H' : Hp} {v : V} {d : PyData} (e : Same H H') (h : HeldR K H v d) : HeldR K H' v d := by
  rcases h with ⟨h1, h2⟩ | ⟨a, h1, h2, h3⟩
  · exact .inl ⟨dp_ext e h1, h2⟩
  · exact .inr ⟨a, h1, e _ _ h2, h3⟩
theorem HeldOk.ext {H H' : Hp} {v : V} (e : Same H H') (h : HeldOk K H v) : HeldOk K H' v := by
  obtain ⟨d, hd, k⟩ := h
  refine ⟨d, ?_, k⟩
  rcases hd with ⟨h1, h2⟩ | ⟨a, h1, h2, h3⟩
  · exact .inl ⟨dp_ext e h1, h2⟩
  · exact .inr ⟨a, h1, e _ _ h2, h3⟩
theorem held_dp {H : Hp} {v : V} {d : PyData} (h : Dp K H v d) (hx : d.hasDict = false) (h1 : (PyData.list (List.replicate 23 d)).showable = true) (h2 : (PyData.list (List.replicate 23 d)).depth ≤ 40) (h3 : (PyData.list (List.replicate 23 d)).shown.length ≤ 1000) : HeldOk K H v := ⟨d, .inl ⟨h, hx⟩, h1, h2, sz_le h3⟩
theorem held_int {H : Hp} {r : Int} (h0 : 0 ≤ r) (h1 : r < 10 ^ 30) : HeldOk K H (.int r) := by
  have hl : r.natAbs.log2 < 1920 := by
    have h : r.natAbs < 2 ^ 110 := by omega
    by_cases z : r.natAbs = 0
    · rw [z]
      decide
    · have := (Nat.log2_lt z).mpr h
      omega
  refine ⟨.int r, .inl ⟨.int r, rfl⟩, ?_, Nat.le_of_ble_eq_true rfl, ?_⟩
  · show PyData.showableAll (List.replicate 23 (.int r)) = true
    have e : ∀ n : Nat, PyData.showableAll (List.replicate n (.int r)) = true := fun n => by
      induction n with
      | zero => rfl
      | succ n ih =>
        show (decide (r.natAbs.log2 < 1920) && PyData.showableAll (List.replicate n (.int r))) = true
        rw [ih, decide_eq_true hl]
        rfl
    exact e 23
  · have e : ∀ n : Nat, PyData.shownAll (List.replicate n (.int r)) = List.replicate n (Str.ofString (toString r)) := fun n => by
      induction n with
      | zero => rfl
      | succ n ih =>
        show PyData.shown (.int r) :: PyData.shownAll (List.replicate n (.int r)) = _
        rw [ih]
        rfl
    show (listText (PyData.shownAll (List.replicate 23 (.int r)))).length ≤ sizeLine
    rw [e]
    have h2 := listText_len_le (List.replicate 23 (Str.ofString (toString r)))
    have h3 := PyProof.Rows.toString_length_le h0 (k := 30) (by decide) h1
    have h4 : ((List.replicate 23 (Str.ofString (toString r))).map (·.length)).sum = 23 * (Str.ofString (toString r)).length := by
      rw [List.map_replicate, List.sum_replicate_nat]
    rw [h4, List.length_replicate] at h2
    refine sz_le ?_
    omega
theorem held_all {H : Hp} {t l e : Addr} {r : Int} (ht : H t = some (.tup [.int 0, .int 1])) (hl : H l = some (.lst [.int 3])) (he : H e = some (.dK [])) (h0 : 0 ≤ r) (h1 : r < 10 ^ 30) : ∀ v ∈ [V.non, .int 0, .int (-1), .str "x", .ref t, .ref l, .ref e, .bl true, .int r], HeldOk K H v := by
  intro v hv
  simp only [List.mem_cons, List.not_mem_nil, or_false] at hv
  rcases hv with rfl | rfl | rfl | rfl | rfl | rfl | rfl | rfl | rfl
  · exact held_dp .non rfl (by decide +kernel) (by decide +kernel) (by decide +kernel)
  · exact held_dp (.int 0) rfl (by decide +kernel) (by decide +kernel) (by decide +kernel)
  · exact held_dp (.int (-1)) rfl (by decide +kernel) (by decide +kernel) (by decide +kernel)
  · exact held_dp (.str "x") rfl (by decide +kernel) (by decide +kernel) (by decide +kernel)
  · exact held_dp (d := .tuple [.int 0, .int 1]) (.tup (SqT.of ht) (.cons (.int 0) (.cons (.int 1) .nil))) rfl (by decide +kernel) (by decide +kernel) (by decide +kernel)
  · exact held_dp (d := .list [.int 3]) (.lst (SqL.of hl) (.cons (.int 3) .nil)) rfl (by decide +kernel) (by decide +kernel) (by decide +kernel)
  · exact ⟨.dict [], .inr ⟨e, rfl, he, rfl⟩, by decide +kernel, by decide +kernel, sz_le (by decide +kernel)⟩
  · exact held_dp (.bl true) rfl (by decide +kernel) (by decide +kernel) (by decide +kernel)
  · exact held_int h0 h1
theorem kind_at {H : Hp} {xs : List V} {h x : V} {i : Nat} (E : Ers H xs (specs C h)) (hx : xs[i]? = some x) : KindAt C H x i := by
  have hi : i < 27 := by
    have e1 := (List.getElem?_eq_some_iff.mp hx).1
    have e2 : xs.length = 27 := Paired.length E
    omega
  have key : ∀ {v : V} {o : Option (List (Str × V))}, Er H v (C i, o) → KindAt C H v i := fun {v o} q => by
    cases o with
    | some fs =>
      obtain ⟨a, d, ev, h1, h2⟩ := q
      exact ⟨hi, a, some d, ev, h1, fun dd e => by cases e; exact ⟨fs, h2⟩⟩
    | none =>
      obtain ⟨a, ev, h1⟩ := q
      exact ⟨hi, a, none, ev, h1, fun dd e => nomatch e⟩
  have hs : ∃ o, (specs C h)[i]? = some (C i, o) := by
    match i, hi with
    | 0, _ => exact ⟨_, rfl⟩
    | 1, _ => exact ⟨_, rfl⟩
    | 2, _ => exact ⟨_, rfl⟩
    | 3, _ => exact ⟨_, rfl⟩
    | 4, _ => exact ⟨_, rfl⟩
    | 5, _ => exact ⟨_, rfl⟩
    | 6, _ => exact ⟨_, rfl⟩
    | 7, _ => exact ⟨_, rfl⟩
    | 8, _ => exact ⟨_, rfl⟩
    | 9, _ => exact ⟨_, rfl⟩
    | 10, _ => exact ⟨_, rfl⟩
    | 11, _ => exact ⟨_, rfl⟩
    | 12, _ => exact ⟨_, rfl⟩
    | 13, _ => exact ⟨_, rfl⟩
    | 14, _ => exact ⟨_, rfl⟩
    | 15, _ => exact ⟨_, rfl⟩
    | 16, _ => exact ⟨_, rfl⟩
    | 17, _ => exact ⟨_, rfl⟩
    | 18, _ => exact ⟨_, rfl⟩
    | 19, _ => exact ⟨_, rfl⟩
    | 20, _ => exact ⟨_, rfl⟩
    | 21, _ => exact ⟨_, rfl⟩
    | 22, _ => exact ⟨_, rfl⟩
    | 23, _ => exact ⟨_, rfl⟩
    | 24, _ => exact ⟨_, rfl⟩
    | 25, _ => exact ⟨_, rfl⟩
    | 26, _ => exact ⟨_, rfl⟩
    | n + 27, hi => exact absurd hi (by omega)
  obtain ⟨o, ho⟩ := hs
  obtain ⟨v, hv, q⟩ := er_get E ho
  rw [hx] at hv
  cases hv
  exact key q
theorem isiT_go {H : Hp} {Q : VK} {v : V} {i : Nat} {n : String} {b : Bool} (B : AllK K C) (k : KindAt C H v i) (kb : PySem.W.kitOne K (.ref (C i)) (.type n) = some b) (q : Q (.bl b) H) : rIsiE K [v, .ty n] H Q := by
  obtain ⟨hi, a, d, rfl, h1, h2⟩ := k
  exact ⟨a, C i, d, .ty n, .type n, b, rfl, h1, h2, B.ki i hi, .ty n, kb, q⟩
theorem dp_bools {H : Hp} : ∀ bs : List Bool, DpAll K H (bs.map V.bl) (bs.map PyData.bool)
  | [] => .nil
  | b :: r => .cons (.bl b) (dp_bools r)
theorem lay_bools : ∀ bs : List Bool, PyData.canLayAll0 (bs.map PyData.bool) = true
  | [] => rfl
  | b :: r => by
    have ih := lay_bools r
    simp [PyData.canLayAll0, PyData.canLay0, ih]
theorem dep_bools : ∀ bs : List Bool, PyData.depthAll (bs.map PyData.bool) ≤ 1
  | [] => Nat.zero_le _
  | b :: r => Nat.max_le.mpr ⟨Nat.zero_le _, dep_bools r⟩
theorem sh_bools (bs : List Bool) : SeqAt.shaped (.list (bs.map PyData.bool)) = true := by
  unfold SeqAt.shaped
  have h1 : (PyData.list (bs.map PyData.bool)).canLay0 = true := by
    have := lay_bools bs
    simp [PyData.canLay0, this]
  have h2 : (PyData.list (bs.map PyData.bool)).depth ≤ 64 := by
    have := dep_bools bs
    show PyData.depthAll (bs.map PyData.bool) + 1 ≤ 64
    omega
  rw [h1, decide_eq_true h2]
  rfl
theorem ne_bools {H : Hp} {Q : VK} {a b : Addr} {bs : List Bool} (ha : H a = some (.lst (bs.map V.bl))) (hb : H b = some (.lst (bs.map V.bl))) (q : Q (.bl false) H) : rNeD K (.ref a) (.ref b) H Q := by
  refine ⟨_, _, .lst (SqL.of ha) (dp_bools bs), .lst (SqL.of hb) (dp_bools bs), sh_bools bs, sh_bools bs, ?_⟩
  rw [SeqAt.eqv_refl _ (SeqAt.canLay_of_shaped (sh_bools bs))]
  exact q
theorem take_map {α : Type} {xs : List α} {i : Nat} {x : α} (f : α → V) (h : xs[i]? = some x) : (xs.take i).map f ++ [f x] = (xs.take (i + 1)).map f := by
  rw [List.take_add_one, h, List.map_append]
  rfl
theorem dec_int {i j : Nat} : decide (V.int ((0 : Int) + (j : Int)) = V.int (i : Int)) = decide (j = i) := by
  by_cases e : j = i
  · subst e
    rw [decide_eq_true (Eq.refl j), Int.zero_add, decide_eq_true (Eq.refl _)]
  · rw [decide_eq_false e]
    exact decide_eq_false fun z => by injection z with z; omega
def dueL : List V := [.int 0, .int 0, .int 0, .int 0, .int 0, .int 0, .int 0, .int 0, .int 0, .int 0, .int 0, .int 0, .int 0, .int 0, .int 0, .int 0, .int 0, .int 0, .int 0, .int 0, .int 1, .int 2, .int 2, .int 3, .int 3, .int 3, .int 3]
theorem due_at : ∀ i, i < 27 → dueL[i]? = some (V.int (due i : Int)) := by decide
theorem lc_spots {x0 x1 x2 x3 x4 x5 x7 x8 x9 : Option V} {n i : Nat} {H : Hp} {Q : VK} (hn : n ≤ 1000) (q : ∀ L H', Same H H' → H' L = some (.lst (((List.range n).map fun j => decide (j = i)).map V.bl)) → Q (.ref L) H') :
    tLc (iRng1 (tCons (tC (.int (n : Int))) tNil)) (gName 9) tYes (tOp rEq (tVar 9) (tVar 6)) [9] [x0, x1, x2, x3, x4, x5, some (.int (i : Int)), x7, x8, x9] H Q := by
  refine g_irng ?_
  walk_at "rd"
  refine ⟨(n : Int), rfl, by omega, by omega, fun L hL => ?_⟩
  rw [Int.toNat_natCast]
  refine lc_it walk_range (fun m H' => H' = upd H L (.lst (((List.range n).take m).map fun j => .bl (decide (j = i))))) rfl (fun _ _ _ _ => True.intro) ?_ ?_
  · rintro m x H2 H3 hi rfl ⟨rfl, rfl⟩
    walk_at "rd"
    refine ⟨rfl, ?_⟩
    walk_at "rd"
    rw [dec_int]
    refine ⟨_, upd_same, ?_, ?_⟩
    · rw [List.length_map, List.length_take]
      exact small1000 (Nat.le_trans (Nat.min_le_left _ _) (by omega))
    · rw [upd_upd]
      exact congrArg (fun l => upd H L (.lst l)) (take_map (fun j => V.bl (decide (j = i))) (by rw [List.getElem?_range hi]))
  · rintro H2 rfl
    refine q L _ (same_new hL) ?_
    rw [upd_same, List.take_of_length_le (by simp), List.map_map]
    rfl
theorem lc_due {x0 x2 x3 x4 x5 x7 x8 x9 : Option V} {n i : Nat} {H : Hp} {Q : VK} {du : Addr} (hn : n ≤ 1000) (hi27 : i < 27) (hdu : H du = some (.lst dueL)) (q : ∀ L H', Same H H' → H' L = some (.lst (((List.range n).map fun j => decide (j = due i)).map V.bl)) → Q (.ref L) H') :
    tLc (iRng1 (tCons (tC (.int (n : Int))) tNil)) (gName 9) tYes (tOp rEq (tVar 9) (tOp (rIxL K) (tVar 1) (tVar 6))) [9] [x0, some (.ref du), x2, x3, x4, x5, some (.int (i : Int)), x7, x8, x9] H Q := by
  refine g_irng ?_
  walk_at "rd"
  refine ⟨(n : Int), rfl, by omega, by omega, fun L hL => ?_⟩
  rw [Int.toNat_natCast]
  have dL : du ≠ L := ne_of_none hdu hL
  refine lc_it walk_range (fun m H' => H' = upd H L (.lst (((List.range n).take m).map fun j => .bl (decide (j = due i))))) rfl (fun _ _ _ _ => True.intro) ?_ ?_
  · rintro m x H2 H3 hi rfl ⟨rfl, rfl⟩
    walk_at "rd"
    refine ⟨rfl, ?_⟩
    walk_at "rd"
    refine g_ixL (SqL.of (by rw [upd_ne dL]; exact hdu)) (v := .int (due i : Int)) (atI_nat (j := i) (due_at i hi27)) ?_
    walk_at "rd"
    rw [dec_int]
    refine ⟨_, upd_same, ?_, ?_⟩
    · rw [List.length_map, List.length_take]
      exact small1000 (Nat.le_trans (Nat.min_le_left _ _) (by omega))
    · rw [upd_upd]
      exact congrArg (fun l => upd H L (.lst l)) (take_map (fun j => V.bl (decide (j = due i))) (by rw [List.getElem?_range hi]))
  · rintro H2 rfl
    refine q L _ (same_new hL) ?_
    rw [upd_same, List.take_of_length_le (by simp), List.map_map]
    rfl
def spLaw (K : PySem.W.Frag) : Sp := fun vs H Q _ => ∃ (a : Addr) (ns : List Int), vs = [.ref a] ∧ SqL K H a (ns.map V.int) ∧ ns.length ≤ 63 ∧ ∀ H', Q (.bl true) H'
theorem ok_law {f : Addr} {fd : FuncData} (F : Fun K "law" "law" s_law f fd) (T : Txt mg) (B : AllK K C) (c_law_made : Cal P w K mg base 3 "_law_made" (spMade C)) (c_law_named : Cal P w K mg base 3 "_law_named" (spMade C)) (c_law_fields : Cal P w K mg base 3 "_law_fields" (spFlds C)) (c_law_kinds : Cal P w K mg base 3 "_law_kinds" (spKinds C))
    (c_law_pool : Cal P w K mg base 1 "_law_pool" (spPool K)) (c_law_draw : Cal P w K mg base 1 "_law_draw" spDraw) (c_law_choose : Cal P w K mg base 2 "_law_choose" spChoose) : FnG P w K mg base CX0 5 f fd ["_law_script"] (spLaw K) := by
  refine fnG_of F sc_law (fun vs H Q E h => ?_) (fun cdv A outer s H vs Q E hgA hr h => ?_)
  · obtain ⟨a, ns, rfl, _⟩ := h
    rfl
  · obtain ⟨a, ns, rfl, hS, hlen, k⟩ := h
    have hg : (A.deeper (envOfC "law" (defScope s_law) s.heap.objs.size f cdv)).guards = some [] := hgA
    have hu : (A.deeper (envOfC "law" (defScope s_law) s.heap.objs.size f cdv)).units + 64 < cLine := hr.units
    have hr : Room 4 (A.deeper (envOfC "law" (defScope s_law) s.heap.objs.size f cdv)) := hr
    refine ⟨_, (pss_cons (ps_set (i := 1) sc_law.nd rfl (Or.inr rfl) (pe_op op_cat (pe_op op_rep (pe_lst (pa_cons pe_int pa_nil)) pe_int) (pe_lst (pa_cons pe_int (pa_cons pe_int (pa_cons pe_int (pa_cons pe_int (pa_cons pe_int (pa_cons pe_int (pa_cons pe_int pa_nil))))))))))
      (pss_cons (ps_for PassesOwn.never rfl (pi_range1 (by rfl) T.n_range (pa_cons (pe_callB (call_max2 rfl) (by rfl) T.n_max (by decide +kernel) (pa_cons pe_int (pa_cons (pe_callB (call_min2 rfl) (by rfl) T.n_min (by decide +kernel) (pa_cons (pe_callB call_len_seq (by rfl) T.n_len (by decide +kernel) (pa_cons (pv 0) pa_nil)) (pa_cons pe_int pa_nil))) pa_nil))) pa_nil)) (pg_name (i := 2) sc_law.nd rfl (Or.inl rfl)) (pss_cons (ps_set (i := 3) sc_law.nd rfl (Or.inl rfl) (pe_f c_law_pool hr (by decide) (by rfl) (pa_cons (pv 0) (pa_cons (pv 2) pa_nil))))
      (pss_cons (ps_set (i := 4) sc_law.nd rfl (Or.inl rfl) (pe_f c_law_choose hr (by decide) (by rfl) (pa_cons (pv 3) (pa_cons (pe_lst (pa_cons pe_non (pa_cons pe_int (pa_cons (pe_un un_neg pe_int) (pa_cons pe_str (pa_cons (pe_tup (pa_cons pe_int (pa_cons pe_int pa_nil))) (pa_cons (pe_lst (pa_cons pe_int pa_nil)) (pa_cons pe_dnewK (pa_cons pe_bl (pa_cons (pe_f c_law_draw hr (by decide) (by rfl) (pa_cons (pv 3) (pa_cons (pe_op op_pow pe_int pe_int) pa_nil))) pa_nil)))))))))) pa_nil))))
      (pss_one (ps_for PassesOwn.never rfl (pi_list (pe_lst (pa_cons (pe_f c_law_made hr (by decide) (by rfl) (pa_cons (pv 4) pa_nil)) (pa_cons (pe_f c_law_named hr (by decide) (by rfl) (pa_cons (pv 4) pa_nil)) pa_nil)))) (pg_name (i := 5) sc_law.nd rfl (Or.inl rfl)) (pss_cons (ps_if (PW.pt (pw_or (pt_cmpR op_ne (pe_callB (call_reprL (K := K) hg hu rfl) (by rfl) T.n_repr (by decide +kernel) (pa_cons (pe_f c_law_fields hr (by decide) (by rfl) (pa_cons (pv 5) pa_nil)) pa_nil)) (pe_callB (call_reprL (K := K) hg hu rfl) (by rfl) T.n_repr (by decide +kernel) (pa_cons (pe_op op_rep (pe_lst (pa_cons (pv 4) pa_nil)) pe_int) pa_nil)) (nomark _)) (pw_or1 (pt_cmpR op_ne (pe_exA (K := K) rfl (pe_ix ix_list (pv 5) pe_int (fun _ _ => rfl))) pe_str (nomark _))))) (pss_one (ps_ret pe_bl)) pss_nil)
      (pss_one (ps_for PassesOwn.never rfl (pi_enum (by rfl) T.n_enumerate (pa_cons (pv 5) pa_nil)) (pg_tup rfl (pgs_cons (pg_name (i := 6) sc_law.nd rfl (Or.inr rfl)) (pgs_cons (pg_name (i := 7) sc_law.nd rfl (Or.inl rfl)) pgs_nil))) (pss_cons (ps_set (i := 8) sc_law.nd rfl (Or.inl rfl) (pe_lst (pa_cons (pe_callB (call_isiE (K := K) rfl) (by rfl) T.n_isinstance (by decide +kernel) (pa_cons (pv 7) (pa_cons (pe_ty "ValueError" (by rfl) T.n_ValueError (by decide +kernel)) pa_nil))) (pa_cons (pe_callB (call_isiE (K := K) rfl) (by rfl) T.n_isinstance (by decide +kernel) (pa_cons (pv 7) (pa_cons (pe_ty "LookupError" (by rfl) T.n_LookupError (by decide +kernel)) pa_nil))) (pa_cons (pe_callB (call_isiE (K := K) rfl) (by rfl) T.n_isinstance (by decide +kernel) (pa_cons (pv 7) (pa_cons (pe_ty "OverflowError" (by rfl) T.n_OverflowError (by decide +kernel)) pa_nil))) pa_nil)))))
      (pss_cons (ps_expr (pe_bm PySem.F.plainAttrs_list PySem.F.slot_list_append PySem.F.type_list_append mt_append (pv 8) (pa_cons (pe_callB (call_isiE (K := K) rfl) (by rfl) T.n_isinstance (by decide +kernel) (pa_cons (pv 7) (pa_cons (pe_ty "RuntimeError" (by rfl) T.n_RuntimeError (by decide +kernel)) pa_nil))) pa_nil)))
      (pss_cons (ps_if (pt_cmpR (op_neD hu) (pe_f c_law_kinds hr (by decide) (by rfl) (pa_cons (pv 7) pa_nil)) (pe_lc (own := [("_law_spot", 9)]) (g := gName 9) (by rfl) sc_law.nd (pi_range1 (by rfl) T.n_range (pa_cons pe_int pa_nil)) (blkOk_by (own := [("_law_spot", 9)]) (N := N_law) (sc := defScope s_law) (by decide +kernel)) (fun _ _ _ _ _ => pg_name (i := 9) sc_law.nd rfl (Or.inl rfl)) (fun _ _ _ _ _ => pts_nil) (fun _ _ _ _ _ => (pe_cmpR op_eq (pv 9) (pv 6) (nomark _)))) (nomark _)) (pss_one (ps_ret pe_bl)) pss_nil)
      (pss_one (ps_if (pt_cmpR (op_neD hu) (pv 8) (pe_lc (own := [("_law_spot", 9)]) (g := gName 9) (by rfl) sc_law.nd (pi_range1 (by rfl) T.n_range (pa_cons pe_int pa_nil)) (blkOk_by (own := [("_law_spot", 9)]) (N := N_law) (sc := defScope s_law) (by decide +kernel)) (fun _ _ _ _ _ => pg_name (i := 9) sc_law.nd rfl (Or.inl rfl)) (fun _ _ _ _ _ => pts_nil) (fun _ _ _ _ _ => (pe_cmpR op_eq (pv 9) (pe_ix (ix_listK (K := K) rfl) (pv 1) (pv 6) (fun _ _ => rfl)) (nomark _)))) (nomark _)) (pss_one (ps_ret pe_bl)) pss_nil)))))))))))))
      (pss_one (ps_ret pe_bl)))), ?_⟩
    walk_at "rd"
    refine lst_go ?hl fun z1 H1 _ S1 hz1 => ?_
    case hl => exact Nat.le_of_ble_eq_true rfl
    walk_at "rd"
    refine rep_go (n := 20) hz1 rfl (by decide) fun z2 H2 _ S2 hz2 => ?_
    walk_at "rd"
    refine lst_go ?hl fun z3 H3 _ S3 hz3 => ?_
    case hl => exact Nat.le_of_ble_eq_true rfl
    refine cat_go (S3 _ _ hz2) hz3 (Nat.le_of_ble_eq_true rfl) fun du H4 _ S4 hdu => ?_
    have hdu : H4 du = some (.lst dueL) := hdu
    have S := Same.trans S1 (Same.trans S2 (Same.trans S3 S4))
    have hS4 : SqL K H4 a (ns.map V.int) := by
      rcases hS with (h | ⟨o, h⟩) | h
      · exact .inl (.inl (S _ _ h))
      · exact .inl (.inr ⟨o, S _ _ h⟩)
      · exact .inr h
    clear hS S S1 S2 S3 S4 hz1 hz2 hz3
    walk_at "rd"
    dsimp only
    refine g_for (g_irng ?_)
    walk_at "rd"
    refine ⟨a, _, rfl, .inl hS4, ?_⟩
    walk_at "rd"
    refine ⟨_, _, rfl, ?_⟩
    walk_at "rd"
    refine ⟨_, _, rfl, ?_⟩
    walk_at "rd"
    have hN : ∀ n : Int, (if (if (4 : Int) < n then 4 else n) > 1 then (if (4 : Int) < n then 4 else n) else 1) ≤ 4 ∧ (1 : Int) ≤ (if (if (4 : Int) < n then 4 else n) > 1 then (if (4 : Int) < n then 4 else n) else 1) := fun n => by
      split <;> split <;> omega
    obtain ⟨hN1, hN2⟩ := hN ((ns.map V.int).length : Int)
    refine ⟨_, rfl, Int.le_trans (by decide) hN2, Int.lt_of_le_of_lt hN1 (by decide), ?_⟩
    generalize (if (if (4 : Int) < ((ns.map V.int).length : Int) then 4 else ((ns.map V.int).length : Int)) > 1 then (if (4 : Int) < ((ns.map V.int).length : Int) then 4 else ((ns.map V.int).length : Int)) else 1) = N at hN1 hN2 ⊢
    unfold ForW
    refine for_it walk_range (fun i σ H' => (∃ o2 o3 o4 o5 o6 o7 o8 o9 : Option V, σ = [some (.ref a), some (.ref du), o2, o3, o4, o5, o6, o7, o8, o9]) ∧ Same H4 H') ⟨⟨_, _, _, _, _, _, _, _, rfl⟩, Same.refl _⟩ (fun _ _ _ _ _ => True.intro) ?_ ?_
    · rintro n x σ H5 H5' hi ⟨⟨o2, o3, o4, o5, o6, o7, o8, o9, rfl⟩, S5⟩ ⟨rfl, rfl⟩
      have hS5 : SqL K H5' a (ns.map V.int) := by
        rcases hS4 with (h | ⟨o, h⟩) | h
        · exact .inl (.inl (S5 _ _ h))
        · exact .inl (.inr ⟨o, S5 _ _ h⟩)
        · exact .inr h
      walk_at "rd"
      refine ⟨a, _, ns, rfl, hS5, by omega, by omega, fun p H6 np S6 pl6 => ?_⟩
      walk_at "rd"
      refine ⟨1, rfl, ?_⟩
      walk_at "rd"
      refine tup_go ?hl fun t H7 _ S7 ht => ?_
      case hl => exact Nat.le_of_ble_eq_true rfl
      walk_at "rd"
      refine lst_go ?hl fun l H8 nl S8 hl => ?_
      case hl => exact Nat.le_of_ble_eq_true rfl
      have pl8 := pl6.ext (Same.trans S7 S8)
      have lp : l ≠ p := fun z => by
        obtain ⟨c, y, q1, _⟩ := pl6.ext S7
        rw [z, q1] at nl
        cases nl
      have ht8 := S8 _ _ ht
      walk_at "rd"
      intro e he
      have S9 := same_new (o := .dK []) he
      have hE : (upd H8 e (.dK [])) e = some (.dK []) := upd_same
      generalize upd H8 e (.dK []) = H9 at S9 hE ⊢
      walk_at "rd"
      refine g_I ⟨by decide, by decide, by decide⟩ ?_
      walk_at "rd"
      have pl9 := pl8.ext S9
      refine ⟨p, _, rfl, pl9, by decide, by decide, fun r H10 r0 r1 pl10 S10 => ?_⟩
      walk_at "rd"
      refine lst_go ?hl fun lc H11 nlc S11 hlc => ?_
      case hl => exact Nat.le_of_ble_eq_true rfl
      walk_at "rd"
      have pl11 := pl10.ext S11
      have lcp : lc ≠ p := fun z => by
        obtain ⟨c, y, q1, _⟩ := pl10
        rw [z, q1] at nlc
        cases nlc
      refine ⟨p, lc, _, rfl, pl11, lcp, hlc, by show 0 < 9; decide, by show 9 ≤ 1000; decide, fun h H12 hm pl12 S12 => ?_⟩
      have SX : Sx p H9 H12 := (S10.trans (Same.sx S11)).trans S12
      have held : HeldOk K H12 h := held_all (SX _ _ (pl9.not (S9 _ _ ht8) (by intro _ k; cases k)) (S9 _ _ ht8)) (SX _ _ lp (S9 _ _ hl)) (SX _ _ (pl9.not hE (by intro _ k; cases k)) hE) r0 r1 h hm
      have dup : du ≠ p := fun z => by
        have q1 := S5 _ _ hdu
        rw [z, np] at q1
        cases q1
      have S512 : ∀ b o, H4 b = some o → H12 b = some o := fun b o hb => by
        have q1 := S5 _ _ hb
        have bp : b ≠ p := fun z => by rw [z, np] at q1; cases q1
        exact SX _ _ bp (S9 _ _ (S8 _ _ (S7 _ _ (S6 _ _ q1))))
      have hdu12 := S512 _ _ hdu
      clear SX S12 S11 S10 S9 S8 S7 S6 pl6 pl8 pl9 pl10 pl11 pl12 hE ht ht8 hl hlc nlc lcp nl lp hm dup r0 r1
      walk_at "rd"
      dsimp only
      refine g_for (g_ilist ?_)
      walk_at "rd"
      refine ⟨h, rfl, fun r1 xs1 H13 S13 hr1 E1 => ?_⟩
      walk_at "rd"
      refine ⟨h, rfl, fun r2 xs2 H14 S14 hr2 E2 => ?_⟩
      walk_at "rd"
      refine lst_go ?hl fun LL H15 _ S15 hLL => ?_
      case hl => exact Nat.le_of_ble_eq_true rfl
      have S1215 := Same.trans S13 (Same.trans S14 S15)
      have held := held.ext S1215
      have hr1 := S15 _ _ (S14 _ _ hr1)
      have E1 := E1.ext (Same.trans S14 S15)
      have hr2 := S15 _ _ hr2
      have E2 := E2.ext S15
      have hdu := S1215 _ _ hdu12
      have S415 : Same H4 H15 := fun b o hb => S1215 _ _ (S512 b o hb)
      clear S1215 S13 S14 S15 hdu12 S512
      refine ⟨LL, rfl, ⟨_, SqL.of hLL⟩, ?_⟩
      unfold ForW
      refine for_list (K := K) (a := LL) (xs := [.ref r1, .ref r2]) (fun i σ H' => (∃ o2 o3 o5 o6 o7 o8 o9 : Option V, σ = [some (.ref a), some (.ref du), o2, o3, some h, o5, o6, o7, o8, o9]) ∧ Same H15 H') ⟨⟨_, _, _, _, _, _, _, rfl⟩, Same.refl _⟩ (fun i σ H' _ ⟨_, e⟩ => SqL.of (e _ _ hLL)) ?_ ?_
      · rintro m y σ H16 hy ⟨⟨o2, o3, o5, o6, o7, o8, o9, rfl⟩, S16⟩
        obtain ⟨r, xs, rfl, hr0, E⟩ : ∃ r xs, y = .ref r ∧ H15 r = some (.lst xs) ∧ Ers H15 xs (specs C h) := by
          match m, hy with
          | 0, hy => cases hy; exact ⟨r1, xs1, rfl, hr1, E1⟩
          | 1, hy => cases hy; exact ⟨r2, xs2, rfl, hr2, E2⟩
          | n + 2, hy => cases hy
        have hr0 := S16 _ _ hr0
        have E := E.ext S16
        clear E1 E2 hr1 hr2
        walk_at "rd"
        refine ⟨r, xs, h, rfl, hr0, E, fun f1 H17 S17 hf1 => ?_⟩
        walk_at "rd"
        obtain ⟨d, hd, h1, h2, h3⟩ := held
        have hd := hd.ext (Same.trans S16 S17)
        refine ⟨f1, 23, h, d, rfl, hf1, hd, h1, h2, h3, ?_⟩
        walk_at "rd"
        refine lst_go ?hl fun g1 H18 _ S18 hg1 => ?_
        case hl => exact Nat.le_of_ble_eq_true rfl
        walk_at "rd"
        refine rep_go (n := 23) hg1 rfl (by decide) fun g2 H19 _ S19 hg2 => ?_
        walk_at "rd"
        refine ⟨g2, 23, h, d, rfl, hg2, hd.ext (Same.trans S18 S19), h1, h2, h3, ?_⟩
        walk_at "rd"
        rw [decide_eq_true (Eq.refl _)]
        show (if false = true then _ else _)
        have SZ := Same.trans S17 (Same.trans S18 S19)
        have hr0 := SZ _ _ hr0
        have E := E.ext SZ
        have S19' := Same.trans S16 SZ
        clear hd h1 h2 h3 S17 S18 S19 hf1 hg1 hg2 SZ S16
        walk_at "rd"
        refine g_exA ?_
        walk_at "rd"
        obtain ⟨v4, hv4, a4, d4, rfl, p4, q4⟩ := er_get E (i := 4) (s := (C 4, some _)) rfl
        refine g_ixL (SqL.of hr0) (v := .ref a4) (atI_nat (j := 4) hv4) ?_
        refine ⟨a4, C 4, d4, _, .str "other", rfl, p4, q4, (B.ki 4 (by decide)).xf, B.nfp, rfl, ?_⟩
        walk_at "rd"
        rw [decide_eq_true (Eq.refl _)]
        show (if false = true then _ else _)
        walk_at "rd"
        dsimp only
        refine g_for (g_ienum ?_)
        walk_at "rd"
        refine ⟨r, _, rfl, SqL.of hr0, ?_⟩
        unfold ForW
        refine for_enum (K := K) (a := r) (xs := xs) (fun i σ H' => (∃ o2 o3 o6 o7 o8 o9 : Option V, σ = [some (.ref a), some (.ref du), o2, o3, some h, some (.ref r), o6, o7, o8, o9]) ∧ Same H19 H') ⟨⟨_, _, _, _, _, _, rfl⟩, Same.refl _⟩ (fun i σ H' _ ⟨_, e⟩ => SqL.of (e _ _ hr0)) ?_ ?_
        · rintro i x σ H20 Tn hx ⟨⟨o2, o3, o6, o7, o8, o9, rfl⟩, S20⟩ nT
          have ST := Same.trans S20 (same_new (o := .tup [.int (i : Nat), x]) nT)
          have kd := (kind_at E hx).ext ST
          have hi27 : i < 27 := kd.1
          refine ⟨Tn, _, rfl, SqT.of upd_same, rfl, ?_⟩
          generalize upd H20 Tn (.tup [.int (i : Nat), x]) = HT at ST kd ⊢
          refine g_gc ?_
          walk_at "rd"
          refine g_gc ?_
          walk_at "rd"
          refine g_gn ?_
          walk_at "rd"
          refine isiT_go B kd (B.k0 i hi27) ?_
          walk_at "rd"
          refine isiT_go B kd (B.k1 i hi27) ?_
          walk_at "rd"
          refine isiT_go B kd (B.k2 i hi27) ?_
          walk_at "rd"
          refine lst_go ?hl fun kh H21 nkh S21 hkh => ?_
          case hl => exact Nat.le_of_ble_eq_true rfl
          walk_at "rd"
          refine ⟨.inl ⟨rfl, _, SqL.of hkh⟩, ?_⟩
          walk_at "rd"
          refine isiT_go B (kd.ext S21) (B.k3 i hi27) ?_
          walk_at "rd"
          refine ⟨kh, _, _, rfl, rfl, hkh, by show 3 < sizeLine; decide, ?_⟩
          have S22 : Same HT (upd H21 kh (.lst ([V.bl (decide (0 = due i)), .bl (decide (1 = due i)), .bl (decide (2 = due i))] ++ [.bl (decide (3 = due i))]))) := fun b o hb => by
            rw [upd_ne (ne_of_none hb nkh)]
            exact S21 _ _ hb
          have hkh2 : (upd H21 kh (.lst ([V.bl (decide (0 = due i)), .bl (decide (1 = due i)), .bl (decide (2 = due i))] ++ [.bl (decide (3 = due i))]))) kh = some (.lst (((List.range 4).map fun j => decide (j = due i)).map V.bl)) := upd_same
          generalize upd H21 kh (.lst ([V.bl (decide (0 = due i)), .bl (decide (1 = due i)), .bl (decide (2 = due i))] ++ [.bl (decide (3 = due i))])) = H22 at S22 hkh2 ⊢
          walk_at "rd"
          refine ⟨x, i, rfl, kd.ext S22, fun k1 H23 S23 hk1 => ?_⟩
          have hk1 : H23 k1 = some (.lst (((List.range 27).map fun j => decide (j = i)).map V.bl)) := by
            rw [List.map_map]
            exact hk1
          walk_at "rd"
          refine lc_spots (n := 27) (i := i) (by decide) fun L1 H24 S24 hL1 => ?_
          refine ne_bools (S24 _ _ hk1) hL1 ?_
          refine ⟨_, rfl, ?_⟩
          show (if false = true then _ else _)
          walk_at "rd"
          have S224 := Same.trans S23 S24
          refine lc_due (n := 4) (i := i) (by decide) hi27 (S224 _ _ (S22 _ _ (ST _ _ (S19' _ _ hdu)))) fun L2 H25 S25 hL2 => ?_
          refine ne_bools (S25 _ _ (S224 _ _ hkh2)) hL2 ?_
          refine ⟨_, rfl, ?_⟩
          show (if false = true then _ else _)
          walk_at "rd"
          exact ⟨⟨_, _, _, _, _, _, rfl⟩, Same.trans ST (Same.trans S22 (Same.trans S224 S25))⟩
        · rintro σ H20 ⟨⟨o2, o3, o6, o7, o8, o9, rfl⟩, S20⟩
          exact ⟨⟨_, _, _, _, _, _, _, rfl⟩, Same.trans S19' S20⟩
      · rintro σ H16 ⟨⟨o2, o3, o5, o6, o7, o8, o9, rfl⟩, S16⟩
        exact ⟨⟨_, _, _, _, _, _, _, _, rfl⟩, Same.trans S415 S16⟩
    · rintro σ H' ⟨st, S⟩
      walk_at "rd"
      exact k _
end
end K1

namespace K1
open PySem PySem.Spec PyProof.Rows L2 Mc Mx
/-- a class by its record -/
structure Rec (K : PySem.W.Frag) (C : Addr) (tl : List Value) (k : Nat) : Prop where
  cl : ∃ cd, PySem.W.clsIn K C = some cd ∧ cd.mro = .ref C :: tl
  ty : PySem.W.typeIn K (.ref C) = some (.type "type")
  no : ∀ D : Addr, tl.contains (.ref D) = false
  ob : tl.contains (.type "object") = true
  k0 : tl.contains (.type "ValueError") = decide (0 = k)
  k1 : tl.contains (.type "LookupError") = decide (1 = k)
  k2 : tl.contains (.type "OverflowError") = decide (2 = k)
  k3 : tl.contains (.type "RuntimeError") = decide (3 = k)
abbrev tV : List Value := [.type "ValueError", .type "Exception", .type "BaseException", .type "object"]
abbrev tL : List Value := [.type "LookupError", .type "Exception", .type "BaseException", .type "object"]
abbrev tO : List Value := [.type "OverflowError", .type "ArithmeticError", .type "Exception", .type "BaseException", .type "object"]
abbrev tR : List Value := [.type "RuntimeError", .type "Exception", .type "BaseException", .type "object"]
section
variable {K : PySem.W.Frag} {C D : Addr} {tl tl' : List Value} {k k' : Nat} {nm q : Str} {N : Addr} {bs : List Value} {sn : List Str} {sub : List Value} {ab : Bool} {col : Option Bool} {dd : Option Addr} {k0 k1 k2 k3 k5 : Option Value} {nI : String} {hdct : Bool}
theorem cls_x (x : K.lookup C = some (excClassObj nm q C N bs tl hdct sn sub ab col dd k0 k1 k2 k3 k5 nI)) : ∃ cd, PySem.W.clsIn K C = some cd ∧ cd.mro = .ref C :: tl := by
  unfold PySem.W.clsIn
  rw [x]
  exact ⟨_, rfl, rfl⟩
theorem recV (x : K.lookup C = some (excClassObj nm q C N bs tV hdct sn sub ab col dd k0 k1 k2 k3 k5 nI)) (ty : PySem.W.typeIn K (.ref C) = some (.type "type")) : Rec K C tV 0 :=
  ⟨cls_x x, ty, fun D => by simp, by decide +kernel, by decide +kernel, by decide +kernel, by decide +kernel, by decide +kernel⟩
theorem recL (x : K.lookup C = some (excClassObj nm q C N bs tL hdct sn sub ab col dd k0 k1 k2 k3 k5 nI)) (ty : PySem.W.typeIn K (.ref C) = some (.type "type")) : Rec K C tL 1 :=
  ⟨cls_x x, ty, fun D => by simp, by decide +kernel, by decide +kernel, by decide +kernel, by decide +kernel, by decide +kernel⟩
theorem recO (x : K.lookup C = some (excClassObj nm q C N bs tO hdct sn sub ab col dd k0 k1 k2 k3 k5 nI)) (ty : PySem.W.typeIn K (.ref C) = some (.type "type")) : Rec K C tO 2 :=
  ⟨cls_x x, ty, fun D => by simp, by decide +kernel, by decide +kernel, by decide +kernel, by decide +kernel, by decide +kernel⟩
theorem recR (x : K.lookup C = some (excClassObj nm q C N bs tR hdct sn sub ab col dd k0 k1 k2 k3 k5 nI)) (ty : PySem.W.typeIn K (.ref C) = some (.type "type")) : Rec K C tR 3 :=
  ⟨cls_x x, ty, fun D => by simp, by decide +kernel, by decide +kernel, by decide +kernel, by decide +kernel, by decide +kernel⟩
theorem Rec.mro (r : Rec K C tl k) (b : Value) : PySem.W.mroIn K C b = some ((Value.ref C :: tl).contains b) := by
  obtain ⟨cd, h1, h2⟩ := r.cl
  unfold PySem.W.mroIn
  rw [h1, Option.bind_some, if_neg (by rw [h2]; exact Bool.false_ne_true), h2]
theorem Rec.sb (r : Rec K C tl k) (b : Value) : PySem.W.subIn K (.ref C) b = some ((Value.ref C :: tl).contains b) := r.mro b
theorem Rec.some (r : Rec K C tl k) : (PySem.W.clsIn K C).isSome = true := by
  obtain ⟨cd, h1, _⟩ := r.cl
  rw [h1]
  rfl
theorem kit_same : PySem.W.kitOne K (.ref C) (.ref C) = Option.some true := if_pos (by simp)
theorem kit_diff (r : Rec K C tl k) (r' : Rec K D tl' k') (ne : C ≠ D) : PySem.W.kitOne K (.ref C) (.ref D) = Option.some false := by
  have e : (Value.ref C == Value.ref D) = false := by
    refine beq_eq_false_iff_ne.mpr fun z => ne ?_
    injection z
  unfold PySem.W.kitOne PySem.W.kitCls
  rw [if_neg (by rw [e]; exact Bool.false_ne_true)]
  show (if ((PySem.W.clsIn K D).isSome && PySem.W.typeIn K (.ref D) == Option.some (.type "type")) = true then PySem.W.subIn K (.ref C) (.ref D) else none) = Option.some false
  rw [if_pos (by rw [r'.some, r'.ty]; simp), r.sb, List.contains_cons, r.no]
  have e2 : (Value.ref D == Value.ref C) = false := by
    refine beq_eq_false_iff_ne.mpr fun z => ne ?_
    injection z with z
    exact z.symm
  rw [e2]
  rfl
theorem kit_base (r : Rec K C tl k) {n : String} {b : Bool} (hm : PySem.W.kitMeta n = true) (h : tl.contains (.type n) = b) : PySem.W.kitOne K (.ref C) (.type n) = Option.some b := by
  have e : (Value.ref C == Value.type n) = false := by simp
  unfold PySem.W.kitOne PySem.W.kitCls
  rw [if_neg (by rw [e]; exact Bool.false_ne_true)]
  show (if PySem.W.kitMeta n = true then PySem.W.subIn K (.ref C) (.type n) else none) = Option.some b
  rw [if_pos hm, r.sb, List.contains_cons, h]
  have e2 : (Value.type n == Value.ref C) = false := by simp
  rw [e2]
  rfl
end
def cF (cs : List Addr) : Nat → Addr := fun i => cs.getD i 0
theorem allK_of {K : PySem.W.Frag} {cs : List Addr} (hl : cs.length = 27) (nd : cs.Nodup) (R : ∀ i, i < 27 → ∃ tl, Rec K (cF cs i) tl (due i)) (hX : ∀ i, i < 27 → XfC K (cF cs i)) (hA : ∀ i, i < 27 → PySem.W.findIn K (.ref (cF cs i)) "__class__" = some (some (.builtin "object.__class__")))
    (hn : PySem.W.specialIn K (.builtin "object.__class__") "__get__" = some (some (.builtin "getset_descriptor.__get__"))) (tk : PySem.W.takesIn K (.builtin "object.__class__") = some true) (nfp : PySem.W.findIn K (.ref (cF cs 4)) "place" = some none)
    (nf0 : PySem.W.findIn K (.ref (cF cs 0)) "value" = some none) (nf1 : PySem.W.findIn K (.ref (cF cs 1)) "field" = some none) (nf2 : PySem.W.findIn K (.ref (cF cs 2)) "number" = some none) (nf3 : PySem.W.findIn K (.ref (cF cs 3)) "number" = some none) (nf4 : PySem.W.findIn K (.ref (cF cs 4)) "service" = some none) (nf5 : PySem.W.findIn K (.ref (cF cs 5)) "line" = some none) (nf6 : PySem.W.findIn K (.ref (cF cs 6)) "value" = some none) (nf7 : PySem.W.findIn K (.ref (cF cs 7)) "path" = some none) (nf8 : PySem.W.findIn K (.ref (cF cs 8)) "value" = some none) (nf9 : PySem.W.findIn K (.ref (cF cs 9)) "value" = some none) (nf10 : PySem.W.findIn K (.ref (cF cs 10)) "value" = some none) (nf11 : PySem.W.findIn K (.ref (cF cs 11)) "value" = some none) (nf12 : PySem.W.findIn K (.ref (cF cs 12)) "field" = some none) (nf13 : PySem.W.findIn K (.ref (cF cs 13)) "value" = some none) (nf14 : PySem.W.findIn K (.ref (cF cs 14)) "value" = some none) (nf15 : PySem.W.findIn K (.ref (cF cs 15)) "field" = some none) (nf16 : PySem.W.findIn K (.ref (cF cs 16)) "number" = some none) (nf17 : PySem.W.findIn K (.ref (cF cs 17)) "number" = some none) (nf18 : PySem.W.findIn K (.ref (cF cs 18)) "word" = some none) (nf19 : PySem.W.findIn K (.ref (cF cs 19)) "word" = some none) (nf20 : PySem.W.findIn K (.ref (cF cs 20)) "value" = some none) (nf21 : PySem.W.findIn K (.ref (cF cs 21)) "service" = some none) (nf22 : PySem.W.findIn K (.ref (cF cs 22)) "most" = some none) : AllK K (cF cs) := by
  have kb : ∀ i, i < 27 → ∀ (n : String) (b : Bool), PySem.W.kitMeta n = true → (∀ tl, Rec K (cF cs i) tl (due i) → tl.contains (.type n) = b) → PySem.W.kitOne K (.ref (cF cs i)) (.type n) = some b := fun i hi n b hm h => by
    obtain ⟨tl, r⟩ := R i hi
    exact kit_base r hm (h tl r)
  refine ⟨fun i hi => ?_, fun i j hi hj => ?_, fun i hi => kb i hi _ _ (by decide +kernel) fun tl r => r.k0, fun i hi => kb i hi _ _ (by decide +kernel) fun tl r => r.k1, fun i hi => kb i hi _ _ (by decide +kernel) fun tl r => r.k2, fun i hi => kb i hi _ _ (by decide +kernel) fun tl r => r.k3, nfp, nf0, nf1, nf2, nf3, nf4, nf5, nf6, nf7, nf8, nf9, nf10, nf11, nf12, nf13, nf14, nf15, nf16, nf17, nf18, nf19, nf20, nf21, nf22⟩
  · obtain ⟨tl, r⟩ := R i hi
    exact ⟨r.some, hX i hi, hA i hi, hn, tk, by rw [r.mro, List.contains_cons, r.ob, Bool.or_true]⟩
  · obtain ⟨tl, r⟩ := R i hi
    obtain ⟨tl', r'⟩ := R j hj
    by_cases e : j = i
    · subst e
      rw [decide_eq_true rfl]
      exact kit_same
    · rw [decide_eq_false e]
      refine kit_diff r r' fun z => e ?_
      unfold cF at z
      have h1 : i < cs.length := by omega
      have h2 : j < cs.length := by omega
      rw [List.getD_eq_getElem?_getD, List.getD_eq_getElem?_getD, List.getElem?_eq_getElem h1, List.getElem?_eq_getElem h2] at z
      exact ((List.getElem_inj nd).mp z).symm
end K1

namespace K1
open PySem PySem.Spec PyProof.Rows L2 Mc Mx
theorem all_mk {l : PySem.W.OpenLaw} {w : World} {K : PySem.W.Frag} {h : Heap} {mg : Str → Option Value} {fa : Addr} {fg0 : Addr} {odg0 ang0 : Option Addr} {slg0 : Array (Option Value)} {ocg0 dcg0 pmg0 cdg0 ctg0 kVg0 : Value} {fg1 : Addr} {odg1 ang1 : Option Addr} {slg1 : Array (Option Value)} {ocg1 dcg1 pmg1 cdg1 ctg1 kVg1 : Value} {fg2 : Addr} {odg2 ang2 : Option Addr} {slg2 : Array (Option Value)} {ocg2 dcg2 pmg2 cdg2 ctg2 kVg2 : Value} {fg3 : Addr} {odg3 ang3 : Option Addr} {slg3 : Array (Option Value)} {ocg3 dcg3 pmg3 cdg3 ctg3 kVg3 : Value} {fg4 : Addr} {odg4 ang4 : Option Addr} {slg4 : Array (Option Value)} {ocg4 dcg4 pmg4 cdg4 ctg4 kVg4 : Value} {fg5 : Addr} {odg5 ang5 : Option Addr} {slg5 : Array (Option Value)} {ocg5 dcg5 pmg5 cdg5 ctg5 kVg5 : Value} {fg6 : Addr} {odg6 ang6 : Option Addr} {slg6 : Array (Option Value)} {ocg6 dcg6 pmg6 cdg6 ctg6 kVg6 : Value} {fL : Addr} {odL anL : Option Addr} {slL : Array (Option Value)} {ocL dcL pmL cdL ctL kVL : Value} {C0 : Addr} {nmE0 qnE0 : Str} {NE0 : Addr} {bsE0 : List Value} {snE0 : List Str} {subE0 : List Value} {abE0 : Bool} {colE0 : Option Bool} {ddE0 : Option Addr} {k0E0 k1E0 k2E0 k3E0 k5E0 : Option Value} {fE0 cE0 ccE0 : Addr} {odE0 anE0 cddE0 cldE0 : Option Addr} {oslE0 ccsE0 cslE0 : Array (Option Value)} {ocE0 kVE0 dcE0 pmE0 ctE0 cclE0 clE0 : Value} {vsE0 : Array Value} {flE0 : Str} {tfE0 : Tok} {C1 : Addr} {nmE1 qnE1 : Str} {NE1 : Addr} {bsE1 : List Value} {snE1 : List Str} {subE1 : List Value} {abE1 : Bool} {colE1 : Option Bool} {ddE1 : Option Addr} {k0E1 k1E1 k2E1 k3E1 k5E1 : Option Value} {fE1 cE1 ccE1 : Addr} {odE1 anE1 cddE1 cldE1 : Option Addr} {oslE1 ccsE1 cslE1 : Array (Option Value)} {ocE1 kVE1 dcE1 pmE1 ctE1 cclE1 clE1 : Value} {vsE1 : Array Value} {flE1 : Str} {tfE1 : Tok} {C2 : Addr} {nmE2 qnE2 : Str} {NE2 : Addr} {bsE2 : List Value} {snE2 : List Str} {subE2 : List Value} {abE2 : Bool} {colE2 : Option Bool} {ddE2 : Option Addr} {k0E2 k1E2 k2E2 k3E2 k5E2 : Option Value} {fE2 cE2 ccE2 : Addr} {odE2 anE2 cddE2 cldE2 : Option Addr} {oslE2 ccsE2 cslE2 : Array (Option Value)} {ocE2 kVE2 dcE2 pmE2 ctE2 cclE2 clE2 : Value} {vsE2 : Array Value} {flE2 : Str} {tfE2 : Tok} {C3 : Addr} {nmE3 qnE3 : Str} {NE3 : Addr} {bsE3 : List Value} {snE3 : List Str} {subE3 : List Value} {abE3 : Bool} {colE3 : Option Bool} {ddE3 : Option Addr} {k0E3 k1E3 k2E3 k3E3 k5E3 : Option Value} {fE3 cE3 ccE3 : Addr} {odE3 anE3 cddE3 cldE3 : Option Addr} {oslE3 ccsE3 cslE3 : Array (Option Value)} {ocE3 kVE3 dcE3 pmE3 ctE3 cclE3 clE3 : Value} {vsE3 : Array Value} {flE3 : Str} {tfE3 : Tok} {C4 : Addr} {nmE4 qnE4 : Str} {NE4 : Addr} {bsE4 : List Value} {snE4 : List Str} {subE4 : List Value} {abE4 : Bool} {colE4 : Option Bool} {ddE4 : Option Addr} {k0E4 k1E4 k2E4 k3E4 k5E4 : Option Value} {fE4 cE4 ccE4 : Addr} {odE4 anE4 cddE4 cldE4 : Option Addr} {oslE4 ccsE4 cslE4 : Array (Option Value)} {ocE4 kVE4 dcE4 pmE4 ctE4 cclE4 clE4 : Value} {vsE4 : Array Value} {flE4 : Str} {tfE4 : Tok} {C5 : Addr} {nmE5 qnE5 : Str} {NE5 : Addr} {bsE5 : List Value} {snE5 : List Str} {subE5 : List Value} {abE5 : Bool} {colE5 : Option Bool} {ddE5 : Option Addr} {k0E5 k1E5 k2E5 k3E5 k5E5 : Option Value} {fE5 cE5 ccE5 : Addr} {odE5 anE5 cddE5 cldE5 : Option Addr} {oslE5 ccsE5 cslE5 : Array (Option Value)} {ocE5 kVE5 dcE5 pmE5 ctE5 cclE5 clE5 : Value} {vsE5 : Array Value} {flE5 : Str} {tfE5 : Tok} {C6 : Addr} {nmE6 qnE6 : Str} {NE6 : Addr} {bsE6 : List Value} {snE6 : List Str} {subE6 : List Value} {abE6 : Bool} {colE6 : Option Bool} {ddE6 : Option Addr} {k0E6 k1E6 k2E6 k3E6 k5E6 : Option Value} {fE6 cE6 ccE6 : Addr} {odE6 anE6 cddE6 cldE6 : Option Addr} {oslE6 ccsE6 cslE6 : Array (Option Value)} {ocE6 kVE6 dcE6 pmE6 ctE6 cclE6 clE6 : Value} {vsE6 : Array Value} {flE6 : Str} {tfE6 : Tok} {C7 : Addr} {nmE7 qnE7 : Str} {NE7 : Addr} {bsE7 : List Value} {snE7 : List Str} {subE7 : List Value} {abE7 : Bool} {colE7 : Option Bool} {ddE7 : Option Addr} {k0E7 k1E7 k2E7 k3E7 k5E7 : Option Value} {fE7 cE7 ccE7 : Addr} {odE7 anE7 cddE7 cldE7 : Option Addr} {oslE7 ccsE7 cslE7 : Array (Option Value)} {ocE7 kVE7 dcE7 pmE7 ctE7 cclE7 clE7 : Value} {vsE7 : Array Value} {flE7 : Str} {tfE7 : Tok} {C8 : Addr} {nmE8 qnE8 : Str} {NE8 : Addr} {bsE8 : List Value} {snE8 : List Str} {subE8 : List Value} {abE8 : Bool} {colE8 : Option Bool} {ddE8 : Option Addr} {k0E8 k1E8 k2E8 k3E8 k5E8 : Option Value} {fE8 cE8 ccE8 : Addr} {odE8 anE8 cddE8 cldE8 : Option Addr} {oslE8 ccsE8 cslE8 : Array (Option Value)} {ocE8 kVE8 dcE8 pmE8 ctE8 cclE8 clE8 : Value} {vsE8 : Array Value} {flE8 : Str} {tfE8 : Tok} {C9 : Addr} {nmE9 qnE9 : Str} {NE9 : Addr} {bsE9 : List Value} {snE9 : List Str} {subE9 : List Value} {abE9 : Bool} {colE9 : Option Bool} {ddE9 : Option Addr} {k0E9 k1E9 k2E9 k3E9 k5E9 : Option Value} {fE9 cE9 ccE9 : Addr} {odE9 anE9 cddE9 cldE9 : Option Addr} {oslE9 ccsE9 cslE9 : Array (Option Value)} {ocE9 kVE9 dcE9 pmE9 ctE9 cclE9 clE9 : Value} {vsE9 : Array Value} {flE9 : Str} {tfE9 : Tok} {C10 : Addr} {nmE10 qnE10 : Str} {NE10 : Addr} {bsE10 : List Value} {snE10 : List Str} {subE10 : List Value} {abE10 : Bool} {colE10 : Option Bool} {ddE10 : Option Addr} {k0E10 k1E10 k2E10 k3E10 k5E10 : Option Value} {fE10 cE10 ccE10 : Addr} {odE10 anE10 cddE10 cldE10 : Option Addr} {oslE10 ccsE10 cslE10 : Array (Option Value)} {ocE10 kVE10 dcE10 pmE10 ctE10 cclE10 clE10 : Value} {vsE10 : Array Value} {flE10 : Str} {tfE10 : Tok} {C11 : Addr} {nmE11 qnE11 : Str} {NE11 : Addr} {bsE11 : List Value} {snE11 : List Str} {subE11 : List Value} {abE11 : Bool} {colE11 : Option Bool} {ddE11 : Option Addr} {k0E11 k1E11 k2E11 k3E11 k5E11 : Option Value} {fE11 cE11 ccE11 : Addr} {odE11 anE11 cddE11 cldE11 : Option Addr} {oslE11 ccsE11 cslE11 : Array (Option Value)} {ocE11 kVE11 dcE11 pmE11 ctE11 cclE11 clE11 : Value} {vsE11 : Array Value} {flE11 : Str} {tfE11 : Tok} {C12 : Addr} {nmE12 qnE12 : Str} {NE12 : Addr} {bsE12 : List Value} {snE12 : List Str} {subE12 : List Value} {abE12 : Bool} {colE12 : Option Bool} {ddE12 : Option Addr} {k0E12 k1E12 k2E12 k3E12 k5E12 : Option Value} {fE12 cE12 ccE12 : Addr} {odE12 anE12 cddE12 cldE12 : Option Addr} {oslE12 ccsE12 cslE12 : Array (Option Value)} {ocE12 kVE12 dcE12 pmE12 ctE12 cclE12 clE12 : Value} {vsE12 : Array Value} {flE12 : Str} {tfE12 : Tok} {C13 : Addr} {nmE13 qnE13 : Str} {NE13 : Addr} {bsE13 : List Value} {snE13 : List Str} {subE13 : List Value} {abE13 : Bool} {colE13 : Option Bool} {ddE13 : Option Addr} {k0E13 k1E13 k2E13 k3E13 k5E13 : Option Value} {fE13 cE13 ccE13 : Addr} {odE13 anE13 cddE13 cldE13 : Option Addr} {oslE13 ccsE13 cslE13 : Array (Option Value)} {ocE13 kVE13 dcE13 pmE13 ctE13 cclE13 clE13 : Value} {vsE13 : Array Value} {flE13 : Str} {tfE13 : Tok} {C14 : Addr} {nmE14 qnE14 : Str} {NE14 : Addr} {bsE14 : List Value} {snE14 : List Str} {subE14 : List Value} {abE14 : Bool} {colE14 : Option Bool} {ddE14 : Option Addr} {k0E14 k1E14 k2E14 k3E14 k5E14 : Option Value} {fE14 cE14 ccE14 : Addr} {odE14 anE14 cddE14 cldE14 : Option Addr} {oslE14 ccsE14 cslE14 : Array (Option Value)} {ocE14 kVE14 dcE14 pmE14 ctE14 cclE14 clE14 : Value} {vsE14 : Array Value} {flE14 : Str} {tfE14 : Tok} {C15 : Addr} {nmE15 qnE15 : Str} {NE15 : Addr} {bsE15 : List Value} {snE15 : List Str} {subE15 : List Value} {abE15 : Bool} {colE15 : Option Bool} {ddE15 : Option Addr} {k0E15 k1E15 k2E15 k3E15 k5E15 : Option Value} {fE15 cE15 ccE15 : Addr} {odE15 anE15 cddE15 cldE15 : Option Addr} {oslE15 ccsE15 cslE15 : Array (Option Value)} {ocE15 kVE15 dcE15 pmE15 ctE15 cclE15 clE15 : Value} {vsE15 : Array Value} {flE15 : Str} {tfE15 : Tok} {C16 : Addr} {nmE16 qnE16 : Str} {NE16 : Addr} {bsE16 : List Value} {snE16 : List Str} {subE16 : List Value} {abE16 : Bool} {colE16 : Option Bool} {ddE16 : Option Addr} {k0E16 k1E16 k2E16 k3E16 k5E16 : Option Value} {fE16 cE16 ccE16 : Addr} {odE16 anE16 cddE16 cldE16 : Option Addr} {oslE16 ccsE16 cslE16 : Array (Option Value)} {ocE16 kVE16 dcE16 pmE16 ctE16 cclE16 clE16 : Value} {vsE16 : Array Value} {flE16 : Str} {tfE16 : Tok} {C17 : Addr} {nmE17 qnE17 : Str} {NE17 : Addr} {bsE17 : List Value} {snE17 : List Str} {subE17 : List Value} {abE17 : Bool} {colE17 : Option Bool} {ddE17 : Option Addr} {k0E17 k1E17 k2E17 k3E17 k5E17 : Option Value} {fE17 cE17 ccE17 : Addr} {odE17 anE17 cddE17 cldE17 : Option Addr} {oslE17 ccsE17 cslE17 : Array (Option Value)} {ocE17 kVE17 dcE17 pmE17 ctE17 cclE17 clE17 : Value} {vsE17 : Array Value} {flE17 : Str} {tfE17 : Tok} {C18 : Addr} {nmE18 qnE18 : Str} {NE18 : Addr} {bsE18 : List Value} {snE18 : List Str} {subE18 : List Value} {abE18 : Bool} {colE18 : Option Bool} {ddE18 : Option Addr} {k0E18 k1E18 k2E18 k3E18 k5E18 : Option Value} {fE18 cE18 ccE18 : Addr} {odE18 anE18 cddE18 cldE18 : Option Addr} {oslE18 ccsE18 cslE18 : Array (Option Value)} {ocE18 kVE18 dcE18 pmE18 ctE18 cclE18 clE18 : Value} {vsE18 : Array Value} {flE18 : Str} {tfE18 : Tok} {C19 : Addr} {nmE19 qnE19 : Str} {NE19 : Addr} {bsE19 : List Value} {snE19 : List Str} {subE19 : List Value} {abE19 : Bool} {colE19 : Option Bool} {ddE19 : Option Addr} {k0E19 k1E19 k2E19 k3E19 k5E19 : Option Value} {fE19 cE19 ccE19 : Addr} {odE19 anE19 cddE19 cldE19 : Option Addr} {oslE19 ccsE19 cslE19 : Array (Option Value)} {ocE19 kVE19 dcE19 pmE19 ctE19 cclE19 clE19 : Value} {vsE19 : Array Value} {flE19 : Str} {tfE19 : Tok} {C20 : Addr} {nmE20 qnE20 : Str} {NE20 : Addr} {bsE20 : List Value} {snE20 : List Str} {subE20 : List Value} {abE20 : Bool} {colE20 : Option Bool} {ddE20 : Option Addr} {k0E20 k1E20 k2E20 k3E20 k5E20 : Option Value} {fE20 cE20 ccE20 : Addr} {odE20 anE20 cddE20 cldE20 : Option Addr} {oslE20 ccsE20 cslE20 : Array (Option Value)} {ocE20 kVE20 dcE20 pmE20 ctE20 cclE20 clE20 : Value} {vsE20 : Array Value} {flE20 : Str} {tfE20 : Tok} {C21 : Addr} {nmE21 qnE21 : Str} {NE21 : Addr} {bsE21 : List Value} {snE21 : List Str} {subE21 : List Value} {abE21 : Bool} {colE21 : Option Bool} {ddE21 : Option Addr} {k0E21 k1E21 k2E21 k3E21 k5E21 : Option Value} {fE21 cE21 ccE21 : Addr} {odE21 anE21 cddE21 cldE21 : Option Addr} {oslE21 ccsE21 cslE21 : Array (Option Value)} {ocE21 kVE21 dcE21 pmE21 ctE21 cclE21 clE21 : Value} {vsE21 : Array Value} {flE21 : Str} {tfE21 : Tok} {C22 : Addr} {nmE22 qnE22 : Str} {NE22 : Addr} {bsE22 : List Value} {snE22 : List Str} {subE22 : List Value} {abE22 : Bool} {colE22 : Option Bool} {ddE22 : Option Addr} {k0E22 k1E22 k2E22 k3E22 k5E22 : Option Value} {fE22 cE22 ccE22 : Addr} {odE22 anE22 cddE22 cldE22 : Option Addr} {oslE22 ccsE22 cslE22 : Array (Option Value)} {ocE22 kVE22 dcE22 pmE22 ctE22 cclE22 clE22 : Value} {vsE22 : Array Value} {flE22 : Str} {tfE22 : Tok} {C23 : Addr} {nmE23 qnE23 : Str} {NE23 : Addr} {bsE23 : List Value} {snE23 : List Str} {subE23 : List Value} {abE23 : Bool} {colE23 : Option Bool} {ddE23 : Option Addr} {k0E23 k1E23 k2E23 k3E23 k5E23 : Option Value} {C24 : Addr} {nmE24 qnE24 : Str} {NE24 : Addr} {bsE24 : List Value} {snE24 : List Str} {subE24 : List Value} {abE24 : Bool} {colE24 : Option Bool} {ddE24 : Option Addr} {k0E24 k1E24 k2E24 k3E24 k5E24 : Option Value} {C25 : Addr} {nmE25 qnE25 : Str} {NE25 : Addr} {bsE25 : List Value} {snE25 : List Str} {subE25 : List Value} {abE25 : Bool} {colE25 : Option Bool} {ddE25 : Option Addr} {k0E25 k1E25 k2E25 k3E25 k5E25 : Option Value} {C26 : Addr} {nmE26 qnE26 : Str} {NE26 : Addr} {bsE26 : List Value} {snE26 : List Str} {subE26 : List Value} {abE26 : Bool} {colE26 : Option Bool} {ddE26 : Option Addr} {k0E26 k1E26 k2E26 k3E26 k5E26 : Option Value}
    (X : K.In h) (G : h.Ns mainGlobals mg) (hfa : mg "law" = some (.ref fa))
    (ag0 : PySem.W.nsIn K mainGlobals "_law_pool" = some (some (.ref fg0)))
    (lg0 : K.lookup fg0 = some ⟨ocg0, odg0, .func (PySem.W.fnOf "_law_pool" "_law_pool" (defArgs s_law_pool) (defBody s_law_pool) (defScope s_law_pool) .none kVg0 dcg0 pmg0 ang0 cdg0 ctg0), slg0⟩)
    (cg0 : PySem.W.codeIn K cdg0 "_law_pool" = true)
    (kg0 : PySem.W.keepIn K (.ref fg0) = true)
    (ag1 : PySem.W.nsIn K mainGlobals "_law_draw" = some (some (.ref fg1)))
    (lg1 : K.lookup fg1 = some ⟨ocg1, odg1, .func (PySem.W.fnOf "_law_draw" "_law_draw" (defArgs s_law_draw) (defBody s_law_draw) (defScope s_law_draw) .none kVg1 dcg1 pmg1 ang1 cdg1 ctg1), slg1⟩)
    (cg1 : PySem.W.codeIn K cdg1 "_law_draw" = true)
    (kg1 : PySem.W.keepIn K (.ref fg1) = true)
    (ag2 : PySem.W.nsIn K mainGlobals "_law_choose" = some (some (.ref fg2)))
    (lg2 : K.lookup fg2 = some ⟨ocg2, odg2, .func (PySem.W.fnOf "_law_choose" "_law_choose" (defArgs s_law_choose) (defBody s_law_choose) (defScope s_law_choose) .none kVg2 dcg2 pmg2 ang2 cdg2 ctg2), slg2⟩)
    (cg2 : PySem.W.codeIn K cdg2 "_law_choose" = true)
    (kg2 : PySem.W.keepIn K (.ref fg2) = true)
    (ag3 : PySem.W.nsIn K mainGlobals "_law_made" = some (some (.ref fg3)))
    (lg3 : K.lookup fg3 = some ⟨ocg3, odg3, .func (PySem.W.fnOf "_law_made" "_law_made" (defArgs s_law_made) (defBody s_law_made) (defScope s_law_made) .none kVg3 dcg3 pmg3 ang3 cdg3 ctg3), slg3⟩)
    (cg3 : PySem.W.codeIn K cdg3 "_law_made" = true)
    (kg3 : PySem.W.keepIn K (.ref fg3) = true)
    (ag4 : PySem.W.nsIn K mainGlobals "_law_named" = some (some (.ref fg4)))
    (lg4 : K.lookup fg4 = some ⟨ocg4, odg4, .func (PySem.W.fnOf "_law_named" "_law_named" (defArgs s_law_named) (defBody s_law_named) (defScope s_law_named) .none kVg4 dcg4 pmg4 ang4 cdg4 ctg4), slg4⟩)
    (cg4 : PySem.W.codeIn K cdg4 "_law_named" = true)
    (kg4 : PySem.W.keepIn K (.ref fg4) = true)
    (ag5 : PySem.W.nsIn K mainGlobals "_law_fields" = some (some (.ref fg5)))
    (lg5 : K.lookup fg5 = some ⟨ocg5, odg5, .func (PySem.W.fnOf "_law_fields" "_law_fields" (defArgs s_law_fields) (defBody s_law_fields) (defScope s_law_fields) .none kVg5 dcg5 pmg5 ang5 cdg5 ctg5), slg5⟩)
    (cg5 : PySem.W.codeIn K cdg5 "_law_fields" = true)
    (kg5 : PySem.W.keepIn K (.ref fg5) = true)
    (ag6 : PySem.W.nsIn K mainGlobals "_law_kinds" = some (some (.ref fg6)))
    (lg6 : K.lookup fg6 = some ⟨ocg6, odg6, .func (PySem.W.fnOf "_law_kinds" "_law_kinds" (defArgs s_law_kinds) (defBody s_law_kinds) (defScope s_law_kinds) .none kVg6 dcg6 pmg6 ang6 cdg6 ctg6), slg6⟩)
    (cg6 : PySem.W.codeIn K cdg6 "_law_kinds" = true)
    (kg6 : PySem.W.keepIn K (.ref fg6) = true)
    (aL : PySem.W.nsIn K mainGlobals "law" = some (some (.ref fL)))
    (lL : K.lookup fL = some ⟨ocL, odL, .func (PySem.W.fnOf "law" "law" (defArgs s_law) (defBody s_law) (defScope s_law) .none kVL dcL pmL anL cdL ctL), slL⟩)
    (cL : PySem.W.codeIn K cdL "law" = true)
    (kL : PySem.W.keepIn K (.ref fL) = true)
    (z_isinstance : PySem.W.nsIn K mainGlobals "isinstance" = some none)
    (z_len : PySem.W.nsIn K mainGlobals "len" = some none)
    (z_range : PySem.W.nsIn K mainGlobals "range" = some none)
    (z_repr : PySem.W.nsIn K mainGlobals "repr" = some none)
    (z_max : PySem.W.nsIn K mainGlobals "max" = some none)
    (z_min : PySem.W.nsIn K mainGlobals "min" = some none)
    (z_int : PySem.W.nsIn K mainGlobals "int" = some none)
    (z_enumerate : PySem.W.nsIn K mainGlobals "enumerate" = some none)
    (z_ValueError : PySem.W.nsIn K mainGlobals "ValueError" = some none)
    (z_LookupError : PySem.W.nsIn K mainGlobals "LookupError" = some none)
    (z_OverflowError : PySem.W.nsIn K mainGlobals "OverflowError" = some none)
    (z_RuntimeError : PySem.W.nsIn K mainGlobals "RuntimeError" = some none)
    (z_super : PySem.W.nsIn K mainGlobals "super" = some none)
    (ghn : PySem.W.specialIn K (.builtin "object.__class__") "__get__" = some (some (.builtin "getset_descriptor.__get__")))
    (gtk : PySem.W.takesIn K (.builtin "object.__class__") = some true)
    (tp : PySem.W.nsIn K cStatics "thirdparty.any" = some none)
    (top : (l.prog.main.scope.names.lookup ("super" : Str)).isSome = false)
    (gE0 : PySem.W.nsIn K mainGlobals "InvalidName" = some (some (.ref C0)))
    (xE0 : K.lookup C0 = some (excClassObj nmE0 qnE0 C0 NE0 bsE0 tV true snE0 subE0 abE0 colE0 ddE0 k0E0 k1E0 k2E0 k3E0 k5E0 "ValueError.__new__"))
    (beE0 : PySem.W.subIn K (.ref C0) (.type "BaseException") = some true)
    (tyE0 : PySem.W.typeIn K (.ref C0) = some (.type "type"))
    (kpE0 : PySem.W.keepIn K (.ref C0) = true)
    (gaE0 : PySem.W.findIn K (.ref C0) "__getattribute__" = some (some (.builtin "BaseException.__getattribute__")))
    (ggE0 : PySem.W.findIn K (.ref C0) "__getattr__" = some none)
    (hdE0 : PySem.W.hasDictIn K C0 = true)
    (caE0 : PySem.W.findIn K (.ref C0) "__class__" = some (some (.builtin "object.__class__")))
    (saE0 : PySem.W.findIn K (.ref C0) "__setattr__" = some (some (.builtin "object.__setattr__")))
    (suE0 : PySem.W.ks_superIn K C0 C0 "__init__" = some (some (.builtin "ValueError.__init__")))
    (veE0 : PySem.W.subIn K (.ref C0) (.type "ValueError") = some true)
    (nfE0 : PySem.W.findIn K (.ref C0) "value" = some none)
    (iE0 : PySem.W.findIn K (.ref C0) "__init__" = some (some (.ref fE0)))
    (lE0 : K.lookup fE0 = some ⟨ocE0, odE0, .func (PySem.W.ksFn "__init__" "InvalidName.__init__" (defArgs s_InvalidNameinit) (defBody s_InvalidNameinit) (defScope s_InvalidNameinit) .none kVE0 dcE0 pmE0 anE0 (.ref cE0) ctE0 ccE0), oslE0⟩)
    (tE0 : PySem.W.typeIn K (.ref fE0) = some (.type "function"))
    (cdE0 : PySem.W.codeIn K (.ref cE0) "InvalidName.__init__" = true)
    (lcE0 : K.lookup cE0 = some ⟨cclE0, cddE0, .fields vsE0, ccsE0⟩)
    (v2E0 : vsE0[2]? = some (.str flE0 tfE0))
    (fiE0 : ((l.prog.main.file : Str) == flE0) = true)
    (llE0 : K.lookup ccE0 = some ⟨clE0, cldE0, .cell (some (.ref C0)), cslE0⟩)
    (gE1 : PySem.W.nsIn K mainGlobals "InvalidPolicy" = some (some (.ref C1)))
    (xE1 : K.lookup C1 = some (excClassObj nmE1 qnE1 C1 NE1 bsE1 tV true snE1 subE1 abE1 colE1 ddE1 k0E1 k1E1 k2E1 k3E1 k5E1 "ValueError.__new__"))
    (beE1 : PySem.W.subIn K (.ref C1) (.type "BaseException") = some true)
    (tyE1 : PySem.W.typeIn K (.ref C1) = some (.type "type"))
    (kpE1 : PySem.W.keepIn K (.ref C1) = true)
    (gaE1 : PySem.W.findIn K (.ref C1) "__getattribute__" = some (some (.builtin "BaseException.__getattribute__")))
    (ggE1 : PySem.W.findIn K (.ref C1) "__getattr__" = some none)
    (hdE1 : PySem.W.hasDictIn K C1 = true)
    (caE1 : PySem.W.findIn K (.ref C1) "__class__" = some (some (.builtin "object.__class__")))
    (saE1 : PySem.W.findIn K (.ref C1) "__setattr__" = some (some (.builtin "object.__setattr__")))
    (suE1 : PySem.W.ks_superIn K C1 C1 "__init__" = some (some (.builtin "ValueError.__init__")))
    (veE1 : PySem.W.subIn K (.ref C1) (.type "ValueError") = some true)
    (nfE1 : PySem.W.findIn K (.ref C1) "field" = some none)
    (iE1 : PySem.W.findIn K (.ref C1) "__init__" = some (some (.ref fE1)))
    (lE1 : K.lookup fE1 = some ⟨ocE1, odE1, .func (PySem.W.ksFn "__init__" "InvalidPolicy.__init__" (defArgs s_InvalidPolicyinit) (defBody s_InvalidPolicyinit) (defScope s_InvalidPolicyinit) .none kVE1 dcE1 pmE1 anE1 (.ref cE1) ctE1 ccE1), oslE1⟩)
    (tE1 : PySem.W.typeIn K (.ref fE1) = some (.type "function"))
    (cdE1 : PySem.W.codeIn K (.ref cE1) "InvalidPolicy.__init__" = true)
    (lcE1 : K.lookup cE1 = some ⟨cclE1, cddE1, .fields vsE1, ccsE1⟩)
    (v2E1 : vsE1[2]? = some (.str flE1 tfE1))
    (fiE1 : ((l.prog.main.file : Str) == flE1) = true)
    (llE1 : K.lookup ccE1 = some ⟨clE1, cldE1, .cell (some (.ref C1)), cslE1⟩)
    (gE2 : PySem.W.nsIn K mainGlobals "InvalidPolicies" = some (some (.ref C2)))
    (xE2 : K.lookup C2 = some (excClassObj nmE2 qnE2 C2 NE2 bsE2 tV true snE2 subE2 abE2 colE2 ddE2 k0E2 k1E2 k2E2 k3E2 k5E2 "ValueError.__new__"))
    (beE2 : PySem.W.subIn K (.ref C2) (.type "BaseException") = some true)
    (tyE2 : PySem.W.typeIn K (.ref C2) = some (.type "type"))
    (kpE2 : PySem.W.keepIn K (.ref C2) = true)
    (gaE2 : PySem.W.findIn K (.ref C2) "__getattribute__" = some (some (.builtin "BaseException.__getattribute__")))
    (ggE2 : PySem.W.findIn K (.ref C2) "__getattr__" = some none)
    (hdE2 : PySem.W.hasDictIn K C2 = true)
    (caE2 : PySem.W.findIn K (.ref C2) "__class__" = some (some (.builtin "object.__class__")))
    (saE2 : PySem.W.findIn K (.ref C2) "__setattr__" = some (some (.builtin "object.__setattr__")))
    (suE2 : PySem.W.ks_superIn K C2 C2 "__init__" = some (some (.builtin "ValueError.__init__")))
    (veE2 : PySem.W.subIn K (.ref C2) (.type "ValueError") = some true)
    (nfE2 : PySem.W.findIn K (.ref C2) "number" = some none)
    (iE2 : PySem.W.findIn K (.ref C2) "__init__" = some (some (.ref fE2)))
    (lE2 : K.lookup fE2 = some ⟨ocE2, odE2, .func (PySem.W.ksFn "__init__" "InvalidPolicies.__init__" (defArgs s_InvalidPoliciesinit) (defBody s_InvalidPoliciesinit) (defScope s_InvalidPoliciesinit) .none kVE2 dcE2 pmE2 anE2 (.ref cE2) ctE2 ccE2), oslE2⟩)
    (tE2 : PySem.W.typeIn K (.ref fE2) = some (.type "function"))
    (cdE2 : PySem.W.codeIn K (.ref cE2) "InvalidPolicies.__init__" = true)
    (lcE2 : K.lookup cE2 = some ⟨cclE2, cddE2, .fields vsE2, ccsE2⟩)
    (v2E2 : vsE2[2]? = some (.str flE2 tfE2))
    (fiE2 : ((l.prog.main.file : Str) == flE2) = true)
    (llE2 : K.lookup ccE2 = some ⟨clE2, cldE2, .cell (some (.ref C2)), cslE2⟩)
    (gE3 : PySem.W.nsIn K mainGlobals "InvalidServices" = some (some (.ref C3)))
    (xE3 : K.lookup C3 = some (excClassObj nmE3 qnE3 C3 NE3 bsE3 tV true snE3 subE3 abE3 colE3 ddE3 k0E3 k1E3 k2E3 k3E3 k5E3 "ValueError.__new__"))
    (beE3 : PySem.W.subIn K (.ref C3) (.type "BaseException") = some true)
    (tyE3 : PySem.W.typeIn K (.ref C3) = some (.type "type"))
    (kpE3 : PySem.W.keepIn K (.ref C3) = true)
    (gaE3 : PySem.W.findIn K (.ref C3) "__getattribute__" = some (some (.builtin "BaseException.__getattribute__")))
    (ggE3 : PySem.W.findIn K (.ref C3) "__getattr__" = some none)
    (hdE3 : PySem.W.hasDictIn K C3 = true)
    (caE3 : PySem.W.findIn K (.ref C3) "__class__" = some (some (.builtin "object.__class__")))
    (saE3 : PySem.W.findIn K (.ref C3) "__setattr__" = some (some (.builtin "object.__setattr__")))
    (suE3 : PySem.W.ks_superIn K C3 C3 "__init__" = some (some (.builtin "ValueError.__init__")))
    (veE3 : PySem.W.subIn K (.ref C3) (.type "ValueError") = some true)
    (nfE3 : PySem.W.findIn K (.ref C3) "number" = some none)
    (iE3 : PySem.W.findIn K (.ref C3) "__init__" = some (some (.ref fE3)))
    (lE3 : K.lookup fE3 = some ⟨ocE3, odE3, .func (PySem.W.ksFn "__init__" "InvalidServices.__init__" (defArgs s_InvalidServicesinit) (defBody s_InvalidServicesinit) (defScope s_InvalidServicesinit) .none kVE3 dcE3 pmE3 anE3 (.ref cE3) ctE3 ccE3), oslE3⟩)
    (tE3 : PySem.W.typeIn K (.ref fE3) = some (.type "function"))
    (cdE3 : PySem.W.codeIn K (.ref cE3) "InvalidServices.__init__" = true)
    (lcE3 : K.lookup cE3 = some ⟨cclE3, cddE3, .fields vsE3, ccsE3⟩)
    (v2E3 : vsE3[2]? = some (.str flE3 tfE3))
    (fiE3 : ((l.prog.main.file : Str) == flE3) = true)
    (llE3 : K.lookup ccE3 = some ⟨clE3, cldE3, .cell (some (.ref C3)), cslE3⟩)
    (gE4 : PySem.W.nsIn K mainGlobals "InvalidPart" = some (some (.ref C4)))
    (xE4 : K.lookup C4 = some (excClassObj nmE4 qnE4 C4 NE4 bsE4 tV true snE4 subE4 abE4 colE4 ddE4 k0E4 k1E4 k2E4 k3E4 k5E4 "ValueError.__new__"))
    (beE4 : PySem.W.subIn K (.ref C4) (.type "BaseException") = some true)
    (tyE4 : PySem.W.typeIn K (.ref C4) = some (.type "type"))
    (kpE4 : PySem.W.keepIn K (.ref C4) = true)
    (gaE4 : PySem.W.findIn K (.ref C4) "__getattribute__" = some (some (.builtin "BaseException.__getattribute__")))
    (ggE4 : PySem.W.findIn K (.ref C4) "__getattr__" = some none)
    (hdE4 : PySem.W.hasDictIn K C4 = true)
    (caE4 : PySem.W.findIn K (.ref C4) "__class__" = some (some (.builtin "object.__class__")))
    (saE4 : PySem.W.findIn K (.ref C4) "__setattr__" = some (some (.builtin "object.__setattr__")))
    (suE4 : PySem.W.ks_superIn K C4 C4 "__init__" = some (some (.builtin "ValueError.__init__")))
    (veE4 : PySem.W.subIn K (.ref C4) (.type "ValueError") = some true)
    (nfE4 : PySem.W.findIn K (.ref C4) "service" = some none)
    (nfp : PySem.W.findIn K (.ref C4) "place" = some none)
    (iE4 : PySem.W.findIn K (.ref C4) "__init__" = some (some (.ref fE4)))
    (lE4 : K.lookup fE4 = some ⟨ocE4, odE4, .func (PySem.W.ksFn "__init__" "InvalidPart.__init__" (defArgs s_InvalidPartinit) (defBody s_InvalidPartinit) (defScope s_InvalidPartinit) .none kVE4 dcE4 pmE4 anE4 (.ref cE4) ctE4 ccE4), oslE4⟩)
    (tE4 : PySem.W.typeIn K (.ref fE4) = some (.type "function"))
    (cdE4 : PySem.W.codeIn K (.ref cE4) "InvalidPart.__init__" = true)
    (lcE4 : K.lookup cE4 = some ⟨cclE4, cddE4, .fields vsE4, ccsE4⟩)
    (v2E4 : vsE4[2]? = some (.str flE4 tfE4))
    (fiE4 : ((l.prog.main.file : Str) == flE4) = true)
    (llE4 : K.lookup ccE4 = some ⟨clE4, cldE4, .cell (some (.ref C4)), cslE4⟩)
    (gE5 : PySem.W.nsIn K mainGlobals "InvalidText" = some (some (.ref C5)))
    (xE5 : K.lookup C5 = some (excClassObj nmE5 qnE5 C5 NE5 bsE5 tV true snE5 subE5 abE5 colE5 ddE5 k0E5 k1E5 k2E5 k3E5 k5E5 "ValueError.__new__"))
    (beE5 : PySem.W.subIn K (.ref C5) (.type "BaseException") = some true)
    (tyE5 : PySem.W.typeIn K (.ref C5) = some (.type "type"))
    (kpE5 : PySem.W.keepIn K (.ref C5) = true)
    (gaE5 : PySem.W.findIn K (.ref C5) "__getattribute__" = some (some (.builtin "BaseException.__getattribute__")))
    (ggE5 : PySem.W.findIn K (.ref C5) "__getattr__" = some none)
    (hdE5 : PySem.W.hasDictIn K C5 = true)
    (caE5 : PySem.W.findIn K (.ref C5) "__class__" = some (some (.builtin "object.__class__")))
    (saE5 : PySem.W.findIn K (.ref C5) "__setattr__" = some (some (.builtin "object.__setattr__")))
    (suE5 : PySem.W.ks_superIn K C5 C5 "__init__" = some (some (.builtin "ValueError.__init__")))
    (veE5 : PySem.W.subIn K (.ref C5) (.type "ValueError") = some true)
    (nfE5 : PySem.W.findIn K (.ref C5) "line" = some none)
    (iE5 : PySem.W.findIn K (.ref C5) "__init__" = some (some (.ref fE5)))
    (lE5 : K.lookup fE5 = some ⟨ocE5, odE5, .func (PySem.W.ksFn "__init__" "InvalidText.__init__" (defArgs s_InvalidTextinit) (defBody s_InvalidTextinit) (defScope s_InvalidTextinit) .none kVE5 dcE5 pmE5 anE5 (.ref cE5) ctE5 ccE5), oslE5⟩)
    (tE5 : PySem.W.typeIn K (.ref fE5) = some (.type "function"))
    (cdE5 : PySem.W.codeIn K (.ref cE5) "InvalidText.__init__" = true)
    (lcE5 : K.lookup cE5 = some ⟨cclE5, cddE5, .fields vsE5, ccsE5⟩)
    (v2E5 : vsE5[2]? = some (.str flE5 tfE5))
    (fiE5 : ((l.prog.main.file : Str) == flE5) = true)
    (llE5 : K.lookup ccE5 = some ⟨clE5, cldE5, .cell (some (.ref C5)), cslE5⟩)
    (gE6 : PySem.W.nsIn K mainGlobals "InvalidChoices" = some (some (.ref C6)))
    (xE6 : K.lookup C6 = some (excClassObj nmE6 qnE6 C6 NE6 bsE6 tV true snE6 subE6 abE6 colE6 ddE6 k0E6 k1E6 k2E6 k3E6 k5E6 "ValueError.__new__"))
    (beE6 : PySem.W.subIn K (.ref C6) (.type "BaseException") = some true)
    (tyE6 : PySem.W.typeIn K (.ref C6) = some (.type "type"))
    (kpE6 : PySem.W.keepIn K (.ref C6) = true)
    (gaE6 : PySem.W.findIn K (.ref C6) "__getattribute__" = some (some (.builtin "BaseException.__getattribute__")))
    (ggE6 : PySem.W.findIn K (.ref C6) "__getattr__" = some none)
    (hdE6 : PySem.W.hasDictIn K C6 = true)
    (caE6 : PySem.W.findIn K (.ref C6) "__class__" = some (some (.builtin "object.__class__")))
    (saE6 : PySem.W.findIn K (.ref C6) "__setattr__" = some (some (.builtin "object.__setattr__")))
    (suE6 : PySem.W.ks_superIn K C6 C6 "__init__" = some (some (.builtin "ValueError.__init__")))
    (veE6 : PySem.W.subIn K (.ref C6) (.type "ValueError") = some true)
    (nfE6 : PySem.W.findIn K (.ref C6) "value" = some none)
    (iE6 : PySem.W.findIn K (.ref C6) "__init__" = some (some (.ref fE6)))
    (lE6 : K.lookup fE6 = some ⟨ocE6, odE6, .func (PySem.W.ksFn "__init__" "InvalidChoices.__init__" (defArgs s_InvalidChoicesinit) (defBody s_InvalidChoicesinit) (defScope s_InvalidChoicesinit) .none kVE6 dcE6 pmE6 anE6 (.ref cE6) ctE6 ccE6), oslE6⟩)
    (tE6 : PySem.W.typeIn K (.ref fE6) = some (.type "function"))
    (cdE6 : PySem.W.codeIn K (.ref cE6) "InvalidChoices.__init__" = true)
    (lcE6 : K.lookup cE6 = some ⟨cclE6, cddE6, .fields vsE6, ccsE6⟩)
    (v2E6 : vsE6[2]? = some (.str flE6 tfE6))
    (fiE6 : ((l.prog.main.file : Str) == flE6) = true)
    (llE6 : K.lookup ccE6 = some ⟨clE6, cldE6, .cell (some (.ref C6)), cslE6⟩)
    (gE7 : PySem.W.nsIn K mainGlobals "InvalidChoice" = some (some (.ref C7)))
    (xE7 : K.lookup C7 = some (excClassObj nmE7 qnE7 C7 NE7 bsE7 tV true snE7 subE7 abE7 colE7 ddE7 k0E7 k1E7 k2E7 k3E7 k5E7 "ValueError.__new__"))
    (beE7 : PySem.W.subIn K (.ref C7) (.type "BaseException") = some true)
    (tyE7 : PySem.W.typeIn K (.ref C7) = some (.type "type"))
    (kpE7 : PySem.W.keepIn K (.ref C7) = true)
    (gaE7 : PySem.W.findIn K (.ref C7) "__getattribute__" = some (some (.builtin "BaseException.__getattribute__")))
    (ggE7 : PySem.W.findIn K (.ref C7) "__getattr__" = some none)
    (hdE7 : PySem.W.hasDictIn K C7 = true)
    (caE7 : PySem.W.findIn K (.ref C7) "__class__" = some (some (.builtin "object.__class__")))
    (saE7 : PySem.W.findIn K (.ref C7) "__setattr__" = some (some (.builtin "object.__setattr__")))
    (suE7 : PySem.W.ks_superIn K C7 C7 "__init__" = some (some (.builtin "ValueError.__init__")))
    (veE7 : PySem.W.subIn K (.ref C7) (.type "ValueError") = some true)
    (nfE7 : PySem.W.findIn K (.ref C7) "path" = some none)
    (iE7 : PySem.W.findIn K (.ref C7) "__init__" = some (some (.ref fE7)))
    (lE7 : K.lookup fE7 = some ⟨ocE7, odE7, .func (PySem.W.ksFn "__init__" "InvalidChoice.__init__" (defArgs s_InvalidChoiceinit) (defBody s_InvalidChoiceinit) (defScope s_InvalidChoiceinit) .none kVE7 dcE7 pmE7 anE7 (.ref cE7) ctE7 ccE7), oslE7⟩)
    (tE7 : PySem.W.typeIn K (.ref fE7) = some (.type "function"))
    (cdE7 : PySem.W.codeIn K (.ref cE7) "InvalidChoice.__init__" = true)
    (lcE7 : K.lookup cE7 = some ⟨cclE7, cddE7, .fields vsE7, ccsE7⟩)
    (v2E7 : vsE7[2]? = some (.str flE7 tfE7))
    (fiE7 : ((l.prog.main.file : Str) == flE7) = true)
    (llE7 : K.lookup ccE7 = some ⟨clE7, cldE7, .cell (some (.ref C7)), cslE7⟩)
    (gE8 : PySem.W.nsIn K mainGlobals "InvalidNumber" = some (some (.ref C8)))
    (xE8 : K.lookup C8 = some (excClassObj nmE8 qnE8 C8 NE8 bsE8 tV true snE8 subE8 abE8 colE8 ddE8 k0E8 k1E8 k2E8 k3E8 k5E8 "ValueError.__new__"))
    (beE8 : PySem.W.subIn K (.ref C8) (.type "BaseException") = some true)
    (tyE8 : PySem.W.typeIn K (.ref C8) = some (.type "type"))
    (kpE8 : PySem.W.keepIn K (.ref C8) = true)
    (gaE8 : PySem.W.findIn K (.ref C8) "__getattribute__" = some (some (.builtin "BaseException.__getattribute__")))
    (ggE8 : PySem.W.findIn K (.ref C8) "__getattr__" = some none)
    (hdE8 : PySem.W.hasDictIn K C8 = true)
    (caE8 : PySem.W.findIn K (.ref C8) "__class__" = some (some (.builtin "object.__class__")))
    (saE8 : PySem.W.findIn K (.ref C8) "__setattr__" = some (some (.builtin "object.__setattr__")))
    (suE8 : PySem.W.ks_superIn K C8 C8 "__init__" = some (some (.builtin "ValueError.__init__")))
    (veE8 : PySem.W.subIn K (.ref C8) (.type "ValueError") = some true)
    (nfE8 : PySem.W.findIn K (.ref C8) "value" = some none)
    (iE8 : PySem.W.findIn K (.ref C8) "__init__" = some (some (.ref fE8)))
    (lE8 : K.lookup fE8 = some ⟨ocE8, odE8, .func (PySem.W.ksFn "__init__" "InvalidNumber.__init__" (defArgs s_InvalidNumberinit) (defBody s_InvalidNumberinit) (defScope s_InvalidNumberinit) .none kVE8 dcE8 pmE8 anE8 (.ref cE8) ctE8 ccE8), oslE8⟩)
    (tE8 : PySem.W.typeIn K (.ref fE8) = some (.type "function"))
    (cdE8 : PySem.W.codeIn K (.ref cE8) "InvalidNumber.__init__" = true)
    (lcE8 : K.lookup cE8 = some ⟨cclE8, cddE8, .fields vsE8, ccsE8⟩)
    (v2E8 : vsE8[2]? = some (.str flE8 tfE8))
    (fiE8 : ((l.prog.main.file : Str) == flE8) = true)
    (llE8 : K.lookup ccE8 = some ⟨clE8, cldE8, .cell (some (.ref C8)), cslE8⟩)
    (gE9 : PySem.W.nsIn K mainGlobals "InvalidRows" = some (some (.ref C9)))
    (xE9 : K.lookup C9 = some (excClassObj nmE9 qnE9 C9 NE9 bsE9 tV true snE9 subE9 abE9 colE9 ddE9 k0E9 k1E9 k2E9 k3E9 k5E9 "ValueError.__new__"))
    (beE9 : PySem.W.subIn K (.ref C9) (.type "BaseException") = some true)
    (tyE9 : PySem.W.typeIn K (.ref C9) = some (.type "type"))
    (kpE9 : PySem.W.keepIn K (.ref C9) = true)
    (gaE9 : PySem.W.findIn K (.ref C9) "__getattribute__" = some (some (.builtin "BaseException.__getattribute__")))
    (ggE9 : PySem.W.findIn K (.ref C9) "__getattr__" = some none)
    (hdE9 : PySem.W.hasDictIn K C9 = true)
    (caE9 : PySem.W.findIn K (.ref C9) "__class__" = some (some (.builtin "object.__class__")))
    (saE9 : PySem.W.findIn K (.ref C9) "__setattr__" = some (some (.builtin "object.__setattr__")))
    (suE9 : PySem.W.ks_superIn K C9 C9 "__init__" = some (some (.builtin "ValueError.__init__")))
    (veE9 : PySem.W.subIn K (.ref C9) (.type "ValueError") = some true)
    (nfE9 : PySem.W.findIn K (.ref C9) "value" = some none)
    (iE9 : PySem.W.findIn K (.ref C9) "__init__" = some (some (.ref fE9)))
    (lE9 : K.lookup fE9 = some ⟨ocE9, odE9, .func (PySem.W.ksFn "__init__" "InvalidRows.__init__" (defArgs s_InvalidRowsinit) (defBody s_InvalidRowsinit) (defScope s_InvalidRowsinit) .none kVE9 dcE9 pmE9 anE9 (.ref cE9) ctE9 ccE9), oslE9⟩)
    (tE9 : PySem.W.typeIn K (.ref fE9) = some (.type "function"))
    (cdE9 : PySem.W.codeIn K (.ref cE9) "InvalidRows.__init__" = true)
    (lcE9 : K.lookup cE9 = some ⟨cclE9, cddE9, .fields vsE9, ccsE9⟩)
    (v2E9 : vsE9[2]? = some (.str flE9 tfE9))
    (fiE9 : ((l.prog.main.file : Str) == flE9) = true)
    (llE9 : K.lookup ccE9 = some ⟨clE9, cldE9, .cell (some (.ref C9)), cslE9⟩)
    (gE10 : PySem.W.nsIn K mainGlobals "InvalidTable" = some (some (.ref C10)))
    (xE10 : K.lookup C10 = some (excClassObj nmE10 qnE10 C10 NE10 bsE10 tV true snE10 subE10 abE10 colE10 ddE10 k0E10 k1E10 k2E10 k3E10 k5E10 "ValueError.__new__"))
    (beE10 : PySem.W.subIn K (.ref C10) (.type "BaseException") = some true)
    (tyE10 : PySem.W.typeIn K (.ref C10) = some (.type "type"))
    (kpE10 : PySem.W.keepIn K (.ref C10) = true)
    (gaE10 : PySem.W.findIn K (.ref C10) "__getattribute__" = some (some (.builtin "BaseException.__getattribute__")))
    (ggE10 : PySem.W.findIn K (.ref C10) "__getattr__" = some none)
    (hdE10 : PySem.W.hasDictIn K C10 = true)
    (caE10 : PySem.W.findIn K (.ref C10) "__class__" = some (some (.builtin "object.__class__")))
    (saE10 : PySem.W.findIn K (.ref C10) "__setattr__" = some (some (.builtin "object.__setattr__")))
    (suE10 : PySem.W.ks_superIn K C10 C10 "__init__" = some (some (.builtin "ValueError.__init__")))
    (veE10 : PySem.W.subIn K (.ref C10) (.type "ValueError") = some true)
    (nfE10 : PySem.W.findIn K (.ref C10) "value" = some none)
    (iE10 : PySem.W.findIn K (.ref C10) "__init__" = some (some (.ref fE10)))
    (lE10 : K.lookup fE10 = some ⟨ocE10, odE10, .func (PySem.W.ksFn "__init__" "InvalidTable.__init__" (defArgs s_InvalidTableinit) (defBody s_InvalidTableinit) (defScope s_InvalidTableinit) .none kVE10 dcE10 pmE10 anE10 (.ref cE10) ctE10 ccE10), oslE10⟩)
    (tE10 : PySem.W.typeIn K (.ref fE10) = some (.type "function"))
    (cdE10 : PySem.W.codeIn K (.ref cE10) "InvalidTable.__init__" = true)
    (lcE10 : K.lookup cE10 = some ⟨cclE10, cddE10, .fields vsE10, ccsE10⟩)
    (v2E10 : vsE10[2]? = some (.str flE10 tfE10))
    (fiE10 : ((l.prog.main.file : Str) == flE10) = true)
    (llE10 : K.lookup ccE10 = some ⟨clE10, cldE10, .cell (some (.ref C10)), cslE10⟩)
    (gE11 : PySem.W.nsIn K mainGlobals "InvalidMeasure" = some (some (.ref C11)))
    (xE11 : K.lookup C11 = some (excClassObj nmE11 qnE11 C11 NE11 bsE11 tV true snE11 subE11 abE11 colE11 ddE11 k0E11 k1E11 k2E11 k3E11 k5E11 "ValueError.__new__"))
    (beE11 : PySem.W.subIn K (.ref C11) (.type "BaseException") = some true)
    (tyE11 : PySem.W.typeIn K (.ref C11) = some (.type "type"))
    (kpE11 : PySem.W.keepIn K (.ref C11) = true)
    (gaE11 : PySem.W.findIn K (.ref C11) "__getattribute__" = some (some (.builtin "BaseException.__getattribute__")))
    (ggE11 : PySem.W.findIn K (.ref C11) "__getattr__" = some none)
    (hdE11 : PySem.W.hasDictIn K C11 = true)
    (caE11 : PySem.W.findIn K (.ref C11) "__class__" = some (some (.builtin "object.__class__")))
    (saE11 : PySem.W.findIn K (.ref C11) "__setattr__" = some (some (.builtin "object.__setattr__")))
    (suE11 : PySem.W.ks_superIn K C11 C11 "__init__" = some (some (.builtin "ValueError.__init__")))
    (veE11 : PySem.W.subIn K (.ref C11) (.type "ValueError") = some true)
    (nfE11 : PySem.W.findIn K (.ref C11) "value" = some none)
    (iE11 : PySem.W.findIn K (.ref C11) "__init__" = some (some (.ref fE11)))
    (lE11 : K.lookup fE11 = some ⟨ocE11, odE11, .func (PySem.W.ksFn "__init__" "InvalidMeasure.__init__" (defArgs s_InvalidMeasureinit) (defBody s_InvalidMeasureinit) (defScope s_InvalidMeasureinit) .none kVE11 dcE11 pmE11 anE11 (.ref cE11) ctE11 ccE11), oslE11⟩)
    (tE11 : PySem.W.typeIn K (.ref fE11) = some (.type "function"))
    (cdE11 : PySem.W.codeIn K (.ref cE11) "InvalidMeasure.__init__" = true)
    (lcE11 : K.lookup cE11 = some ⟨cclE11, cddE11, .fields vsE11, ccsE11⟩)
    (v2E11 : vsE11[2]? = some (.str flE11 tfE11))
    (fiE11 : ((l.prog.main.file : Str) == flE11) = true)
    (llE11 : K.lookup ccE11 = some ⟨clE11, cldE11, .cell (some (.ref C11)), cslE11⟩)
    (gE12 : PySem.W.nsIn K mainGlobals "InvalidLane" = some (some (.ref C12)))
    (xE12 : K.lookup C12 = some (excClassObj nmE12 qnE12 C12 NE12 bsE12 tV true snE12 subE12 abE12 colE12 ddE12 k0E12 k1E12 k2E12 k3E12 k5E12 "ValueError.__new__"))
    (beE12 : PySem.W.subIn K (.ref C12) (.type "BaseException") = some true)
    (tyE12 : PySem.W.typeIn K (.ref C12) = some (.type "type"))
    (kpE12 : PySem.W.keepIn K (.ref C12) = true)
    (gaE12 : PySem.W.findIn K (.ref C12) "__getattribute__" = some (some (.builtin "BaseException.__getattribute__")))
    (ggE12 : PySem.W.findIn K (.ref C12) "__getattr__" = some none)
    (hdE12 : PySem.W.hasDictIn K C12 = true)
    (caE12 : PySem.W.findIn K (.ref C12) "__class__" = some (some (.builtin "object.__class__")))
    (saE12 : PySem.W.findIn K (.ref C12) "__setattr__" = some (some (.builtin "object.__setattr__")))
    (suE12 : PySem.W.ks_superIn K C12 C12 "__init__" = some (some (.builtin "ValueError.__init__")))
    (veE12 : PySem.W.subIn K (.ref C12) (.type "ValueError") = some true)
    (nfE12 : PySem.W.findIn K (.ref C12) "field" = some none)
    (iE12 : PySem.W.findIn K (.ref C12) "__init__" = some (some (.ref fE12)))
    (lE12 : K.lookup fE12 = some ⟨ocE12, odE12, .func (PySem.W.ksFn "__init__" "InvalidLane.__init__" (defArgs s_InvalidLaneinit) (defBody s_InvalidLaneinit) (defScope s_InvalidLaneinit) .none kVE12 dcE12 pmE12 anE12 (.ref cE12) ctE12 ccE12), oslE12⟩)
    (tE12 : PySem.W.typeIn K (.ref fE12) = some (.type "function"))
    (cdE12 : PySem.W.codeIn K (.ref cE12) "InvalidLane.__init__" = true)
    (lcE12 : K.lookup cE12 = some ⟨cclE12, cddE12, .fields vsE12, ccsE12⟩)
    (v2E12 : vsE12[2]? = some (.str flE12 tfE12))
    (fiE12 : ((l.prog.main.file : Str) == flE12) = true)
    (llE12 : K.lookup ccE12 = some ⟨clE12, cldE12, .cell (some (.ref C12)), cslE12⟩)
    (gE13 : PySem.W.nsIn K mainGlobals "InvalidState" = some (some (.ref C13)))
    (xE13 : K.lookup C13 = some (excClassObj nmE13 qnE13 C13 NE13 bsE13 tV true snE13 subE13 abE13 colE13 ddE13 k0E13 k1E13 k2E13 k3E13 k5E13 "ValueError.__new__"))
    (beE13 : PySem.W.subIn K (.ref C13) (.type "BaseException") = some true)
    (tyE13 : PySem.W.typeIn K (.ref C13) = some (.type "type"))
    (kpE13 : PySem.W.keepIn K (.ref C13) = true)
    (gaE13 : PySem.W.findIn K (.ref C13) "__getattribute__" = some (some (.builtin "BaseException.__getattribute__")))
    (ggE13 : PySem.W.findIn K (.ref C13) "__getattr__" = some none)
    (hdE13 : PySem.W.hasDictIn K C13 = true)
    (caE13 : PySem.W.findIn K (.ref C13) "__class__" = some (some (.builtin "object.__class__")))
    (saE13 : PySem.W.findIn K (.ref C13) "__setattr__" = some (some (.builtin "object.__setattr__")))
    (suE13 : PySem.W.ks_superIn K C13 C13 "__init__" = some (some (.builtin "ValueError.__init__")))
    (veE13 : PySem.W.subIn K (.ref C13) (.type "ValueError") = some true)
    (nfE13 : PySem.W.findIn K (.ref C13) "value" = some none)
    (iE13 : PySem.W.findIn K (.ref C13) "__init__" = some (some (.ref fE13)))
    (lE13 : K.lookup fE13 = some ⟨ocE13, odE13, .func (PySem.W.ksFn "__init__" "InvalidState.__init__" (defArgs s_InvalidStateinit) (defBody s_InvalidStateinit) (defScope s_InvalidStateinit) .none kVE13 dcE13 pmE13 anE13 (.ref cE13) ctE13 ccE13), oslE13⟩)
    (tE13 : PySem.W.typeIn K (.ref fE13) = some (.type "function"))
    (cdE13 : PySem.W.codeIn K (.ref cE13) "InvalidState.__init__" = true)
    (lcE13 : K.lookup cE13 = some ⟨cclE13, cddE13, .fields vsE13, ccsE13⟩)
    (v2E13 : vsE13[2]? = some (.str flE13 tfE13))
    (fiE13 : ((l.prog.main.file : Str) == flE13) = true)
    (llE13 : K.lookup ccE13 = some ⟨clE13, cldE13, .cell (some (.ref C13)), cslE13⟩)
    (gE14 : PySem.W.nsIn K mainGlobals "InvalidStep" = some (some (.ref C14)))
    (xE14 : K.lookup C14 = some (excClassObj nmE14 qnE14 C14 NE14 bsE14 tV true snE14 subE14 abE14 colE14 ddE14 k0E14 k1E14 k2E14 k3E14 k5E14 "ValueError.__new__"))
    (beE14 : PySem.W.subIn K (.ref C14) (.type "BaseException") = some true)
    (tyE14 : PySem.W.typeIn K (.ref C14) = some (.type "type"))
    (kpE14 : PySem.W.keepIn K (.ref C14) = true)
    (gaE14 : PySem.W.findIn K (.ref C14) "__getattribute__" = some (some (.builtin "BaseException.__getattribute__")))
    (ggE14 : PySem.W.findIn K (.ref C14) "__getattr__" = some none)
    (hdE14 : PySem.W.hasDictIn K C14 = true)
    (caE14 : PySem.W.findIn K (.ref C14) "__class__" = some (some (.builtin "object.__class__")))
    (saE14 : PySem.W.findIn K (.ref C14) "__setattr__" = some (some (.builtin "object.__setattr__")))
    (suE14 : PySem.W.ks_superIn K C14 C14 "__init__" = some (some (.builtin "ValueError.__init__")))
    (veE14 : PySem.W.subIn K (.ref C14) (.type "ValueError") = some true)
    (nfE14 : PySem.W.findIn K (.ref C14) "value" = some none)
    (iE14 : PySem.W.findIn K (.ref C14) "__init__" = some (some (.ref fE14)))
    (lE14 : K.lookup fE14 = some ⟨ocE14, odE14, .func (PySem.W.ksFn "__init__" "InvalidStep.__init__" (defArgs s_InvalidStepinit) (defBody s_InvalidStepinit) (defScope s_InvalidStepinit) .none kVE14 dcE14 pmE14 anE14 (.ref cE14) ctE14 ccE14), oslE14⟩)
    (tE14 : PySem.W.typeIn K (.ref fE14) = some (.type "function"))
    (cdE14 : PySem.W.codeIn K (.ref cE14) "InvalidStep.__init__" = true)
    (lcE14 : K.lookup cE14 = some ⟨cclE14, cddE14, .fields vsE14, ccsE14⟩)
    (v2E14 : vsE14[2]? = some (.str flE14 tfE14))
    (fiE14 : ((l.prog.main.file : Str) == flE14) = true)
    (llE14 : K.lookup ccE14 = some ⟨clE14, cldE14, .cell (some (.ref C14)), cslE14⟩)
    (gE15 : PySem.W.nsIn K mainGlobals "InvalidLine" = some (some (.ref C15)))
    (xE15 : K.lookup C15 = some (excClassObj nmE15 qnE15 C15 NE15 bsE15 tV true snE15 subE15 abE15 colE15 ddE15 k0E15 k1E15 k2E15 k3E15 k5E15 "ValueError.__new__"))
    (beE15 : PySem.W.subIn K (.ref C15) (.type "BaseException") = some true)
    (tyE15 : PySem.W.typeIn K (.ref C15) = some (.type "type"))
    (kpE15 : PySem.W.keepIn K (.ref C15) = true)
    (gaE15 : PySem.W.findIn K (.ref C15) "__getattribute__" = some (some (.builtin "BaseException.__getattribute__")))
    (ggE15 : PySem.W.findIn K (.ref C15) "__getattr__" = some none)
    (hdE15 : PySem.W.hasDictIn K C15 = true)
    (caE15 : PySem.W.findIn K (.ref C15) "__class__" = some (some (.builtin "object.__class__")))
    (saE15 : PySem.W.findIn K (.ref C15) "__setattr__" = some (some (.builtin "object.__setattr__")))
    (suE15 : PySem.W.ks_superIn K C15 C15 "__init__" = some (some (.builtin "ValueError.__init__")))
    (veE15 : PySem.W.subIn K (.ref C15) (.type "ValueError") = some true)
    (nfE15 : PySem.W.findIn K (.ref C15) "field" = some none)
    (iE15 : PySem.W.findIn K (.ref C15) "__init__" = some (some (.ref fE15)))
    (lE15 : K.lookup fE15 = some ⟨ocE15, odE15, .func (PySem.W.ksFn "__init__" "InvalidLine.__init__" (defArgs s_InvalidLineinit) (defBody s_InvalidLineinit) (defScope s_InvalidLineinit) .none kVE15 dcE15 pmE15 anE15 (.ref cE15) ctE15 ccE15), oslE15⟩)
    (tE15 : PySem.W.typeIn K (.ref fE15) = some (.type "function"))
    (cdE15 : PySem.W.codeIn K (.ref cE15) "InvalidLine.__init__" = true)
    (lcE15 : K.lookup cE15 = some ⟨cclE15, cddE15, .fields vsE15, ccsE15⟩)
    (v2E15 : vsE15[2]? = some (.str flE15 tfE15))
    (fiE15 : ((l.prog.main.file : Str) == flE15) = true)
    (llE15 : K.lookup ccE15 = some ⟨clE15, cldE15, .cell (some (.ref C15)), cslE15⟩)
    (gE16 : PySem.W.nsIn K mainGlobals "InvalidOffer" = some (some (.ref C16)))
    (xE16 : K.lookup C16 = some (excClassObj nmE16 qnE16 C16 NE16 bsE16 tV true snE16 subE16 abE16 colE16 ddE16 k0E16 k1E16 k2E16 k3E16 k5E16 "ValueError.__new__"))
    (beE16 : PySem.W.subIn K (.ref C16) (.type "BaseException") = some true)
    (tyE16 : PySem.W.typeIn K (.ref C16) = some (.type "type"))
    (kpE16 : PySem.W.keepIn K (.ref C16) = true)
    (gaE16 : PySem.W.findIn K (.ref C16) "__getattribute__" = some (some (.builtin "BaseException.__getattribute__")))
    (ggE16 : PySem.W.findIn K (.ref C16) "__getattr__" = some none)
    (hdE16 : PySem.W.hasDictIn K C16 = true)
    (caE16 : PySem.W.findIn K (.ref C16) "__class__" = some (some (.builtin "object.__class__")))
    (saE16 : PySem.W.findIn K (.ref C16) "__setattr__" = some (some (.builtin "object.__setattr__")))
    (suE16 : PySem.W.ks_superIn K C16 C16 "__init__" = some (some (.builtin "ValueError.__init__")))
    (veE16 : PySem.W.subIn K (.ref C16) (.type "ValueError") = some true)
    (nfE16 : PySem.W.findIn K (.ref C16) "number" = some none)
    (iE16 : PySem.W.findIn K (.ref C16) "__init__" = some (some (.ref fE16)))
    (lE16 : K.lookup fE16 = some ⟨ocE16, odE16, .func (PySem.W.ksFn "__init__" "InvalidOffer.__init__" (defArgs s_InvalidOfferinit) (defBody s_InvalidOfferinit) (defScope s_InvalidOfferinit) .none kVE16 dcE16 pmE16 anE16 (.ref cE16) ctE16 ccE16), oslE16⟩)
    (tE16 : PySem.W.typeIn K (.ref fE16) = some (.type "function"))
    (cdE16 : PySem.W.codeIn K (.ref cE16) "InvalidOffer.__init__" = true)
    (lcE16 : K.lookup cE16 = some ⟨cclE16, cddE16, .fields vsE16, ccsE16⟩)
    (v2E16 : vsE16[2]? = some (.str flE16 tfE16))
    (fiE16 : ((l.prog.main.file : Str) == flE16) = true)
    (llE16 : K.lookup ccE16 = some ⟨clE16, cldE16, .cell (some (.ref C16)), cslE16⟩)
    (gE17 : PySem.W.nsIn K mainGlobals "InvalidWish" = some (some (.ref C17)))
    (xE17 : K.lookup C17 = some (excClassObj nmE17 qnE17 C17 NE17 bsE17 tV true snE17 subE17 abE17 colE17 ddE17 k0E17 k1E17 k2E17 k3E17 k5E17 "ValueError.__new__"))
    (beE17 : PySem.W.subIn K (.ref C17) (.type "BaseException") = some true)
    (tyE17 : PySem.W.typeIn K (.ref C17) = some (.type "type"))
    (kpE17 : PySem.W.keepIn K (.ref C17) = true)
    (gaE17 : PySem.W.findIn K (.ref C17) "__getattribute__" = some (some (.builtin "BaseException.__getattribute__")))
    (ggE17 : PySem.W.findIn K (.ref C17) "__getattr__" = some none)
    (hdE17 : PySem.W.hasDictIn K C17 = true)
    (caE17 : PySem.W.findIn K (.ref C17) "__class__" = some (some (.builtin "object.__class__")))
    (saE17 : PySem.W.findIn K (.ref C17) "__setattr__" = some (some (.builtin "object.__setattr__")))
    (suE17 : PySem.W.ks_superIn K C17 C17 "__init__" = some (some (.builtin "ValueError.__init__")))
    (veE17 : PySem.W.subIn K (.ref C17) (.type "ValueError") = some true)
    (nfE17 : PySem.W.findIn K (.ref C17) "number" = some none)
    (iE17 : PySem.W.findIn K (.ref C17) "__init__" = some (some (.ref fE17)))
    (lE17 : K.lookup fE17 = some ⟨ocE17, odE17, .func (PySem.W.ksFn "__init__" "InvalidWish.__init__" (defArgs s_InvalidWishinit) (defBody s_InvalidWishinit) (defScope s_InvalidWishinit) .none kVE17 dcE17 pmE17 anE17 (.ref cE17) ctE17 ccE17), oslE17⟩)
    (tE17 : PySem.W.typeIn K (.ref fE17) = some (.type "function"))
    (cdE17 : PySem.W.codeIn K (.ref cE17) "InvalidWish.__init__" = true)
    (lcE17 : K.lookup cE17 = some ⟨cclE17, cddE17, .fields vsE17, ccsE17⟩)
    (v2E17 : vsE17[2]? = some (.str flE17 tfE17))
    (fiE17 : ((l.prog.main.file : Str) == flE17) = true)
    (llE17 : K.lookup ccE17 = some ⟨clE17, cldE17, .cell (some (.ref C17)), cslE17⟩)
    (gE18 : PySem.W.nsIn K mainGlobals "InvalidQuestion" = some (some (.ref C18)))
    (xE18 : K.lookup C18 = some (excClassObj nmE18 qnE18 C18 NE18 bsE18 tV true snE18 subE18 abE18 colE18 ddE18 k0E18 k1E18 k2E18 k3E18 k5E18 "ValueError.__new__"))
    (beE18 : PySem.W.subIn K (.ref C18) (.type "BaseException") = some true)
    (tyE18 : PySem.W.typeIn K (.ref C18) = some (.type "type"))
    (kpE18 : PySem.W.keepIn K (.ref C18) = true)
    (gaE18 : PySem.W.findIn K (.ref C18) "__getattribute__" = some (some (.builtin "BaseException.__getattribute__")))
    (ggE18 : PySem.W.findIn K (.ref C18) "__getattr__" = some none)
    (hdE18 : PySem.W.hasDictIn K C18 = true)
    (caE18 : PySem.W.findIn K (.ref C18) "__class__" = some (some (.builtin "object.__class__")))
    (saE18 : PySem.W.findIn K (.ref C18) "__setattr__" = some (some (.builtin "object.__setattr__")))
    (suE18 : PySem.W.ks_superIn K C18 C18 "__init__" = some (some (.builtin "ValueError.__init__")))
    (veE18 : PySem.W.subIn K (.ref C18) (.type "ValueError") = some true)
    (nfE18 : PySem.W.findIn K (.ref C18) "word" = some none)
    (iE18 : PySem.W.findIn K (.ref C18) "__init__" = some (some (.ref fE18)))
    (lE18 : K.lookup fE18 = some ⟨ocE18, odE18, .func (PySem.W.ksFn "__init__" "InvalidQuestion.__init__" (defArgs s_InvalidQuestioninit) (defBody s_InvalidQuestioninit) (defScope s_InvalidQuestioninit) .none kVE18 dcE18 pmE18 anE18 (.ref cE18) ctE18 ccE18), oslE18⟩)
    (tE18 : PySem.W.typeIn K (.ref fE18) = some (.type "function"))
    (cdE18 : PySem.W.codeIn K (.ref cE18) "InvalidQuestion.__init__" = true)
    (lcE18 : K.lookup cE18 = some ⟨cclE18, cddE18, .fields vsE18, ccsE18⟩)
    (v2E18 : vsE18[2]? = some (.str flE18 tfE18))
    (fiE18 : ((l.prog.main.file : Str) == flE18) = true)
    (llE18 : K.lookup ccE18 = some ⟨clE18, cldE18, .cell (some (.ref C18)), cslE18⟩)
    (gE19 : PySem.W.nsIn K mainGlobals "InvalidCommand" = some (some (.ref C19)))
    (xE19 : K.lookup C19 = some (excClassObj nmE19 qnE19 C19 NE19 bsE19 tV true snE19 subE19 abE19 colE19 ddE19 k0E19 k1E19 k2E19 k3E19 k5E19 "ValueError.__new__"))
    (beE19 : PySem.W.subIn K (.ref C19) (.type "BaseException") = some true)
    (tyE19 : PySem.W.typeIn K (.ref C19) = some (.type "type"))
    (kpE19 : PySem.W.keepIn K (.ref C19) = true)
    (gaE19 : PySem.W.findIn K (.ref C19) "__getattribute__" = some (some (.builtin "BaseException.__getattribute__")))
    (ggE19 : PySem.W.findIn K (.ref C19) "__getattr__" = some none)
    (hdE19 : PySem.W.hasDictIn K C19 = true)
    (caE19 : PySem.W.findIn K (.ref C19) "__class__" = some (some (.builtin "object.__class__")))
    (saE19 : PySem.W.findIn K (.ref C19) "__setattr__" = some (some (.builtin "object.__setattr__")))
    (suE19 : PySem.W.ks_superIn K C19 C19 "__init__" = some (some (.builtin "ValueError.__init__")))
    (veE19 : PySem.W.subIn K (.ref C19) (.type "ValueError") = some true)
    (nfE19 : PySem.W.findIn K (.ref C19) "word" = some none)
    (iE19 : PySem.W.findIn K (.ref C19) "__init__" = some (some (.ref fE19)))
    (lE19 : K.lookup fE19 = some ⟨ocE19, odE19, .func (PySem.W.ksFn "__init__" "InvalidCommand.__init__" (defArgs s_InvalidCommandinit) (defBody s_InvalidCommandinit) (defScope s_InvalidCommandinit) .none kVE19 dcE19 pmE19 anE19 (.ref cE19) ctE19 ccE19), oslE19⟩)
    (tE19 : PySem.W.typeIn K (.ref fE19) = some (.type "function"))
    (cdE19 : PySem.W.codeIn K (.ref cE19) "InvalidCommand.__init__" = true)
    (lcE19 : K.lookup cE19 = some ⟨cclE19, cddE19, .fields vsE19, ccsE19⟩)
    (v2E19 : vsE19[2]? = some (.str flE19 tfE19))
    (fiE19 : ((l.prog.main.file : Str) == flE19) = true)
    (llE19 : K.lookup ccE19 = some ⟨clE19, cldE19, .cell (some (.ref C19)), cslE19⟩)
    (gE20 : PySem.W.nsIn K mainGlobals "UnknownName" = some (some (.ref C20)))
    (xE20 : K.lookup C20 = some (excClassObj nmE20 qnE20 C20 NE20 bsE20 tL true snE20 subE20 abE20 colE20 ddE20 k0E20 k1E20 k2E20 k3E20 k5E20 "LookupError.__new__"))
    (beE20 : PySem.W.subIn K (.ref C20) (.type "BaseException") = some true)
    (tyE20 : PySem.W.typeIn K (.ref C20) = some (.type "type"))
    (kpE20 : PySem.W.keepIn K (.ref C20) = true)
    (gaE20 : PySem.W.findIn K (.ref C20) "__getattribute__" = some (some (.builtin "BaseException.__getattribute__")))
    (ggE20 : PySem.W.findIn K (.ref C20) "__getattr__" = some none)
    (hdE20 : PySem.W.hasDictIn K C20 = true)
    (caE20 : PySem.W.findIn K (.ref C20) "__class__" = some (some (.builtin "object.__class__")))
    (saE20 : PySem.W.findIn K (.ref C20) "__setattr__" = some (some (.builtin "object.__setattr__")))
    (suE20 : PySem.W.ks_superIn K C20 C20 "__init__" = some (some (.builtin "LookupError.__init__")))
    (veE20 : PySem.W.subIn K (.ref C20) (.type "LookupError") = some true)
    (nfE20 : PySem.W.findIn K (.ref C20) "value" = some none)
    (iE20 : PySem.W.findIn K (.ref C20) "__init__" = some (some (.ref fE20)))
    (lE20 : K.lookup fE20 = some ⟨ocE20, odE20, .func (PySem.W.ksFn "__init__" "UnknownName.__init__" (defArgs s_UnknownNameinit) (defBody s_UnknownNameinit) (defScope s_UnknownNameinit) .none kVE20 dcE20 pmE20 anE20 (.ref cE20) ctE20 ccE20), oslE20⟩)
    (tE20 : PySem.W.typeIn K (.ref fE20) = some (.type "function"))
    (cdE20 : PySem.W.codeIn K (.ref cE20) "UnknownName.__init__" = true)
    (lcE20 : K.lookup cE20 = some ⟨cclE20, cddE20, .fields vsE20, ccsE20⟩)
    (v2E20 : vsE20[2]? = some (.str flE20 tfE20))
    (fiE20 : ((l.prog.main.file : Str) == flE20) = true)
    (llE20 : K.lookup ccE20 = some ⟨clE20, cldE20, .cell (some (.ref C20)), cslE20⟩)
    (gE21 : PySem.W.nsIn K mainGlobals "TooLong" = some (some (.ref C21)))
    (xE21 : K.lookup C21 = some (excClassObj nmE21 qnE21 C21 NE21 bsE21 tO true snE21 subE21 abE21 colE21 ddE21 k0E21 k1E21 k2E21 k3E21 k5E21 "OverflowError.__new__"))
    (beE21 : PySem.W.subIn K (.ref C21) (.type "BaseException") = some true)
    (tyE21 : PySem.W.typeIn K (.ref C21) = some (.type "type"))
    (kpE21 : PySem.W.keepIn K (.ref C21) = true)
    (gaE21 : PySem.W.findIn K (.ref C21) "__getattribute__" = some (some (.builtin "BaseException.__getattribute__")))
    (ggE21 : PySem.W.findIn K (.ref C21) "__getattr__" = some none)
    (hdE21 : PySem.W.hasDictIn K C21 = true)
    (caE21 : PySem.W.findIn K (.ref C21) "__class__" = some (some (.builtin "object.__class__")))
    (saE21 : PySem.W.findIn K (.ref C21) "__setattr__" = some (some (.builtin "object.__setattr__")))
    (suE21 : PySem.W.ks_superIn K C21 C21 "__init__" = some (some (.builtin "OverflowError.__init__")))
    (veE21 : PySem.W.subIn K (.ref C21) (.type "OverflowError") = some true)
    (nfE21 : PySem.W.findIn K (.ref C21) "service" = some none)
    (iE21 : PySem.W.findIn K (.ref C21) "__init__" = some (some (.ref fE21)))
    (lE21 : K.lookup fE21 = some ⟨ocE21, odE21, .func (PySem.W.ksFn "__init__" "TooLong.__init__" (defArgs s_TooLonginit) (defBody s_TooLonginit) (defScope s_TooLonginit) .none kVE21 dcE21 pmE21 anE21 (.ref cE21) ctE21 ccE21), oslE21⟩)
    (tE21 : PySem.W.typeIn K (.ref fE21) = some (.type "function"))
    (cdE21 : PySem.W.codeIn K (.ref cE21) "TooLong.__init__" = true)
    (lcE21 : K.lookup cE21 = some ⟨cclE21, cddE21, .fields vsE21, ccsE21⟩)
    (v2E21 : vsE21[2]? = some (.str flE21 tfE21))
    (fiE21 : ((l.prog.main.file : Str) == flE21) = true)
    (llE21 : K.lookup ccE21 = some ⟨clE21, cldE21, .cell (some (.ref C21)), cslE21⟩)
    (gE22 : PySem.W.nsIn K mainGlobals "LimitExceeded" = some (some (.ref C22)))
    (xE22 : K.lookup C22 = some (excClassObj nmE22 qnE22 C22 NE22 bsE22 tO true snE22 subE22 abE22 colE22 ddE22 k0E22 k1E22 k2E22 k3E22 k5E22 "OverflowError.__new__"))
    (beE22 : PySem.W.subIn K (.ref C22) (.type "BaseException") = some true)
    (tyE22 : PySem.W.typeIn K (.ref C22) = some (.type "type"))
    (kpE22 : PySem.W.keepIn K (.ref C22) = true)
    (gaE22 : PySem.W.findIn K (.ref C22) "__getattribute__" = some (some (.builtin "BaseException.__getattribute__")))
    (ggE22 : PySem.W.findIn K (.ref C22) "__getattr__" = some none)
    (hdE22 : PySem.W.hasDictIn K C22 = true)
    (caE22 : PySem.W.findIn K (.ref C22) "__class__" = some (some (.builtin "object.__class__")))
    (saE22 : PySem.W.findIn K (.ref C22) "__setattr__" = some (some (.builtin "object.__setattr__")))
    (suE22 : PySem.W.ks_superIn K C22 C22 "__init__" = some (some (.builtin "OverflowError.__init__")))
    (veE22 : PySem.W.subIn K (.ref C22) (.type "OverflowError") = some true)
    (nfE22 : PySem.W.findIn K (.ref C22) "most" = some none)
    (iE22 : PySem.W.findIn K (.ref C22) "__init__" = some (some (.ref fE22)))
    (lE22 : K.lookup fE22 = some ⟨ocE22, odE22, .func (PySem.W.ksFn "__init__" "LimitExceeded.__init__" (defArgs s_LimitExceededinit) (defBody s_LimitExceededinit) (defScope s_LimitExceededinit) .none kVE22 dcE22 pmE22 anE22 (.ref cE22) ctE22 ccE22), oslE22⟩)
    (tE22 : PySem.W.typeIn K (.ref fE22) = some (.type "function"))
    (cdE22 : PySem.W.codeIn K (.ref cE22) "LimitExceeded.__init__" = true)
    (lcE22 : K.lookup cE22 = some ⟨cclE22, cddE22, .fields vsE22, ccsE22⟩)
    (v2E22 : vsE22[2]? = some (.str flE22 tfE22))
    (fiE22 : ((l.prog.main.file : Str) == flE22) = true)
    (llE22 : K.lookup ccE22 = some ⟨clE22, cldE22, .cell (some (.ref C22)), cslE22⟩)
    (gE23 : PySem.W.nsIn K mainGlobals "NothingToUndo" = some (some (.ref C23)))
    (xE23 : K.lookup C23 = some (excClassObj nmE23 qnE23 C23 NE23 bsE23 tR true snE23 subE23 abE23 colE23 ddE23 k0E23 k1E23 k2E23 k3E23 k5E23 "RuntimeError.__new__"))
    (beE23 : PySem.W.subIn K (.ref C23) (.type "BaseException") = some true)
    (tyE23 : PySem.W.typeIn K (.ref C23) = some (.type "type"))
    (kpE23 : PySem.W.keepIn K (.ref C23) = true)
    (gaE23 : PySem.W.findIn K (.ref C23) "__getattribute__" = some (some (.builtin "BaseException.__getattribute__")))
    (ggE23 : PySem.W.findIn K (.ref C23) "__getattr__" = some none)
    (hdE23 : PySem.W.hasDictIn K C23 = true)
    (caE23 : PySem.W.findIn K (.ref C23) "__class__" = some (some (.builtin "object.__class__")))
    (exE23 : PySem.W.excIn K C23 [.type "RuntimeError", .type "Exception", .type "BaseException", .type "object"] "RuntimeError.__new__" = true)
    (gE24 : PySem.W.nsIn K mainGlobals "NothingToRedo" = some (some (.ref C24)))
    (xE24 : K.lookup C24 = some (excClassObj nmE24 qnE24 C24 NE24 bsE24 tR true snE24 subE24 abE24 colE24 ddE24 k0E24 k1E24 k2E24 k3E24 k5E24 "RuntimeError.__new__"))
    (beE24 : PySem.W.subIn K (.ref C24) (.type "BaseException") = some true)
    (tyE24 : PySem.W.typeIn K (.ref C24) = some (.type "type"))
    (kpE24 : PySem.W.keepIn K (.ref C24) = true)
    (gaE24 : PySem.W.findIn K (.ref C24) "__getattribute__" = some (some (.builtin "BaseException.__getattribute__")))
    (ggE24 : PySem.W.findIn K (.ref C24) "__getattr__" = some none)
    (hdE24 : PySem.W.hasDictIn K C24 = true)
    (caE24 : PySem.W.findIn K (.ref C24) "__class__" = some (some (.builtin "object.__class__")))
    (exE24 : PySem.W.excIn K C24 [.type "RuntimeError", .type "Exception", .type "BaseException", .type "object"] "RuntimeError.__new__" = true)
    (gE25 : PySem.W.nsIn K mainGlobals "NoTrial" = some (some (.ref C25)))
    (xE25 : K.lookup C25 = some (excClassObj nmE25 qnE25 C25 NE25 bsE25 tR true snE25 subE25 abE25 colE25 ddE25 k0E25 k1E25 k2E25 k3E25 k5E25 "RuntimeError.__new__"))
    (beE25 : PySem.W.subIn K (.ref C25) (.type "BaseException") = some true)
    (tyE25 : PySem.W.typeIn K (.ref C25) = some (.type "type"))
    (kpE25 : PySem.W.keepIn K (.ref C25) = true)
    (gaE25 : PySem.W.findIn K (.ref C25) "__getattribute__" = some (some (.builtin "BaseException.__getattribute__")))
    (ggE25 : PySem.W.findIn K (.ref C25) "__getattr__" = some none)
    (hdE25 : PySem.W.hasDictIn K C25 = true)
    (caE25 : PySem.W.findIn K (.ref C25) "__class__" = some (some (.builtin "object.__class__")))
    (exE25 : PySem.W.excIn K C25 [.type "RuntimeError", .type "Exception", .type "BaseException", .type "object"] "RuntimeError.__new__" = true)
    (gE26 : PySem.W.nsIn K mainGlobals "NoSystem" = some (some (.ref C26)))
    (xE26 : K.lookup C26 = some (excClassObj nmE26 qnE26 C26 NE26 bsE26 tR true snE26 subE26 abE26 colE26 ddE26 k0E26 k1E26 k2E26 k3E26 k5E26 "RuntimeError.__new__"))
    (beE26 : PySem.W.subIn K (.ref C26) (.type "BaseException") = some true)
    (tyE26 : PySem.W.typeIn K (.ref C26) = some (.type "type"))
    (kpE26 : PySem.W.keepIn K (.ref C26) = true)
    (gaE26 : PySem.W.findIn K (.ref C26) "__getattribute__" = some (some (.builtin "BaseException.__getattribute__")))
    (ggE26 : PySem.W.findIn K (.ref C26) "__getattr__" = some none)
    (hdE26 : PySem.W.hasDictIn K C26 = true)
    (caE26 : PySem.W.findIn K (.ref C26) "__class__" = some (some (.builtin "object.__class__")))
    (exE26 : PySem.W.excIn K C26 [.type "RuntimeError", .type "Exception", .type "BaseException", .type "object"] "RuntimeError.__new__" = true)
    (nd : ([C0, C1, C2, C3, C4, C5, C6, C7, C8, C9, C10, C11, C12, C13, C14, C15, C16, C17, C18, C19, C20, C21, C22, C23, C24, C25, C26] : List Addr).Nodup)
    : ∃ fd : FuncData, (∀ (s : Shared) (v : Value), BindsTo s fd ⟨[v], []⟩ [("_law_script", v)]) ∧ ∀ base : Heap, K.In base → base.Ns mainGlobals mg → Mc.FnG l.prog w K mg base CX0 5 fa fd ["_law_script"] (spLaw K) := by
  have Dg0 : Mc.Def K mg "_law_pool" s_law_pool ["_law_script", "_law_k"] := ⟨fg0, _, fun_mk (st := s_law_pool) lg0 cg0 kg0, PySem.W.mg_of X G ag0, (fun_mk (st := s_law_pool) lg0 cg0 kg0).binds (ps := ["_law_script", "_law_k"]) fun _ _ _ _ _ _ us hl => match us, hl with | [_, _], _ => rfl⟩
  have Dg1 : Mc.Def K mg "_law_draw" s_law_draw ["_law_pool_here", "_law_many"] := ⟨fg1, _, fun_mk (st := s_law_draw) lg1 cg1 kg1, PySem.W.mg_of X G ag1, (fun_mk (st := s_law_draw) lg1 cg1 kg1).binds (ps := ["_law_pool_here", "_law_many"]) fun _ _ _ _ _ _ us hl => match us, hl with | [_, _], _ => rfl⟩
  have Dg2 : Mc.Def K mg "_law_choose" s_law_choose ["_law_pool_here", "_law_items"] := ⟨fg2, _, fun_mk (st := s_law_choose) lg2 cg2 kg2, PySem.W.mg_of X G ag2, (fun_mk (st := s_law_choose) lg2 cg2 kg2).binds (ps := ["_law_pool_here", "_law_items"]) fun _ _ _ _ _ _ us hl => match us, hl with | [_, _], _ => rfl⟩
  have Dg3 : Mc.Def K mg "_law_made" s_law_made ["_law_held"] := ⟨fg3, _, fun_mk (st := s_law_made) lg3 cg3 kg3, PySem.W.mg_of X G ag3, (fun_mk (st := s_law_made) lg3 cg3 kg3).binds (ps := ["_law_held"]) fun _ _ _ _ _ _ us hl => match us, hl with | [_], _ => rfl⟩
  have Dg4 : Mc.Def K mg "_law_named" s_law_named ["_law_held"] := ⟨fg4, _, fun_mk (st := s_law_named) lg4 cg4 kg4, PySem.W.mg_of X G ag4, (fun_mk (st := s_law_named) lg4 cg4 kg4).binds (ps := ["_law_held"]) fun _ _ _ _ _ _ us hl => match us, hl with | [_], _ => rfl⟩
  have Dg5 : Mc.Def K mg "_law_fields" s_law_fields ["_law_made_here"] := ⟨fg5, _, fun_mk (st := s_law_fields) lg5 cg5 kg5, PySem.W.mg_of X G ag5, (fun_mk (st := s_law_fields) lg5 cg5 kg5).binds (ps := ["_law_made_here"]) fun _ _ _ _ _ _ us hl => match us, hl with | [_], _ => rfl⟩
  have Dg6 : Mc.Def K mg "_law_kinds" s_law_kinds ["_law_one"] := ⟨fg6, _, fun_mk (st := s_law_kinds) lg6 cg6 kg6, PySem.W.mg_of X G ag6, (fun_mk (st := s_law_kinds) lg6 cg6 kg6).binds (ps := ["_law_one"]) fun _ _ _ _ _ _ us hl => match us, hl with | [_], _ => rfl⟩
  have T : Txt mg := ⟨PySem.W.mg_none_of X G z_isinstance, PySem.W.mg_none_of X G z_len, PySem.W.mg_none_of X G z_range, PySem.W.mg_none_of X G z_repr, PySem.W.mg_none_of X G z_max, PySem.W.mg_none_of X G z_min, PySem.W.mg_none_of X G z_int, PySem.W.mg_none_of X G z_enumerate, PySem.W.mg_none_of X G z_ValueError, PySem.W.mg_none_of X G z_LookupError, PySem.W.mg_none_of X G z_OverflowError, PySem.W.mg_none_of X G z_RuntimeError⟩
  have xfE0 : XfC K C0 := ⟨gaE0, ggE0, beE0, hdE0⟩
  have glE0 := PySem.W.mg_of X G gE0
  have rcE0 := recV xE0 tyE0
  have sdE0 : Mx.SupD l.prog K "__init__" "InvalidName.__init__" (defArgs s_InvalidNameinit) (defBody s_InvalidNameinit) (defScope s_InvalidNameinit) C0 fE0 _ cE0 ccE0 := ⟨_, _, _, _, _, _, _, _, _, _, _, _, _, _, _, _, _, _, rfl, lE0, cdE0, lcE0, v2E0, fiE0, llE0⟩
  have obE0 : Mx.OexB "ValueError.__new__" tV K C0 := ⟨⟨_, _, _, _, _, _, _, _, _, _, _, _, _, _, xE0⟩, saE0, beE0, tyE0, kpE0⟩
  have scE0 : Mx.SupC l.prog K mg C0 := ⟨⟨⟨_, _, _, _, _, _, _, _, _, _, _, _, _, _, _, xE0, by decide +kernel⟩, saE0, beE0, tyE0, kpE0⟩, suE0, veE0, tp, PySem.W.mg_none_of X G z_super, top⟩
  have xfE1 : XfC K C1 := ⟨gaE1, ggE1, beE1, hdE1⟩
  have glE1 := PySem.W.mg_of X G gE1
  have rcE1 := recV xE1 tyE1
  have sdE1 : Mx.SupD l.prog K "__init__" "InvalidPolicy.__init__" (defArgs s_InvalidPolicyinit) (defBody s_InvalidPolicyinit) (defScope s_InvalidPolicyinit) C1 fE1 _ cE1 ccE1 := ⟨_, _, _, _, _, _, _, _, _, _, _, _, _, _, _, _, _, _, rfl, lE1, cdE1, lcE1, v2E1, fiE1, llE1⟩
  have obE1 : Mx.OexB "ValueError.__new__" tV K C1 := ⟨⟨_, _, _, _, _, _, _, _, _, _, _, _, _, _, xE1⟩, saE1, beE1, tyE1, kpE1⟩
  have scE1 : Mx.SupC l.prog K mg C1 := ⟨⟨⟨_, _, _, _, _, _, _, _, _, _, _, _, _, _, _, xE1, by decide +kernel⟩, saE1, beE1, tyE1, kpE1⟩, suE1, veE1, tp, PySem.W.mg_none_of X G z_super, top⟩
  have xfE2 : XfC K C2 := ⟨gaE2, ggE2, beE2, hdE2⟩
  have glE2 := PySem.W.mg_of X G gE2
  have rcE2 := recV xE2 tyE2
  have sdE2 : Mx.SupD l.prog K "__init__" "InvalidPolicies.__init__" (defArgs s_InvalidPoliciesinit) (defBody s_InvalidPoliciesinit) (defScope s_InvalidPoliciesinit) C2 fE2 _ cE2 ccE2 := ⟨_, _, _, _, _, _, _, _, _, _, _, _, _, _, _, _, _, _, rfl, lE2, cdE2, lcE2, v2E2, fiE2, llE2⟩
  have obE2 : Mx.OexB "ValueError.__new__" tV K C2 := ⟨⟨_, _, _, _, _, _, _, _, _, _, _, _, _, _, xE2⟩, saE2, beE2, tyE2, kpE2⟩
  have scE2 : Mx.SupC l.prog K mg C2 := ⟨⟨⟨_, _, _, _, _, _, _, _, _, _, _, _, _, _, _, xE2, by decide +kernel⟩, saE2, beE2, tyE2, kpE2⟩, suE2, veE2, tp, PySem.W.mg_none_of X G z_super, top⟩
  have xfE3 : XfC K C3 := ⟨gaE3, ggE3, beE3, hdE3⟩
  have glE3 := PySem.W.mg_of X G gE3
  have rcE3 := recV xE3 tyE3
  have sdE3 : Mx.SupD l.prog K "__init__" "InvalidServices.__init__" (defArgs s_InvalidServicesinit) (defBody s_InvalidServicesinit) (defScope s_InvalidServicesinit) C3 fE3 _ cE3 ccE3 := ⟨_, _, _, _, _, _, _, _, _, _, _, _, _, _, _, _, _, _, rfl, lE3, cdE3, lcE3, v2E3, fiE3, llE3⟩
  have obE3 : Mx.OexB "ValueError.__new__" tV K C3 := ⟨⟨_, _, _, _, _, _, _, _, _, _, _, _, _, _, xE3⟩, saE3, beE3, tyE3, kpE3⟩
  have scE3 : Mx.SupC l.prog K mg C3 := ⟨⟨⟨_, _, _, _, _, _, _, _, _, _, _, _, _, _, _, xE3, by decide +kernel⟩, saE3, beE3, tyE3, kpE3⟩, suE3, veE3, tp, PySem.W.mg_none_of X G z_super, top⟩
  have xfE4 : XfC K C4 := ⟨gaE4, ggE4, beE4, hdE4⟩
  have glE4 := PySem.W.mg_of X G gE4
  have rcE4 := recV xE4 tyE4
  have sdE4 : Mx.SupD l.prog K "__init__" "InvalidPart.__init__" (defArgs s_InvalidPartinit) (defBody s_InvalidPartinit) (defScope s_InvalidPartinit) C4 fE4 _ cE4 ccE4 := ⟨_, _, _, _, _, _, _, _, _, _, _, _, _, _, _, _, _, _, rfl, lE4, cdE4, lcE4, v2E4, fiE4, llE4⟩
  have obE4 : Mx.OexB "ValueError.__new__" tV K C4 := ⟨⟨_, _, _, _, _, _, _, _, _, _, _, _, _, _, xE4⟩, saE4, beE4, tyE4, kpE4⟩
  have scE4 : Mx.SupC l.prog K mg C4 := ⟨⟨⟨_, _, _, _, _, _, _, _, _, _, _, _, _, _, _, xE4, by decide +kernel⟩, saE4, beE4, tyE4, kpE4⟩, suE4, veE4, tp, PySem.W.mg_none_of X G z_super, top⟩
  have xfE5 : XfC K C5 := ⟨gaE5, ggE5, beE5, hdE5⟩
  have glE5 := PySem.W.mg_of X G gE5
  have rcE5 := recV xE5 tyE5
  have sdE5 : Mx.SupD l.prog K "__init__" "InvalidText.__init__" (defArgs s_InvalidTextinit) (defBody s_InvalidTextinit) (defScope s_InvalidTextinit) C5 fE5 _ cE5 ccE5 := ⟨_, _, _, _, _, _, _, _, _, _, _, _, _, _, _, _, _, _, rfl, lE5, cdE5, lcE5, v2E5, fiE5, llE5⟩
  have obE5 : Mx.OexB "ValueError.__new__" tV K C5 := ⟨⟨_, _, _, _, _, _, _, _, _, _, _, _, _, _, xE5⟩, saE5, beE5, tyE5, kpE5⟩
  have scE5 : Mx.SupC l.prog K mg C5 := ⟨⟨⟨_, _, _, _, _, _, _, _, _, _, _, _, _, _, _, xE5, by decide +kernel⟩, saE5, beE5, tyE5, kpE5⟩, suE5, veE5, tp, PySem.W.mg_none_of X G z_super, top⟩
  have xfE6 : XfC K C6 := ⟨gaE6, ggE6, beE6, hdE6⟩
  have glE6 := PySem.W.mg_of X G gE6
  have rcE6 := recV xE6 tyE6
  have sdE6 : Mx.SupD l.prog K "__init__" "InvalidChoices.__init__" (defArgs s_InvalidChoicesinit) (defBody s_InvalidChoicesinit) (defScope s_InvalidChoicesinit) C6 fE6 _ cE6 ccE6 := ⟨_, _, _, _, _, _, _, _, _, _, _, _, _, _, _, _, _, _, rfl, lE6, cdE6, lcE6, v2E6, fiE6, llE6⟩
  have obE6 : Mx.OexB "ValueError.__new__" tV K C6 := ⟨⟨_, _, _, _, _, _, _, _, _, _, _, _, _, _, xE6⟩, saE6, beE6, tyE6, kpE6⟩
  have scE6 : Mx.SupC l.prog K mg C6 := ⟨⟨⟨_, _, _, _, _, _, _, _, _, _, _, _, _, _, _, xE6, by decide +kernel⟩, saE6, beE6, tyE6, kpE6⟩, suE6, veE6, tp, PySem.W.mg_none_of X G z_super, top⟩
  have xfE7 : XfC K C7 := ⟨gaE7, ggE7, beE7, hdE7⟩
  have glE7 := PySem.W.mg_of X G gE7
  have rcE7 := recV xE7 tyE7
  have sdE7 : Mx.SupD l.prog K "__init__" "InvalidChoice.__init__" (defArgs s_InvalidChoiceinit) (defBody s_InvalidChoiceinit) (defScope s_InvalidChoiceinit) C7 fE7 _ cE7 ccE7 := ⟨_, _, _, _, _, _, _, _, _, _, _, _, _, _, _, _, _, _, rfl, lE7, cdE7, lcE7, v2E7, fiE7, llE7⟩
  have obE7 : Mx.OexB "ValueError.__new__" tV K C7 := ⟨⟨_, _, _, _, _, _, _, _, _, _, _, _, _, _, xE7⟩, saE7, beE7, tyE7, kpE7⟩
  have scE7 : Mx.SupC l.prog K mg C7 := ⟨⟨⟨_, _, _, _, _, _, _, _, _, _, _, _, _, _, _, xE7, by decide +kernel⟩, saE7, beE7, tyE7, kpE7⟩, suE7, veE7, tp, PySem.W.mg_none_of X G z_super, top⟩
  have xfE8 : XfC K C8 := ⟨gaE8, ggE8, beE8, hdE8⟩
  have glE8 := PySem.W.mg_of X G gE8
  have rcE8 := recV xE8 tyE8
  have sdE8 : Mx.SupD l.prog K "__init__" "InvalidNumber.__init__" (defArgs s_InvalidNumberinit) (defBody s_InvalidNumberinit) (defScope s_InvalidNumberinit) C8 fE8 _ cE8 ccE8 := ⟨_, _, _, _, _, _, _, _, _, _, _, _, _, _, _, _, _, _, rfl, lE8, cdE8, lcE8, v2E8, fiE8, llE8⟩
  have obE8 : Mx.OexB "ValueError.__new__" tV K C8 := ⟨⟨_, _, _, _, _, _, _, _, _, _, _, _, _, _, xE8⟩, saE8, beE8, tyE8, kpE8⟩
  have scE8 : Mx.SupC l.prog K mg C8 := ⟨⟨⟨_, _, _, _, _, _, _, _, _, _, _, _, _, _, _, xE8, by decide +kernel⟩, saE8, beE8, tyE8, kpE8⟩, suE8, veE8, tp, PySem.W.mg_none_of X G z_super, top⟩
  have xfE9 : XfC K C9 := ⟨gaE9, ggE9, beE9, hdE9⟩
  have glE9 := PySem.W.mg_of X G gE9
  have rcE9 := recV xE9 tyE9
  have sdE9 : Mx.SupD l.prog K "__init__" "InvalidRows.__init__" (defArgs s_InvalidRowsinit) (defBody s_InvalidRowsinit) (defScope s_InvalidRowsinit) C9 fE9 _ cE9 ccE9 := ⟨_, _, _, _, _, _, _, _, _, _, _, _, _, _, _, _, _, _, rfl, lE9, cdE9, lcE9, v2E9, fiE9, llE9⟩
  have obE9 : Mx.OexB "ValueError.__new__" tV K C9 := ⟨⟨_, _, _, _, _, _, _, _, _, _, _, _, _, _, xE9⟩, saE9, beE9, tyE9, kpE9⟩
  have scE9 : Mx.SupC l.prog K mg C9 := ⟨⟨⟨_, _, _, _, _, _, _, _, _, _, _, _, _, _, _, xE9, by decide +kernel⟩, saE9, beE9, tyE9, kpE9⟩, suE9, veE9, tp, PySem.W.mg_none_of X G z_super, top⟩
  have xfE10 : XfC K C10 := ⟨gaE10, ggE10, beE10, hdE10⟩
  have glE10 := PySem.W.mg_of X G gE10
  have rcE10 := recV xE10 tyE10
  have sdE10 : Mx.SupD l.prog K "__init__" "InvalidTable.__init__" (defArgs s_InvalidTableinit) (defBody s_InvalidTableinit) (defScope s_InvalidTableinit) C10 fE10 _ cE10 ccE10 := ⟨_, _, _, _, _, _, _, _, _, _, _, _, _, _, _, _, _, _, rfl, lE10, cdE10, lcE10, v2E10, fiE10, llE10⟩
  have obE10 : Mx.OexB "ValueError.__new__" tV K C10 := ⟨⟨_, _, _, _, _, _, _, _, _, _, _, _, _, _, xE10⟩, saE10, beE10, tyE10, kpE10⟩
  have scE10 : Mx.SupC l.prog K mg C10 := ⟨⟨⟨_, _, _, _, _, _, _, _, _, _, _, _, _, _, _, xE10, by decide +kernel⟩, saE10, beE10, tyE10, kpE10⟩, suE10, veE10, tp, PySem.W.mg_none_of X G z_super, top⟩
  have xfE11 : XfC K C11 := ⟨gaE11, ggE11, beE11, hdE11⟩
  have glE11 := PySem.W.mg_of X G gE11
  have rcE11 := recV xE11 tyE11
  have sdE11 : Mx.SupD l.prog K "__init__" "InvalidMeasure.__init__" (defArgs s_InvalidMeasureinit) (defBody s_InvalidMeasureinit) (defScope s_InvalidMeasureinit) C11 fE11 _ cE11 ccE11 := ⟨_, _, _, _, _, _, _, _, _, _, _, _, _, _, _, _, _, _, rfl, lE11, cdE11, lcE11, v2E11, fiE11, llE11⟩
  have obE11 : Mx.OexB "ValueError.__new__" tV K C11 := ⟨⟨_, _, _, _, _, _, _, _, _, _, _, _, _, _, xE11⟩, saE11, beE11, tyE11, kpE11⟩
  have scE11 : Mx.SupC l.prog K mg C11 := ⟨⟨⟨_, _, _, _, _, _, _, _, _, _, _, _, _, _, _, xE11, by decide +kernel⟩, saE11, beE11, tyE11, kpE11⟩, suE11, veE11, tp, PySem.W.mg_none_of X G z_super, top⟩
  have xfE12 : XfC K C12 := ⟨gaE12, ggE12, beE12, hdE12⟩
  have glE12 := PySem.W.mg_of X G gE12
  have rcE12 := recV xE12 tyE12
  have sdE12 : Mx.SupD l.prog K "__init__" "InvalidLane.__init__" (defArgs s_InvalidLaneinit) (defBody s_InvalidLaneinit) (defScope s_InvalidLaneinit) C12 fE12 _ cE12 ccE12 := ⟨_, _, _, _, _, _, _, _, _, _, _, _, _, _, _, _, _, _, rfl, lE12, cdE12, lcE12, v2E12, fiE12, llE12⟩
  have obE12 : Mx.OexB "ValueError.__new__" tV K C12 := ⟨⟨_, _, _, _, _, _, _, _, _, _, _, _, _, _, xE12⟩, saE12, beE12, tyE12, kpE12⟩
  have scE12 : Mx.SupC l.prog K mg C12 := ⟨⟨⟨_, _, _, _, _, _, _, _, _, _, _, _, _, _, _, xE12, by decide +kernel⟩, saE12, beE12, tyE12, kpE12⟩, suE12, veE12, tp, PySem.W.mg_none_of X G z_super, top⟩
  have xfE13 : XfC K C13 := ⟨gaE13, ggE13, beE13, hdE13⟩
  have glE13 := PySem.W.mg_of X G gE13
  have rcE13 := recV xE13 tyE13
  have sdE13 : Mx.SupD l.prog K "__init__" "InvalidState.__init__" (defArgs s_InvalidStateinit) (defBody s_InvalidStateinit) (defScope s_InvalidStateinit) C13 fE13 _ cE13 ccE13 := ⟨_, _, _, _, _, _, _, _, _, _, _, _, _, _, _, _, _, _, rfl, lE13, cdE13, lcE13, v2E13, fiE13, llE13⟩
  have obE13 : Mx.OexB "ValueError.__new__" tV K C13 := ⟨⟨_, _, _, _, _, _, _, _, _, _, _, _, _, _, xE13⟩, saE13, beE13, tyE13, kpE13⟩
  have scE13 : Mx.SupC l.prog K mg C13 := ⟨⟨⟨_, _, _, _, _, _, _, _, _, _, _, _, _, _, _, xE13, by decide +kernel⟩, saE13, beE13, tyE13, kpE13⟩, suE13, veE13, tp, PySem.W.mg_none_of X G z_super, top⟩
  have xfE14 : XfC K C14 := ⟨gaE14, ggE14, beE14, hdE14⟩
  have glE14 := PySem.W.mg_of X G gE14
  have rcE14 := recV xE14 tyE14
  have sdE14 : Mx.SupD l.prog K "__init__" "InvalidStep.__init__" (defArgs s_InvalidStepinit) (defBody s_InvalidStepinit) (defScope s_InvalidStepinit) C14 fE14 _ cE14 ccE14 := ⟨_, _, _, _, _, _, _, _, _, _, _, _, _, _, _, _, _, _, rfl, lE14, cdE14, lcE14, v2E14, fiE14, llE14⟩
  have obE14 : Mx.OexB "ValueError.__new__" tV K C14 := ⟨⟨_, _, _, _, _, _, _, _, _, _, _, _, _, _, xE14⟩, saE14, beE14, tyE14, kpE14⟩
  have scE14 : Mx.SupC l.prog K mg C14 := ⟨⟨⟨_, _, _, _, _, _, _, _, _, _, _, _, _, _, _, xE14, by decide +kernel⟩, saE14, beE14, tyE14, kpE14⟩, suE14, veE14, tp, PySem.W.mg_none_of X G z_super, top⟩
  have xfE15 : XfC K C15 := ⟨gaE15, ggE15, beE15, hdE15⟩
  have glE15 := PySem.W.mg_of X G gE15
  have rcE15 := recV xE15 tyE15
  have sdE15 : Mx.SupD l.prog K "__init__" "InvalidLine.__init__" (defArgs s_InvalidLineinit) (defBody s_InvalidLineinit) (defScope s_InvalidLineinit) C15 fE15 _ cE15 ccE15 := ⟨_, _, _, _, _, _, _, _, _, _, _, _, _, _, _, _, _, _, rfl, lE15, cdE15, lcE15, v2E15, fiE15, llE15⟩
  have obE15 : Mx.OexB "ValueError.__new__" tV K C15 := ⟨⟨_, _, _, _, _, _, _, _, _, _, _, _, _, _, xE15⟩, saE15, beE15, tyE15, kpE15⟩
  have scE15 : Mx.SupC l.prog K mg C15 := ⟨⟨⟨_, _, _, _, _, _, _, _, _, _, _, _, _, _, _, xE15, by decide +kernel⟩, saE15, beE15, tyE15, kpE15⟩, suE15, veE15, tp, PySem.W.mg_none_of X G z_super, top⟩
  have xfE16 : XfC K C16 := ⟨gaE16, ggE16, beE16, hdE16⟩
  have glE16 := PySem.W.mg_of X G gE16
  have rcE16 := recV xE16 tyE16
  have sdE16 : Mx.SupD l.prog K "__init__" "InvalidOffer.__init__" (defArgs s_InvalidOfferinit) (defBody s_InvalidOfferinit) (defScope s_InvalidOfferinit) C16 fE16 _ cE16 ccE16 := ⟨_, _, _, _, _, _, _, _, _, _, _, _, _, _, _, _, _, _, rfl, lE16, cdE16, lcE16, v2E16, fiE16, llE16⟩
  have obE16 : Mx.OexB "ValueError.__new__" tV K C16 := ⟨⟨_, _, _, _, _, _, _, _, _, _, _, _, _, _, xE16⟩, saE16, beE16, tyE16, kpE16⟩
  have scE16 : Mx.SupC l.prog K mg C16 := ⟨⟨⟨_, _, _, _, _, _, _, _, _, _, _, _, _, _, _, xE16, by decide +kernel⟩, saE16, beE16, tyE16, kpE16⟩, suE16, veE16, tp, PySem.W.mg_none_of X G z_super, top⟩
  have xfE17 : XfC K C17 := ⟨gaE17, ggE17, beE17, hdE17⟩
  have glE17 := PySem.W.mg_of X G gE17
  have rcE17 := recV xE17 tyE17
  have sdE17 : Mx.SupD l.prog K "__init__" "InvalidWish.__init__" (defArgs s_InvalidWishinit) (defBody s_InvalidWishinit) (defScope s_InvalidWishinit) C17 fE17 _ cE17 ccE17 := ⟨_, _, _, _, _, _, _, _, _, _, _, _, _, _, _, _, _, _, rfl, lE17, cdE17, lcE17, v2E17, fiE17, llE17⟩
  have obE17 : Mx.OexB "ValueError.__new__" tV K C17 := ⟨⟨_, _, _, _, _, _, _, _, _, _, _, _, _, _, xE17⟩, saE17, beE17, tyE17, kpE17⟩
  have scE17 : Mx.SupC l.prog K mg C17 := ⟨⟨⟨_, _, _, _, _, _, _, _, _, _, _, _, _, _, _, xE17, by decide +kernel⟩, saE17, beE17, tyE17, kpE17⟩, suE17, veE17, tp, PySem.W.mg_none_of X G z_super, top⟩
  have xfE18 : XfC K C18 := ⟨gaE18, ggE18, beE18, hdE18⟩
  have glE18 := PySem.W.mg_of X G gE18
  have rcE18 := recV xE18 tyE18
  have sdE18 : Mx.SupD l.prog K "__init__" "InvalidQuestion.__init__" (defArgs s_InvalidQuestioninit) (defBody s_InvalidQuestioninit) (defScope s_InvalidQuestioninit) C18 fE18 _ cE18 ccE18 := ⟨_, _, _, _, _, _, _, _, _, _, _, _, _, _, _, _, _, _, rfl, lE18, cdE18, lcE18, v2E18, fiE18, llE18⟩
  have obE18 : Mx.OexB "ValueError.__new__" tV K C18 := ⟨⟨_, _, _, _, _, _, _, _, _, _, _, _, _, _, xE18⟩, saE18, beE18, tyE18, kpE18⟩
  have scE18 : Mx.SupC l.prog K mg C18 := ⟨⟨⟨_, _, _, _, _, _, _, _, _, _, _, _, _, _, _, xE18, by decide +kernel⟩, saE18, beE18, tyE18, kpE18⟩, suE18, veE18, tp, PySem.W.mg_none_of X G z_super, top⟩
  have xfE19 : XfC K C19 := ⟨gaE19, ggE19, beE19, hdE19⟩
  have glE19 := PySem.W.mg_of X G gE19
  have rcE19 := recV xE19 tyE19
  have sdE19 : Mx.SupD l.prog K "__init__" "InvalidCommand.__init__" (defArgs s_InvalidCommandinit) (defBody s_InvalidCommandinit) (defScope s_InvalidCommandinit) C19 fE19 _ cE19 ccE19 := ⟨_, _, _, _, _, _, _, _, _, _, _, _, _, _, _, _, _, _, rfl, lE19, cdE19, lcE19, v2E19, fiE19, llE19⟩
  have obE19 : Mx.OexB "ValueError.__new__" tV K C19 := ⟨⟨_, _, _, _, _, _, _, _, _, _, _, _, _, _, xE19⟩, saE19, beE19, tyE19, kpE19⟩
  have scE19 : Mx.SupC l.prog K mg C19 := ⟨⟨⟨_, _, _, _, _, _, _, _, _, _, _, _, _, _, _, xE19, by decide +kernel⟩, saE19, beE19, tyE19, kpE19⟩, suE19, veE19, tp, PySem.W.mg_none_of X G z_super, top⟩
  have xfE20 : XfC K C20 := ⟨gaE20, ggE20, beE20, hdE20⟩
  have glE20 := PySem.W.mg_of X G gE20
  have rcE20 := recL xE20 tyE20
  have sdE20 : Mx.SupD l.prog K "__init__" "UnknownName.__init__" (defArgs s_UnknownNameinit) (defBody s_UnknownNameinit) (defScope s_UnknownNameinit) C20 fE20 _ cE20 ccE20 := ⟨_, _, _, _, _, _, _, _, _, _, _, _, _, _, _, _, _, _, rfl, lE20, cdE20, lcE20, v2E20, fiE20, llE20⟩
  have obE20 : Mx.OexB "LookupError.__new__" tL K C20 := ⟨⟨_, _, _, _, _, _, _, _, _, _, _, _, _, _, xE20⟩, saE20, beE20, tyE20, kpE20⟩
  have scE20 : Mx.SupCB "LookupError" "LookupError.__new__" "LookupError.__init__" tL l.prog K mg C20 := ⟨obE20, suE20, veE20, tp, PySem.W.mg_none_of X G z_super, top⟩
  have xfE21 : XfC K C21 := ⟨gaE21, ggE21, beE21, hdE21⟩
  have glE21 := PySem.W.mg_of X G gE21
  have rcE21 := recO xE21 tyE21
  have sdE21 : Mx.SupD l.prog K "__init__" "TooLong.__init__" (defArgs s_TooLonginit) (defBody s_TooLonginit) (defScope s_TooLonginit) C21 fE21 _ cE21 ccE21 := ⟨_, _, _, _, _, _, _, _, _, _, _, _, _, _, _, _, _, _, rfl, lE21, cdE21, lcE21, v2E21, fiE21, llE21⟩
  have obE21 : Mx.OexB "OverflowError.__new__" tO K C21 := ⟨⟨_, _, _, _, _, _, _, _, _, _, _, _, _, _, xE21⟩, saE21, beE21, tyE21, kpE21⟩
  have scE21 : Mx.SupCB "OverflowError" "OverflowError.__new__" "OverflowError.__init__" tO l.prog K mg C21 := ⟨obE21, suE21, veE21, tp, PySem.W.mg_none_of X G z_super, top⟩
  have xfE22 : XfC K C22 := ⟨gaE22, ggE22, beE22, hdE22⟩
  have glE22 := PySem.W.mg_of X G gE22
  have rcE22 := recO xE22 tyE22
  have sdE22 : Mx.SupD l.prog K "__init__" "LimitExceeded.__init__" (defArgs s_LimitExceededinit) (defBody s_LimitExceededinit) (defScope s_LimitExceededinit) C22 fE22 _ cE22 ccE22 := ⟨_, _, _, _, _, _, _, _, _, _, _, _, _, _, _, _, _, _, rfl, lE22, cdE22, lcE22, v2E22, fiE22, llE22⟩
  have obE22 : Mx.OexB "OverflowError.__new__" tO K C22 := ⟨⟨_, _, _, _, _, _, _, _, _, _, _, _, _, _, xE22⟩, saE22, beE22, tyE22, kpE22⟩
  have scE22 : Mx.SupCB "OverflowError" "OverflowError.__new__" "OverflowError.__init__" tO l.prog K mg C22 := ⟨obE22, suE22, veE22, tp, PySem.W.mg_none_of X G z_super, top⟩
  have xfE23 : XfC K C23 := ⟨gaE23, ggE23, beE23, hdE23⟩
  have glE23 := PySem.W.mg_of X G gE23
  have rcE23 := recR xE23 tyE23
  have xfE24 : XfC K C24 := ⟨gaE24, ggE24, beE24, hdE24⟩
  have glE24 := PySem.W.mg_of X G gE24
  have rcE24 := recR xE24 tyE24
  have xfE25 : XfC K C25 := ⟨gaE25, ggE25, beE25, hdE25⟩
  have glE25 := PySem.W.mg_of X G gE25
  have rcE25 := recR xE25 tyE25
  have xfE26 : XfC K C26 := ⟨gaE26, ggE26, beE26, hdE26⟩
  have glE26 := PySem.W.mg_of X G gE26
  have rcE26 := recR xE26 tyE26
  have B : AllK K (cF [C0, C1, C2, C3, C4, C5, C6, C7, C8, C9, C10, C11, C12, C13, C14, C15, C16, C17, C18, C19, C20, C21, C22, C23, C24, C25, C26]) := by
    refine allK_of rfl nd (fun i hi => ?_) (fun i hi => ?_) (fun i hi => ?_) ghn gtk nfp nfE0 nfE1 nfE2 nfE3 nfE4 nfE5 nfE6 nfE7 nfE8 nfE9 nfE10 nfE11 nfE12 nfE13 nfE14 nfE15 nfE16 nfE17 nfE18 nfE19 nfE20 nfE21 nfE22
    · match i, hi with
      | 0, _ => exact ⟨_, rcE0⟩
      | 1, _ => exact ⟨_, rcE1⟩
      | 2, _ => exact ⟨_, rcE2⟩
      | 3, _ => exact ⟨_, rcE3⟩
      | 4, _ => exact ⟨_, rcE4⟩
      | 5, _ => exact ⟨_, rcE5⟩
      | 6, _ => exact ⟨_, rcE6⟩
      | 7, _ => exact ⟨_, rcE7⟩
      | 8, _ => exact ⟨_, rcE8⟩
      | 9, _ => exact ⟨_, rcE9⟩
      | 10, _ => exact ⟨_, rcE10⟩
      | 11, _ => exact ⟨_, rcE11⟩
      | 12, _ => exact ⟨_, rcE12⟩
      | 13, _ => exact ⟨_, rcE13⟩
      | 14, _ => exact ⟨_, rcE14⟩
      | 15, _ => exact ⟨_, rcE15⟩
      | 16, _ => exact ⟨_, rcE16⟩
      | 17, _ => exact ⟨_, rcE17⟩
      | 18, _ => exact ⟨_, rcE18⟩
      | 19, _ => exact ⟨_, rcE19⟩
      | 20, _ => exact ⟨_, rcE20⟩
      | 21, _ => exact ⟨_, rcE21⟩
      | 22, _ => exact ⟨_, rcE22⟩
      | 23, _ => exact ⟨_, rcE23⟩
      | 24, _ => exact ⟨_, rcE24⟩
      | 25, _ => exact ⟨_, rcE25⟩
      | 26, _ => exact ⟨_, rcE26⟩
      | n + 27, h => exact absurd h (by omega)
    · match i, hi with
      | 0, _ => exact xfE0
      | 1, _ => exact xfE1
      | 2, _ => exact xfE2
      | 3, _ => exact xfE3
      | 4, _ => exact xfE4
      | 5, _ => exact xfE5
      | 6, _ => exact xfE6
      | 7, _ => exact xfE7
      | 8, _ => exact xfE8
      | 9, _ => exact xfE9
      | 10, _ => exact xfE10
      | 11, _ => exact xfE11
      | 12, _ => exact xfE12
      | 13, _ => exact xfE13
      | 14, _ => exact xfE14
      | 15, _ => exact xfE15
      | 16, _ => exact xfE16
      | 17, _ => exact xfE17
      | 18, _ => exact xfE18
      | 19, _ => exact xfE19
      | 20, _ => exact xfE20
      | 21, _ => exact xfE21
      | 22, _ => exact xfE22
      | 23, _ => exact xfE23
      | 24, _ => exact xfE24
      | 25, _ => exact xfE25
      | 26, _ => exact xfE26
      | n + 27, h => exact absurd h (by omega)
    · match i, hi with
      | 0, _ => exact caE0
      | 1, _ => exact caE1
      | 2, _ => exact caE2
      | 3, _ => exact caE3
      | 4, _ => exact caE4
      | 5, _ => exact caE5
      | 6, _ => exact caE6
      | 7, _ => exact caE7
      | 8, _ => exact caE8
      | 9, _ => exact caE9
      | 10, _ => exact caE10
      | 11, _ => exact caE11
      | 12, _ => exact caE12
      | 13, _ => exact caE13
      | 14, _ => exact caE14
      | 15, _ => exact caE15
      | 16, _ => exact caE16
      | 17, _ => exact caE17
      | 18, _ => exact caE18
      | 19, _ => exact caE19
      | 20, _ => exact caE20
      | 21, _ => exact caE21
      | 22, _ => exact caE22
      | 23, _ => exact caE23
      | 24, _ => exact caE24
      | 25, _ => exact caE25
      | 26, _ => exact caE26
      | n + 27, h => exact absurd h (by omega)
  have ef := hfa.symm.trans (PySem.W.mg_of X G aL)
  cases ef
  refine ⟨PySem.W.fnOf "law" "law" (defArgs s_law) (defBody s_law) (defScope s_law) .none kVL dcL pmL anL cdL ctL, fun s v => .of_eq rfl, fun base _ _ => ?_⟩
  · have A : AllE l.prog w K mg base (cF [C0, C1, C2, C3, C4, C5, C6, C7, C8, C9, C10, C11, C12, C13, C14, C15, C16, C17, C18, C19, C20, C21, C22, C23, C24, C25, C26]) := ⟨⟨⟨"ValueError", _, _, tV, fE0, _, base_VE, obE0, iE0, tE0, ok_InvalidName sdE0 scE0 nfE0, .all (fun us hl => match us, hl with | [_, _], _ => rfl), ⟨fun s us ws X l1 l2 => match us, ws, l1, l2 with | [_], [_], _, _ => .of_eq rfl, fun r1 r2 => vals_app r1 r2.reverse⟩⟩, glE0⟩,
      ⟨⟨"ValueError", _, _, tV, fE1, _, base_VE, obE1, iE1, tE1, ok_InvalidPolicy sdE1 scE1 nfE1, .all (fun us hl => match us, hl with | [_, _], _ => rfl), ⟨fun s us ws X l1 l2 => match us, ws, l1, l2 with | [_], [_], _, _ => .of_eq rfl, fun r1 r2 => vals_app r1 r2.reverse⟩⟩, glE1⟩,
      ⟨⟨"ValueError", _, _, tV, fE2, _, base_VE, obE2, iE2, tE2, ok_InvalidPolicies sdE2 scE2 nfE2, .all (fun us hl => match us, hl with | [_, _], _ => rfl), ⟨fun s us ws X l1 l2 => match us, ws, l1, l2 with | [_], [_], _, _ => .of_eq rfl, fun r1 r2 => vals_app r1 r2.reverse⟩⟩, glE2⟩,
      ⟨⟨"ValueError", _, _, tV, fE3, _, base_VE, obE3, iE3, tE3, ok_InvalidServices sdE3 scE3 nfE3, .all (fun us hl => match us, hl with | [_, _], _ => rfl), ⟨fun s us ws X l1 l2 => match us, ws, l1, l2 with | [_], [_], _, _ => .of_eq rfl, fun r1 r2 => vals_app r1 r2.reverse⟩⟩, glE3⟩,
      ⟨⟨"ValueError", _, _, tV, fE4, _, base_VE, obE4, iE4, tE4, ok_InvalidPart sdE4 scE4 nfE4 nfp, .all (fun us hl => match us, hl with | [_, _, _], _ => rfl), ⟨fun s us ws X l1 l2 => match us, ws, l1, l2 with | [_], [_, _], _, _ => .of_eq rfl, fun r1 r2 => vals_app r1 r2.reverse⟩⟩, glE4⟩,
      ⟨⟨"ValueError", _, _, tV, fE5, _, base_VE, obE5, iE5, tE5, ok_InvalidText sdE5 scE5 nfE5, .all (fun us hl => match us, hl with | [_, _], _ => rfl), ⟨fun s us ws X l1 l2 => match us, ws, l1, l2 with | [_], [_], _, _ => .of_eq rfl, fun r1 r2 => vals_app r1 r2.reverse⟩⟩, glE5⟩,
      ⟨⟨"ValueError", _, _, tV, fE6, _, base_VE, obE6, iE6, tE6, ok_InvalidChoices sdE6 scE6 nfE6, .all (fun us hl => match us, hl with | [_, _], _ => rfl), ⟨fun s us ws X l1 l2 => match us, ws, l1, l2 with | [_], [_], _, _ => .of_eq rfl, fun r1 r2 => vals_app r1 r2.reverse⟩⟩, glE6⟩,
      ⟨⟨"ValueError", _, _, tV, fE7, _, base_VE, obE7, iE7, tE7, ok_InvalidChoice sdE7 scE7 nfE7, .all (fun us hl => match us, hl with | [_, _], _ => rfl), ⟨fun s us ws X l1 l2 => match us, ws, l1, l2 with | [_], [_], _, _ => .of_eq rfl, fun r1 r2 => vals_app r1 r2.reverse⟩⟩, glE7⟩,
      ⟨⟨"ValueError", _, _, tV, fE8, _, base_VE, obE8, iE8, tE8, ok_InvalidNumber sdE8 scE8 nfE8, .all (fun us hl => match us, hl with | [_, _], _ => rfl), ⟨fun s us ws X l1 l2 => match us, ws, l1, l2 with | [_], [_], _, _ => .of_eq rfl, fun r1 r2 => vals_app r1 r2.reverse⟩⟩, glE8⟩,
      ⟨⟨"ValueError", _, _, tV, fE9, _, base_VE, obE9, iE9, tE9, ok_InvalidRows sdE9 scE9 nfE9, .all (fun us hl => match us, hl with | [_, _], _ => rfl), ⟨fun s us ws X l1 l2 => match us, ws, l1, l2 with | [_], [_], _, _ => .of_eq rfl, fun r1 r2 => vals_app r1 r2.reverse⟩⟩, glE9⟩,
      ⟨⟨"ValueError", _, _, tV, fE10, _, base_VE, obE10, iE10, tE10, ok_InvalidTable sdE10 scE10 nfE10, .all (fun us hl => match us, hl with | [_, _], _ => rfl), ⟨fun s us ws X l1 l2 => match us, ws, l1, l2 with | [_], [_], _, _ => .of_eq rfl, fun r1 r2 => vals_app r1 r2.reverse⟩⟩, glE10⟩,
      ⟨⟨"ValueError", _, _, tV, fE11, _, base_VE, obE11, iE11, tE11, ok_InvalidMeasure sdE11 scE11 nfE11, .all (fun us hl => match us, hl with | [_, _], _ => rfl), ⟨fun s us ws X l1 l2 => match us, ws, l1, l2 with | [_], [_], _, _ => .of_eq rfl, fun r1 r2 => vals_app r1 r2.reverse⟩⟩, glE11⟩,
      ⟨⟨"ValueError", _, _, tV, fE12, _, base_VE, obE12, iE12, tE12, ok_InvalidLane sdE12 scE12 nfE12, .all (fun us hl => match us, hl with | [_, _], _ => rfl), ⟨fun s us ws X l1 l2 => match us, ws, l1, l2 with | [_], [_], _, _ => .of_eq rfl, fun r1 r2 => vals_app r1 r2.reverse⟩⟩, glE12⟩,
      ⟨⟨"ValueError", _, _, tV, fE13, _, base_VE, obE13, iE13, tE13, ok_InvalidState sdE13 scE13 nfE13, .all (fun us hl => match us, hl with | [_, _], _ => rfl), ⟨fun s us ws X l1 l2 => match us, ws, l1, l2 with | [_], [_], _, _ => .of_eq rfl, fun r1 r2 => vals_app r1 r2.reverse⟩⟩, glE13⟩,
      ⟨⟨"ValueError", _, _, tV, fE14, _, base_VE, obE14, iE14, tE14, ok_InvalidStep sdE14 scE14 nfE14, .all (fun us hl => match us, hl with | [_, _], _ => rfl), ⟨fun s us ws X l1 l2 => match us, ws, l1, l2 with | [_], [_], _, _ => .of_eq rfl, fun r1 r2 => vals_app r1 r2.reverse⟩⟩, glE14⟩,
      ⟨⟨"ValueError", _, _, tV, fE15, _, base_VE, obE15, iE15, tE15, ok_InvalidLine sdE15 scE15 nfE15, .all (fun us hl => match us, hl with | [_, _], _ => rfl), ⟨fun s us ws X l1 l2 => match us, ws, l1, l2 with | [_], [_], _, _ => .of_eq rfl, fun r1 r2 => vals_app r1 r2.reverse⟩⟩, glE15⟩,
      ⟨⟨"ValueError", _, _, tV, fE16, _, base_VE, obE16, iE16, tE16, ok_InvalidOffer sdE16 scE16 nfE16, .all (fun us hl => match us, hl with | [_, _], _ => rfl), ⟨fun s us ws X l1 l2 => match us, ws, l1, l2 with | [_], [_], _, _ => .of_eq rfl, fun r1 r2 => vals_app r1 r2.reverse⟩⟩, glE16⟩,
      ⟨⟨"ValueError", _, _, tV, fE17, _, base_VE, obE17, iE17, tE17, ok_InvalidWish sdE17 scE17 nfE17, .all (fun us hl => match us, hl with | [_, _], _ => rfl), ⟨fun s us ws X l1 l2 => match us, ws, l1, l2 with | [_], [_], _, _ => .of_eq rfl, fun r1 r2 => vals_app r1 r2.reverse⟩⟩, glE17⟩,
      ⟨⟨"ValueError", _, _, tV, fE18, _, base_VE, obE18, iE18, tE18, ok_InvalidQuestion sdE18 scE18 nfE18, .all (fun us hl => match us, hl with | [_, _], _ => rfl), ⟨fun s us ws X l1 l2 => match us, ws, l1, l2 with | [_], [_], _, _ => .of_eq rfl, fun r1 r2 => vals_app r1 r2.reverse⟩⟩, glE18⟩,
      ⟨⟨"ValueError", _, _, tV, fE19, _, base_VE, obE19, iE19, tE19, ok_InvalidCommand sdE19 scE19 nfE19, .all (fun us hl => match us, hl with | [_, _], _ => rfl), ⟨fun s us ws X l1 l2 => match us, ws, l1, l2 with | [_], [_], _, _ => .of_eq rfl, fun r1 r2 => vals_app r1 r2.reverse⟩⟩, glE19⟩,
      ⟨⟨"LookupError", _, _, tL, fE20, _, base_LE, obE20, iE20, tE20, ok_UnknownName sdE20 scE20 nfE20, .all (fun us hl => match us, hl with | [_, _], _ => rfl), ⟨fun s us ws X l1 l2 => match us, ws, l1, l2 with | [_], [_], _, _ => .of_eq rfl, fun r1 r2 => vals_app r1 r2.reverse⟩⟩, glE20⟩,
      ⟨⟨"OverflowError", _, _, tO, fE21, _, base_OE, obE21, iE21, tE21, ok_TooLong sdE21 scE21 nfE21, .all (fun us hl => match us, hl with | [_, _], _ => rfl), ⟨fun s us ws X l1 l2 => match us, ws, l1, l2 with | [_], [_], _, _ => .of_eq rfl, fun r1 r2 => vals_app r1 r2.reverse⟩⟩, glE21⟩,
      ⟨⟨"OverflowError", _, _, tO, fE22, _, base_OE, obE22, iE22, tE22, ok_LimitExceeded sdE22 scE22 nfE22, .all (fun us hl => match us, hl with | [_, _], _ => rfl), ⟨fun s us ws X l1 l2 => match us, ws, l1, l2 with | [_], [_], _, _ => .of_eq rfl, fun r1 r2 => vals_app r1 r2.reverse⟩⟩, glE22⟩,
      ⟨⟨"RuntimeError", "RuntimeError.__new__", "RuntimeError.__init__", tR, F.excBase_RuntimeError, exE23⟩, kpE23, glE23⟩,
      ⟨⟨"RuntimeError", "RuntimeError.__new__", "RuntimeError.__init__", tR, F.excBase_RuntimeError, exE24⟩, kpE24, glE24⟩,
      ⟨⟨"RuntimeError", "RuntimeError.__new__", "RuntimeError.__init__", tR, F.excBase_RuntimeError, exE25⟩, kpE25, glE25⟩,
      ⟨⟨"RuntimeError", "RuntimeError.__new__", "RuntimeError.__init__", tR, F.excBase_RuntimeError, exE26⟩, kpE26, glE26⟩⟩
    have c_pool := ok_pool (P := l.prog) (w := w) (base := base) T Dg0
    have c_draw := ok_draw (P := l.prog) (w := w) (base := base) T Dg1
    have c_choose := ok_choose T Dg2 c_draw
    have c_made := ok_made Dg3 A
    have c_named := ok_named Dg4 A
    have c_fields := ok_fields (P := l.prog) (w := w) (base := base) Dg5 B
    have c_kinds := ok_kinds Dg6 T A B
    have FL := fun_mk (st := s_law) lL cL kL
    exact ok_law FL T B c_made c_named c_fields c_kinds c_pool c_draw c_choose
end K1
open PySem PySem.W PyProof.Rows in
set_option maxRecDepth 100000 in
set_option maxHeartbeats 0 in
theorem PySem.Challenge.cw_mostcalls_k01_error_classes_holds : PySem.Challenge.rw_mostcalls_k01_error_classes.Holds := by
  w_on; o_law; k_head; (case hw => w_witness2)
  k_fill
  refine Mc.walk_run (l := PySem.Challenge.rw_mostcalls_k01_error_classes) (n := 63) (k := 5) (sp := fun K => K1.spLaw K) (x := "_law_script") rfl (by decide) rfl ⟨rfl, by decide, by decide⟩ (fun w h Y => PySem.W.kIn_of Y) ?F (fun K H a ns h1 _ h3 => ⟨a, ns, rfl, h3, h1, fun _ => rfl⟩)
  case F =>
    intro w mg fa h KX G hmg
    refine' K1.all_mk KX G hmg ?ag0 ?lg0 ?cg0 ?kg0 ?ag1 ?lg1 ?cg1 ?kg1 ?ag2 ?lg2 ?cg2 ?kg2 ?ag3 ?lg3 ?cg3 ?kg3 ?ag4 ?lg4 ?cg4 ?kg4 ?ag5 ?lg5 ?cg5 ?kg5 ?ag6 ?lg6 ?cg6 ?kg6 ?aL ?lL ?cL ?kL ?z_isinstance ?z_len ?z_range ?z_repr ?z_max ?z_min ?z_int ?z_enumerate ?z_ValueError ?z_LookupError ?z_OverflowError ?z_RuntimeError ?z_super ?ghn ?gtk ?tp ?top ?gE0 ?xE0 ?beE0 ?tyE0 ?kpE0 ?gaE0 ?ggE0 ?hdE0 ?caE0 ?saE0 ?suE0 ?veE0 ?nfE0 ?iE0 ?lE0 ?tE0 ?cdE0 ?lcE0 ?v2E0 ?fiE0 ?llE0 ?gE1 ?xE1 ?beE1 ?tyE1 ?kpE1 ?gaE1 ?ggE1 ?hdE1 ?caE1 ?saE1 ?suE1 ?veE1 ?nfE1 ?iE1 ?lE1 ?tE1 ?cdE1 ?lcE1 ?v2E1 ?fiE1 ?llE1 ?gE2 ?xE2 ?beE2 ?tyE2 ?kpE2 ?gaE2 ?ggE2 ?hdE2 ?caE2 ?saE2 ?suE2 ?veE2 ?nfE2 ?iE2 ?lE2 ?tE2 ?cdE2 ?lcE2 ?v2E2 ?fiE2 ?llE2 ?gE3 ?xE3 ?beE3 ?tyE3 ?kpE3 ?gaE3 ?ggE3 ?hdE3 ?caE3 ?saE3 ?suE3 ?veE3 ?nfE3 ?iE3 ?lE3 ?tE3 ?cdE3 ?lcE3 ?v2E3 ?fiE3 ?llE3 ?gE4 ?xE4 ?beE4 ?tyE4 ?kpE4 ?gaE4 ?ggE4 ?hdE4 ?caE4 ?saE4 ?suE4 ?veE4 ?nfE4 ?nfp ?iE4 ?lE4 ?tE4 ?cdE4 ?lcE4 ?v2E4 ?fiE4 ?llE4 ?gE5 ?xE5 ?beE5 ?tyE5 ?kpE5 ?gaE5 ?ggE5 ?hdE5 ?caE5 ?saE5 ?suE5 ?veE5 ?nfE5 ?iE5 ?lE5 ?tE5 ?cdE5 ?lcE5 ?v2E5 ?fiE5 ?llE5 ?gE6 ?xE6 ?beE6 ?tyE6 ?kpE6 ?gaE6 ?ggE6 ?hdE6 ?caE6 ?saE6 ?suE6 ?veE6 ?nfE6 ?iE6 ?lE6 ?tE6 ?cdE6 ?lcE6 ?v2E6 ?fiE6 ?llE6 ?gE7 ?xE7 ?beE7 ?tyE7 ?kpE7 ?gaE7 ?ggE7 ?hdE7 ?caE7 ?saE7 ?suE7 ?veE7 ?nfE7 ?iE7 ?lE7 ?tE7 ?cdE7 ?lcE7 ?v2E7 ?fiE7 ?llE7 ?gE8 ?xE8 ?beE8 ?tyE8 ?kpE8 ?gaE8 ?ggE8 ?hdE8 ?caE8 ?saE8 ?suE8 ?veE8 ?nfE8 ?iE8 ?lE8 ?tE8 ?cdE8 ?lcE8 ?v2E8 ?fiE8 ?llE8 ?gE9 ?xE9 ?beE9 ?tyE9 ?kpE9 ?gaE9 ?ggE9 ?hdE9 ?caE9 ?saE9 ?suE9 ?veE9 ?nfE9 ?iE9 ?lE9 ?tE9 ?cdE9 ?lcE9 ?v2E9 ?fiE9 ?llE9 ?gE10 ?xE10 ?beE10 ?tyE10 ?kpE10 ?gaE10 ?ggE10 ?hdE10 ?caE10 ?saE10 ?suE10 ?veE10 ?nfE10 ?iE10 ?lE10 ?tE10 ?cdE10 ?lcE10 ?v2E10 ?fiE10 ?llE10 ?gE11 ?xE11 ?beE11 ?tyE11 ?kpE11 ?gaE11 ?ggE11 ?hdE11 ?caE11 ?saE11 ?suE11 ?veE11 ?nfE11 ?iE11 ?lE11 ?tE11 ?cdE11 ?lcE11 ?v2E11 ?fiE11 ?llE11 ?gE12 ?xE12 ?beE12 ?tyE12 ?kpE12 ?gaE12 ?ggE12 ?hdE12 ?caE12 ?saE12 ?suE12 ?veE12 ?nfE12 ?iE12 ?lE12 ?tE12 ?cdE12 ?lcE12 ?v2E12 ?fiE12 ?llE12 ?gE13 ?xE13 ?beE13 ?tyE13 ?kpE13 ?gaE13 ?ggE13 ?hdE13 ?caE13 ?saE13 ?suE13 ?veE13 ?nfE13 ?iE13 ?lE13 ?tE13 ?cdE13 ?lcE13 ?v2E13 ?fiE13 ?llE13 ?gE14 ?xE14 ?beE14 ?tyE14 ?kpE14 ?gaE14 ?ggE14 ?hdE14 ?caE14 ?saE14 ?suE14 ?veE14 ?nfE14 ?iE14 ?lE14 ?tE14 ?cdE14 ?lcE14 ?v2E14 ?fiE14 ?llE14 ?gE15 ?xE15 ?beE15 ?tyE15 ?kpE15 ?gaE15 ?ggE15 ?hdE15 ?caE15 ?saE15 ?suE15 ?veE15 ?nfE15 ?iE15 ?lE15 ?tE15 ?cdE15 ?lcE15 ?v2E15 ?fiE15 ?llE15 ?gE16 ?xE16 ?beE16 ?tyE16 ?kpE16 ?gaE16 ?ggE16 ?hdE16 ?caE16 ?saE16 ?suE16 ?veE16 ?nfE16 ?iE16 ?lE16 ?tE16 ?cdE16 ?lcE16 ?v2E16 ?fiE16 ?llE16 ?gE17 ?xE17 ?beE17 ?tyE17 ?kpE17 ?gaE17 ?ggE17 ?hdE17 ?caE17 ?saE17 ?suE17 ?veE17 ?nfE17 ?iE17 ?lE17 ?tE17 ?cdE17 ?lcE17 ?v2E17 ?fiE17 ?llE17 ?gE18 ?xE18 ?beE18 ?tyE18 ?kpE18 ?gaE18 ?ggE18 ?hdE18 ?caE18 ?saE18 ?suE18 ?veE18 ?nfE18 ?iE18 ?lE18 ?tE18 ?cdE18 ?lcE18 ?v2E18 ?fiE18 ?llE18 ?gE19 ?xE19 ?beE19 ?tyE19 ?kpE19 ?gaE19 ?ggE19 ?hdE19 ?caE19 ?saE19 ?suE19 ?veE19 ?nfE19 ?iE19 ?lE19 ?tE19 ?cdE19 ?lcE19 ?v2E19 ?fiE19 ?llE19 ?gE20 ?xE20 ?beE20 ?tyE20 ?kpE20 ?gaE20 ?ggE20 ?hdE20 ?caE20 ?saE20 ?suE20 ?veE20 ?nfE20 ?iE20 ?lE20 ?tE20 ?cdE20 ?lcE20 ?v2E20 ?fiE20 ?llE20 ?gE21 ?xE21 ?beE21 ?tyE21 ?kpE21 ?gaE21 ?ggE21 ?hdE21 ?caE21 ?saE21 ?suE21 ?veE21 ?nfE21 ?iE21 ?lE21 ?tE21 ?cdE21 ?lcE21 ?v2E21 ?fiE21 ?llE21 ?gE22 ?xE22 ?beE22 ?tyE22 ?kpE22 ?gaE22 ?ggE22 ?hdE22 ?caE22 ?saE22 ?suE22 ?veE22 ?nfE22 ?iE22 ?lE22 ?tE22 ?cdE22 ?lcE22 ?v2E22 ?fiE22 ?llE22 ?gE23 ?xE23 ?beE23 ?tyE23 ?kpE23 ?gaE23 ?ggE23 ?hdE23 ?caE23 ?exE23 ?gE24 ?xE24 ?beE24 ?tyE24 ?kpE24 ?gaE24 ?ggE24 ?hdE24 ?caE24 ?exE24 ?gE25 ?xE25 ?beE25 ?tyE25 ?kpE25 ?gaE25 ?ggE25 ?hdE25 ?caE25 ?exE25 ?gE26 ?xE26 ?beE26 ?tyE26 ?kpE26 ?gaE26 ?ggE26 ?hdE26 ?caE26 ?exE26 ?nd
    (case ag0 => k_is)
    (case lg0 => k_is)
    (case cg0 => k_is)
    (case kg0 => k_is)
    (case ag1 => k_is)
    (case lg1 => k_is)
    (case cg1 => k_is)
    (case kg1 => k_is)
    (case ag2 => k_is)
    (case lg2 => k_is)
    (case cg2 => k_is)
    (case kg2 => k_is)
    (case ag3 => k_is)
    (case lg3 => k_is)
    (case cg3 => k_is)
    (case kg3 => k_is)
    (case ag4 => k_is)
    (case lg4 => k_is)
    (case cg4 => k_is)
    (case kg4 => k_is)
    (case ag5 => k_is)
    (case lg5 => k_is)
    (case cg5 => k_is)
    (case kg5 => k_is)
    (case ag6 => k_is)
    (case lg6 => k_is)
    (case cg6 => k_is)
    (case kg6 => k_is)
    (case aL => k_is)
    (case lL => k_is)
    (case cL => k_is)
    (case kL => k_is)
    (case z_isinstance => k_is)
    (case z_len => k_is)
    (case z_range => k_is)
    (case z_repr => k_is)
    (case z_max => k_is)
    (case z_min => k_is)
    (case z_int => k_is)
    (case z_enumerate => k_is)
    (case z_ValueError => k_is)
    (case z_LookupError => k_is)
    (case z_OverflowError => k_is)
    (case z_RuntimeError => k_is)
    (case z_super => k_is)
    (case ghn => k_is)
    (case gtk => k_is)
    (case tp => k_is)
    (case top => first | rfl | decide +kernel)
    (case gE0 => k_is)
    (case xE0 => k_is)
    (case beE0 => k_is)
    (case tyE0 => k_is)
    (case kpE0 => k_is)
    (case gaE0 => k_is)
    (case ggE0 => k_is)
    (case hdE0 => k_is)
    (case caE0 => k_is)
    (case saE0 => k_is)
    (case suE0 => first | ks_is | k_is | kernel_rfl)
    (case veE0 => k_is)
    (case nfE0 => k_is)
    (case iE0 => k_is)
    (case lE0 => k_is)
    (case tE0 => k_is)
    (case cdE0 => k_is)
    (case lcE0 => k_is)
    (case v2E0 => first | rfl | decide +kernel)
    (case fiE0 => first | rfl | decide +kernel)
    (case llE0 => k_is)
    (case gE1 => k_is)
    (case xE1 => k_is)
    (case beE1 => k_is)
    (case tyE1 => k_is)
    (case kpE1 => k_is)
    (case gaE1 => k_is)
    (case ggE1 => k_is)
    (case hdE1 => k_is)
    (case caE1 => k_is)
    (case saE1 => k_is)
    (case suE1 => first | ks_is | k_is | kernel_rfl)
    (case veE1 => k_is)
    (case nfE1 => k_is)
    (case iE1 => k_is)
    (case lE1 => k_is)
    (case tE1 => k_is)
    (case cdE1 => k_is)
    (case lcE1 => k_is)
    (case v2E1 => first | rfl | decide +kernel)
    (case fiE1 => first | rfl | decide +kernel)
    (case llE1 => k_is)
    (case gE2 => k_is)
    (case xE2 => k_is)
    (case beE2 => k_is)
    (case tyE2 => k_is)
    (case kpE2 => k_is)
    (case gaE2 => k_is)
    (case ggE2 => k_is)
    (case hdE2 => k_is)
    (case caE2 => k_is)
    (case saE2 => k_is)
    (case suE2 => first | ks_is | k_is | kernel_rfl)
    (case veE2 => k_is)
    (case nfE2 => k_is)
    (case iE2 => k_is)
    (case lE2 => k_is)
    (case tE2 => k_is)
    (case cdE2 => k_is)
    (case lcE2 => k_is)
    (case v2E2 => first | rfl | decide +kernel)
    (case fiE2 => first | rfl | decide +kernel)
    (case llE2 => k_is)
    (case gE3 => k_is)
    (case xE3 => k_is)
    (case beE3 => k_is)
    (case tyE3 => k_is)
    (case kpE3 => k_is)
    (case gaE3 => k_is)
    (case ggE3 => k_is)
    (case hdE3 => k_is)
    (case caE3 => k_is)
    (case saE3 => k_is)
    (case suE3 => first | ks_is | k_is | kernel_rfl)
    (case veE3 => k_is)
    (case nfE3 => k_is)
    (case iE3 => k_is)
    (case lE3 => k_is)
    (case tE3 => k_is)
    (case cdE3 => k_is)
    (case lcE3 => k_is)
    (case v2E3 => first | rfl | decide +kernel)
    (case fiE3 => first | rfl | decide +kernel)
    (case llE3 => k_is)
    (case gE4 => k_is)
    (case xE4 => k_is)
    (case beE4 => k_is)
    (case tyE4 => k_is)
    (case kpE4 => k_is)
    (case gaE4 => k_is)
    (case ggE4 => k_is)
    (case hdE4 => k_is)
    (case caE4 => k_is)
    (case saE4 => k_is)
    (case suE4 => first | ks_is | k_is | kernel_rfl)
    (case veE4 => k_is)
    (case nfE4 => k_is)
    (case nfp => k_is)
    (case iE4 => k_is)
    (case lE4 => k_is)
    (case tE4 => k_is)
    (case cdE4 => k_is)
    (case lcE4 => k_is)
    (case v2E4 => first | rfl | decide +kernel)
    (case fiE4 => first | rfl | decide +kernel)
    (case llE4 => k_is)
    (case gE5 => k_is)
    (case xE5 => k_is)
    (case beE5 => k_is)
    (case tyE5 => k_is)
    (case kpE5 => k_is)
    (case gaE5 => k_is)
    (case ggE5 => k_is)
    (case hdE5 => k_is)
    (case caE5 => k_is)
    (case saE5 => k_is)
    (case suE5 => first | ks_is | k_is | kernel_rfl)
    (case veE5 => k_is)
    (case nfE5 => k_is)
    (case iE5 => k_is)
    (case lE5 => k_is)
    (case tE5 => k_is)
    (case cdE5 => k_is)
    (case lcE5 => k_is)
    (case v2E5 => first | rfl | decide +kernel)
    (case fiE5 => first | rfl | decide +kernel)
    (case llE5 => k_is)
    (case gE6 => k_is)
    (case xE6 => k_is)
    (case beE6 => k_is)
    (case tyE6 => k_is)
    (case kpE6 => k_is)
    (case gaE6 => k_is)
    (case ggE6 => k_is)
    (case hdE6 => k_is)
    (case caE6 => k_is)
    (case saE6 => k_is)
    (case suE6 => first | ks_is | k_is | kernel_rfl)
    (case veE6 => k_is)
    (case nfE6 => k_is)
    (case iE6 => k_is)
    (case lE6 => k_is)
    (case tE6 => k_is)
    (case cdE6 => k_is)
    (case lcE6 => k_is)
    (case v2E6 => first | rfl | decide +kernel)
    (case fiE6 => first | rfl | decide +kernel)
    (case llE6 => k_is)
    (case gE7 => k_is)
    (case xE7 => k_is)
    (case beE7 => k_is)
    (case tyE7 => k_is)
    (case kpE7 => k_is)
    (case gaE7 => k_is)
    (case ggE7 => k_is)
    (case hdE7 => k_is)
    (case caE7 => k_is)
    (case saE7 => k_is)
    (case suE7 => first | ks_is | k_is | kernel_rfl)
    (case veE7 => k_is)
    (case nfE7 => k_is)
    (case iE7 => k_is)
    (case lE7 => k_is)
    (case tE7 => k_is)
    (case cdE7 => k_is)
    (case lcE7 => k_is)
    (case v2E7 => first | rfl | decide +kernel)
    (case fiE7 => first | rfl | decide +kernel)
    (case llE7 => k_is)
    (case gE8 => k_is)
    (case xE8 => k_is)
    (case beE8 => k_is)
    (case tyE8 => k_is)
    (case kpE8 => k_is)
    (case gaE8 => k_is)
    (case ggE8 => k_is)
    (case hdE8 => k_is)
    (case caE8 => k_is)
    (case saE8 => k_is)
    (case suE8 => first | ks_is | k_is | kernel_rfl)
    (case veE8 => k_is)
    (case nfE8 => k_is)
    (case iE8 => k_is)
    (case lE8 => k_is)
    (case tE8 => k_is)
    (case cdE8 => k_is)
    (case lcE8 => k_is)
    (case v2E8 => first | rfl | decide +kernel)
    (case fiE8 => first | rfl | decide +kernel)
    (case llE8 => k_is)
    (case gE9 => k_is)
    (case xE9 => k_is)
    (case beE9 => k_is)
    (case tyE9 => k_is)
    (case kpE9 => k_is)
    (case gaE9 => k_is)
    (case ggE9 => k_is)
    (case hdE9 => k_is)
    (case caE9 => k_is)
    (case saE9 => k_is)
    (case suE9 => first | ks_is | k_is | kernel_rfl)
    (case veE9 => k_is)
    (case nfE9 => k_is)
    (case iE9 => k_is)
    (case lE9 => k_is)
    (case tE9 => k_is)
    (case cdE9 => k_is)
    (case lcE9 => k_is)
    (case v2E9 => first | rfl | decide +kernel)
    (case fiE9 => first | rfl | decide +kernel)
    (case llE9 => k_is)
    (case gE10 => k_is)
    (case xE10 => k_is)
    (case beE10 => k_is)
    (case tyE10 => k_is)
    (case kpE10 => k_is)
    (case gaE10 => k_is)
    (case ggE10 => k_is)
    (case hdE10 => k_is)
    (case caE10 => k_is)
    (case saE10 => k_is)
    (case suE10 => first | ks_is | k_is | kernel_rfl)
    (case veE10 => k_is)
    (case nfE10 => k_is)
    (case iE10 => k_is)
    (case lE10 => k_is)
    (case tE10 => k_is)
    (case cdE10 => k_is)
    (case lcE10 => k_is)
    (case v2E10 => first | rfl | decide +kernel)
    (case fiE10 => first | rfl | decide +kernel)
    (case llE10 => k_is)
    (case gE11 => k_is)
    (case xE11 => k_is)
    (case beE11 => k_is)
    (case tyE11 => k_is)
    (case kpE11 => k_is)
    (case gaE11 => k_is)
    (case ggE11 => k_is)
    (case hdE11 => k_is)
    (case caE11 => k_is)
    (case saE11 => k_is)
    (case suE11 => first | ks_is | k_is | kernel_rfl)
    (case veE11 => k_is)
    (case nfE11 => k_is)
    (case iE11 => k_is)
    (case lE11 => k_is)
    (case tE11 => k_is)
    (case cdE11 => k_is)
    (case lcE11 => k_is)
    (case v2E11 => first | rfl | decide +kernel)
    (case fiE11 => first | rfl | decide +kernel)
    (case llE11 => k_is)
    (case gE12 => k_is)
    (case xE12 => k_is)
    (case beE12 => k_is)
    (case tyE12 => k_is)
    (case kpE12 => k_is)
    (case gaE12 => k_is)
    (case ggE12 => k_is)
    (case hdE12 => k_is)
    (case caE12 => k_is)
    (case saE12 => k_is)
    (case suE12 => first | ks_is | k_is | kernel_rfl)
    (case veE12 => k_is)
    (case nfE12 => k_is)
    (case iE12 => k_is)
    (case lE12 => k_is)
    (case tE12 => k_is)
    (case cdE12 => k_is)
    (case lcE12 => k_is)
    (case v2E12 => first | rfl | decide +kernel)
    (case fiE12 => first | rfl | decide +kernel)
    (case llE12 => k_is)
    (case gE13 => k_is)
    (case xE13 => k_is)
    (case beE13 => k_is)
    (case tyE13 => k_is)
    (case kpE13 => k_is)
    (case gaE13 => k_is)
    (case ggE13 => k_is)
    (case hdE13 => k_is)
    (case caE13 => k_is)
    (case saE13 => k_is)
    (case suE13 => first | ks_is | k_is | kernel_rfl)
    (case veE13 => k_is)
    (case nfE13 => k_is)
    (case iE13 => k_is)
    (case lE13 => k_is)
    (case tE13 => k_is)
    (case cdE13 => k_is)
    (case lcE13 => k_is)
    (case v2E13 => first | rfl | decide +kernel)
    (case fiE13 => first | rfl | decide +kernel)
    (case llE13 => k_is)
    (case gE14 => k_is)
    (case xE14 => k_is)
    (case beE14 => k_is)
    (case tyE14 => k_is)
    (case kpE14 => k_is)
    (case gaE14 => k_is)
    (case ggE14 => k_is)
    (case hdE14 => k_is)
    (case caE14 => k_is)
    (case saE14 => k_is)
    (case suE14 => first | ks_is | k_is | kernel_rfl)
    (case veE14 => k_is)
    (case nfE14 => k_is)
    (case iE14 => k_is)
    (case lE14 => k_is)
    (case tE14 => k_is)
    (case cdE14 => k_is)
    (case lcE14 => k_is)
    (case v2E14 => first | rfl | decide +kernel)
    (case fiE14 => first | rfl | decide +kernel)
    (case llE14 => k_is)
    (case gE15 => k_is)
    (case xE15 => k_is)
    (case beE15 => k_is)
    (case tyE15 => k_is)
    (case kpE15 => k_is)
    (case gaE15 => k_is)
    (case ggE15 => k_is)
    (case hdE15 => k_is)
    (case caE15 => k_is)
    (case saE15 => k_is)
    (case suE15 => first | ks_is | k_is | kernel_rfl)
    (case veE15 => k_is)
    (case nfE15 => k_is)
    (case iE15 => k_is)
    (case lE15 => k_is)
    (case tE15 => k_is)
    (case cdE15 => k_is)
    (case lcE15 => k_is)
    (case v2E15 => first | rfl | decide +kernel)
    (case fiE15 => first | rfl | decide +kernel)
    (case llE15 => k_is)
    (case gE16 => k_is)
    (case xE16 => k_is)
    (case beE16 => k_is)
    (case tyE16 => k_is)
    (case kpE16 => k_is)
    (case gaE16 => k_is)
    (case ggE16 => k_is)
    (case hdE16 => k_is)
    (case caE16 => k_is)
    (case saE16 => k_is)
    (case suE16 => first | ks_is | k_is | kernel_rfl)
    (case veE16 => k_is)
    (case nfE16 => k_is)
    (case iE16 => k_is)
    (case lE16 => k_is)
    (case tE16 => k_is)
    (case cdE16 => k_is)
    (case lcE16 => k_is)
    (case v2E16 => first | rfl | decide +kernel)
    (case fiE16 => first | rfl | decide +kernel)
    (case llE16 => k_is)
    (case gE17 => k_is)
    (case xE17 => k_is)
    (case beE17 => k_is)
    (case tyE17 => k_is)
    (case kpE17 => k_is)
    (case gaE17 => k_is)
    (case ggE17 => k_is)
    (case hdE17 => k_is)
    (case caE17 => k_is)
    (case saE17 => k_is)
    (case suE17 => first | ks_is | k_is | kernel_rfl)
    (case veE17 => k_is)
    (case nfE17 => k_is)
    (case iE17 => k_is)
    (case lE17 => k_is)
    (case tE17 => k_is)
    (case cdE17 => k_is)
    (case lcE17 => k_is)
    (case v2E17 => first | rfl | decide +kernel)
    (case fiE17 => first | rfl | decide +kernel)
    (case llE17 => k_is)
    (case gE18 => k_is)
    (case xE18 => k_is)
    (case beE18 => k_is)
    (case tyE18 => k_is)
    (case kpE18 => k_is)
    (case gaE18 => k_is)
    (case ggE18 => k_is)
    (case hdE18 => k_is)
    (case caE18 => k_is)
    (case saE18 => k_is)
    (case suE18 => first | ks_is | k_is | kernel_rfl)
    (case veE18 => k_is)
    (case nfE18 => k_is)
    (case iE18 => k_is)
    (case lE18 => k_is)
    (case tE18 => k_is)
    (case cdE18 => k_is)
    (case lcE18 => k_is)
    (case v2E18 => first | rfl | decide +kernel)
    (case fiE18 => first | rfl | decide +kernel)
    (case llE18 => k_is)
    (case gE19 => k_is)
    (case xE19 => k_is)
    (case beE19 => k_is)
    (case tyE19 => k_is)
    (case kpE19 => k_is)
    (case gaE19 => k_is)
    (case ggE19 => k_is)
    (case hdE19 => k_is)
    (case caE19 => k_is)
    (case saE19 => k_is)
    (case suE19 => first | ks_is | k_is | kernel_rfl)
    (case veE19 => k_is)
    (case nfE19 => k_is)
    (case iE19 => k_is)
    (case lE19 => k_is)
    (case tE19 => k_is)
    (case cdE19 => k_is)
    (case lcE19 => k_is)
    (case v2E19 => first | rfl | decide +kernel)
    (case fiE19 => first | rfl | decide +kernel)
    (case llE19 => k_is)
    (case gE20 => k_is)
    (case xE20 => k_is)
    (case beE20 => k_is)
    (case tyE20 => k_is)
    (case kpE20 => k_is)
    (case gaE20 => k_is)
    (case ggE20 => k_is)
    (case hdE20 => k_is)
    (case caE20 => k_is)
    (case saE20 => k_is)
    (case suE20 => first | ks_is | k_is | kernel_rfl)
    (case veE20 => k_is)
    (case nfE20 => k_is)
    (case iE20 => k_is)
    (case lE20 => k_is)
    (case tE20 => k_is)
    (case cdE20 => k_is)
    (case lcE20 => k_is)
    (case v2E20 => first | rfl | decide +kernel)
    (case fiE20 => first | rfl | decide +kernel)
    (case llE20 => k_is)
    (case gE21 => k_is)
    (case xE21 => k_is)
    (case beE21 => k_is)
    (case tyE21 => k_is)
    (case kpE21 => k_is)
    (case gaE21 => k_is)
    (case ggE21 => k_is)
    (case hdE21 => k_is)
    (case caE21 => k_is)
    (case saE21 => k_is)
    (case suE21 => first | ks_is | k_is | kernel_rfl)
    (case veE21 => k_is)
    (case nfE21 => k_is)
    (case iE21 => k_is)
    (case lE21 => k_is)
    (case tE21 => k_is)
    (case cdE21 => k_is)
    (case lcE21 => k_is)
    (case v2E21 => first | rfl | decide +kernel)
    (case fiE21 => first | rfl | decide +kernel)
    (case llE21 => k_is)
    (case gE22 => k_is)
    (case xE22 => k_is)
    (case beE22 => k_is)
    (case tyE22 => k_is)
    (case kpE22 => k_is)
    (case gaE22 => k_is)
    (case ggE22 => k_is)
    (case hdE22 => k_is)
    (case caE22 => k_is)
    (case saE22 => k_is)
    (case suE22 => first | ks_is | k_is | kernel_rfl)
    (case veE22 => k_is)
    (case nfE22 => k_is)
    (case iE22 => k_is)
    (case lE22 => k_is)
    (case tE22 => k_is)
    (case cdE22 => k_is)
    (case lcE22 => k_is)
    (case v2E22 => first | rfl | decide +kernel)
    (case fiE22 => first | rfl | decide +kernel)
    (case llE22 => k_is)
    (case gE23 => k_is)
    (case xE23 => k_is)
    (case beE23 => k_is)
    (case tyE23 => k_is)
    (case kpE23 => k_is)
    (case gaE23 => k_is)
    (case ggE23 => k_is)
    (case hdE23 => k_is)
    (case caE23 => k_is)
    (case exE23 => k_exc)
    (case gE24 => k_is)
    (case xE24 => k_is)
    (case beE24 => k_is)
    (case tyE24 => k_is)
    (case kpE24 => k_is)
    (case gaE24 => k_is)
    (case ggE24 => k_is)
    (case hdE24 => k_is)
    (case caE24 => k_is)
    (case exE24 => k_exc)
    (case gE25 => k_is)
    (case xE25 => k_is)
    (case beE25 => k_is)
    (case tyE25 => k_is)
    (case kpE25 => k_is)
    (case gaE25 => k_is)
    (case ggE25 => k_is)
    (case hdE25 => k_is)
    (case caE25 => k_is)
    (case exE25 => k_exc)
    (case gE26 => k_is)
    (case xE26 => k_is)
    (case beE26 => k_is)
    (case tyE26 => k_is)
    (case kpE26 => k_is)
    (case gaE26 => k_is)
    (case ggE26 => k_is)
    (case hdE26 => k_is)
    (case caE26 => k_is)
    (case exE26 => k_exc)
    (case nd => decide +kernel)
