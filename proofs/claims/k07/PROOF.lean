import PyProof.Rows.All
import Wide.All
import OpenK.AllK
import Wide.FinOn
import HandS.ForMost
import HandS.EndBits
import HandS.MakeKwOnly
import HandS.Property
import HandS.IsInst
import HandS.TupMul
import PyProof.ReprRoads
import HandS.Walk
import HandS.ExcInit
import HandS.ExcOwn
import HandS.TryMany
import HandS.ExcField
import HandS.Nested
import KE.KExcSuper
import HandS.Style
import HandS.Defaults
import HandS.List
import HandS.WordsExc
import HandS.DictComp
import HandS.Small
import PySem.Challenge.RW_mostcalls_k07_parts_refused
set_option Elab.async false
set_option maxRecDepth 100000
set_option linter.all false
set_option maxHeartbeats 4000000
namespace Mc
open PySem PySem.Spec PyProof.Rows L2

/-! ### repr of data -/
def rRepr (K : PySem.W.Frag) : List V → Hp → VK → Prop := fun xs H Q =>
  ∃ (a : Addr) (d : PyData), xs = [.ref a] ∧ Dp K H (.ref a) d ∧ d.showable = true ∧ d.hasDict = false ∧ d.depth ≤ 40 ∧ d.shown.length ≤ sizeLine ∧ Q (.str d.shown) H

theorem call_repr {X : Cx} (hg : X.A.guards = some []) (hu : X.A.units + 64 < cLine) : CallR X (.builtin "repr") (rRepr X.K) := by
  intro pins s σ H xs us Q I r h
  obtain ⟨a, d, rfl, hd, hs, hx, hdp, hz, q⟩ := h
  cases r with
  | cons ru rn =>
    cases rn
    cases ru
    obtain ⟨as, R⟩ := Dp.reads I d _ _ hd rfl
    exact repr_of_reads' R hs (fun e => by rw [hx] at e; cases e) hg (by omega) (fun b o e => e)
      (fun h' u tk hk => ⟨.str d.shown, H, I.kept hk, ⟨u, rfl⟩, q⟩) hz

/-! ### a def that is run where no repr is under way -/
structure FnG (P : Program) (w : World) (K : PySem.W.Frag) (mg : Str → Option Value) (base : Heap) (CX : CXT) (k : Nat) (f : Addr) (fd : FuncData) (ps : List Str) (sp : Sp) : Prop where
  len : ∀ vs H Q E, sp vs H Q E → vs.length = ps.length
  run : ∀ (A : Around) (outer : List Env) (s : Shared) (H : Hp) (args : Args) (us : List Value) (vs : List V) (Q : VK) (E : XK),
    A.guards = some [] → Room k A → Env0 P w K mg base A outer s H → BindsTo s fd args (ps.zip us) → Vals vs us → sp vs H Q E →
    codeAny (model P w) A (.call (.ref f) args) (CR CX outer P w H s Q E) s

theorem fnG_of {CX : CXT} {P : Program} {w : World} {K : PySem.W.Frag} {mg : Str → Option Value} {base : Heap} {k : Nat} {f : Addr} {x qual : Str} {st : Stmt} {fd : FuncData}
    {N ps : List Str} {sp : Sp} (F : Fun K x qual st f fd) (S : FnScope N ps (defScope st)) (len : ∀ vs H Q E, sp vs H Q E → vs.length = ps.length)
    (hbody : ∀ (cdv : Value) (A : Around) (outer : List Env) (s : Shared) (H : Hp) (vs : List V) (Q : VK) (E : XK), A.guards = some [] →
      Room k (A.deeper (envOfC qual (defScope st) s.heap.objs.size f cdv)) → sp vs H Q E →
      ∃ t, PSs (cxOf CX P w K mg base N qual (defScope st) f cdv A outer s H E).nox (defBody st) t ∧ t { nx := fun _ H' => Q .non H', rt := Q } (start N vs) H) :
    FnG P w K mg base CX (k + 1) f fd ps sp := by
  obtain ⟨oc, od, kV, doc, pm, an, cdv, ct, osl, rfl, lk, hcd⟩ := F.ex
  constructor
  · exact len
  intro A outer s H args us vs Q E hg room env bind rel want
  have inh : K.In s.heap := env.mod.kin.keeps fun b o e => (env.bs b o e).1
  have nol : s.heap.NoLimit := env.mod.nolimit.keeps fun b o e => (env.bs b o e).1
  have kinds : ∀ y ∈ ps.zip us, (defScope st).names.lookup y.1 = some .local ∨
      ((defScope st).names.lookup y.1 = some .cell ∧ ((cellsFrom (s.heap.objs.size + 1) (defScope st).names []).lookup y.1).isSome = true) := by
    rintro ⟨n, v⟩ hy
    have hn := (List.of_mem_zip hy).1
    rcases S.par n hn with q | q
    · exact Or.inl q
    · exact Or.inr ⟨q, PySem.W.cellsFrom_some _ _ _ (Or.inl q)⟩
  have go := hbody cdv A outer s H vs Q E hg (room.deeper _) want
  obtain ⟨t, ht0, hq⟩ := go
  have ht := ht0.nox
  refine codeAny_call_function room.depth (inh _ _ lk) rfl S.co S.gen rfl (PySem.W.codeRec_of inh hcd) (bind _ _ _ _ ?_)
  refine wpAny_newFunctionEnv_cells S.kind kinds fun en hen s1 inc => ?_
  subst hen
  refine ⟨nol.keeps inc.toInCall.keep, codeAny_func ?_⟩
  have J := inv_start (CX := CX) (E := E) S room.hd env (len _ _ _ _ want) rel inc
  have R := ht.run [] s1 (start N vs) H _ J hq
  refine wpAny_mono R ?_ (fun _ _ z => z)
  intro fl s' z
  cases fl with
  | next => obtain ⟨σ', H', J', q⟩ := z; exact ⟨V.non, H', J'.os, J'.bare, J'.base, J'.hok, rfl, q⟩
  | ret u => obtain ⟨v, σ', H', J', rv, q⟩ := z; exact ⟨v, H', J'.os, J'.bare, J'.base, J'.hok, rv, q⟩
  | brk => obtain ⟨_, _, _, q⟩ := z; exact False.elim q
  | cont => obtain ⟨_, _, _, q⟩ := z; exact False.elim q

/-! ### the law, run by the claim's caller -/
theorem law_run {P : Program} {w : World} {K : PySem.W.Frag} {mg mb : Str → Option Value} {k : Nat} {fa a : Addr} {fd : FuncData} {x : Str} {sp : Sp} {s1 : Shared} {vs : List Value} {ns : List Int}
    (inK : K.In s1.heap) (gl : s1.heap.Ns mainGlobals mg) (bl : s1.heap.Ns builtinsNs mb) (bb : ∀ y : Str, y ≠ "__name__" → mb y = bootBuiltins y) (nl : s1.heap.NoLimit) (ge : s1.gens = #[])
    (obj : s1.heap.get? a = some { cls := .type "list", data := .seq vs.toArray }) (hIn : IntsAre vs ns) (len : ns.length ≤ sizeLine) (room : Room k callerA)
    (F : ∀ base : Heap, K.In base → base.Ns mainGlobals mg → FnG P w K mg base CX0 k fa fd [x] sp) (bnd : ∀ (s : Shared) (u : Value), BindsTo s fd ⟨[u], []⟩ [(x, u)])
    (pr : ∀ H : Hp, Only H → SqL K H a (ns.map V.int) → sp [.ref a] H (fun v _ => v = .bl true) E0) :
    codeAny (model P w) callerA (.call (.ref fa) ⟨[.ref a], []⟩) (fun r s' => r = .ok (.ret (.bool true)) ∧ OldK s1.heap s'.heap ∧ s'.os = s1.os ∧ AllBare s'.gens) s1 := by
  have rel := vals_ints hIn
  have lv := hIn.length
  have main : ∀ H : Hp, Only H → SqL K H a (ns.map V.int) → HOk P w H s1.heap → (∀ b, H b ≠ none → b = a) → (H a ≠ none → K.lookup a = none) →
      codeAny (model P w) callerA (.call (.ref fa) ⟨[.ref a], []⟩) (fun r s' => r = .ok (.ret (.bool true)) ∧ OldK s1.heap s'.heap ∧ s'.os = s1.os ∧ AllBare s'.gens) s1 := by
    intro H onl sq hok onlyA freeK
    have noD : ∀ {b : Addr} {o : Obj} {es : Array DictEntry} {n : Nat}, s1.heap.get? b = some o → o.data = .dict es n → H b = none := by
      intro b o es n e d
      rcases hq : H b with _ | u
      · rfl
      · have eb : b = a := onlyA b (by rw [hq]; intro z; cases z)
        rw [eb, obj] at e
        cases e
        exact Data.noConfusion d
    have keepNs : ∀ {b : Addr} {m : Str → Option Value}, s1.heap.Ns b m → (hidT s1.heap H).Ns b m := by
      rintro b m ⟨o, es, n, e, d, r⟩
      exact ⟨o, es, n, hidT_get e (noD e d), d, r⟩
    have inB : K.In (hidT s1.heap H) := by
      intro b o e
      refine hidT_get (inK b o e) ?_
      rcases hq : H b with _ | u
      · rfl
      · have nn : H b ≠ none := by rw [hq]; intro z; cases z
        have eb := onlyA b nn
        rw [eb] at nn e
        rw [freeK nn] at e
        cases e
    obtain ⟨mc, c1, c2⟩ := nl
    have md : Mod K mg (hidT s1.heap H) := ⟨inB, keepNs gl, ⟨mb, keepNs bl, bb⟩, ⟨mc, keepNs c1, c2⟩⟩
    have env : Env0 P w K mg (hidT s1.heap H) callerA [] s1 H :=
      ⟨rfl, md, fun b o e => of_hidT e, Nat.le_of_eq (hidT_size _ _), trivial, (fun b hb => (List.not_mem_nil (show b ∈ ([] : List Addr) from hb)).elim), hok, AllBare.of_eq ge⟩
    have R := (F _ inB (keepNs gl)).run callerA [] s1 H ⟨[.ref a], []⟩ [.ref a] [.ref a] (fun v _ => v = .bl true) E0 rfl room env (bnd s1 (.ref a)) (.cons rfl .nil) (pr H onl sq)
    refine codeAny_mono R ?_
    intro r s' z
    match r, z with
    | .ok (.ret u), z =>
      obtain ⟨v, H', eo, br, un, hok', rv, ev⟩ := z
      subst ev
      cases rv
      refine ⟨rfl, OldK.of_keep ?_, eo, br⟩
      intro b o e
      rcases hq : H b with _ | u
      · exact un.keep b o e hq (fun z => (List.not_mem_nil (show b ∈ ([] : List Addr) from z)).elim) (fun z => (List.not_mem_nil z).elim)
      · rcases onl b with q | ⟨ob, xs, q⟩
        · rw [hq] at q
          cases q
        · have f1 := (hok b _ q).1
          have f2 := (hok' b _ (un.frzs b ob _ q)).1
          rw [e] at f1
          cases f1
          exact f2
  rcases hk : K.lookup a with _ | o
  · let H : Hp := fun b => if b = a then some (.frz { cls := .type "list", data := .seq vs.toArray } (.lst (ns.map V.int))) else none
    have at_a : H a = some (.frz { cls := .type "list", data := .seq vs.toArray } (.lst (ns.map V.int))) := if_pos rfl
    have off : ∀ b, b ≠ a → H b = none := fun b hb => if_neg hb
    refine main H (fun b => ?_) (.inl (.inr ⟨_, at_a⟩)) (fun b u z => ?_) (fun b z => ?_) (fun _ => hk)
    · by_cases hb : b = a
      · subst hb
        exact Or.inr ⟨_, _, at_a⟩
      · exact Or.inl (off b hb)
    · by_cases hb : b = a
      · subst hb
        rw [at_a] at z
        cases z
        exact ⟨obj, by rw [List.length_map]; exact len, vs, _, rel, obj⟩
      · rw [off b hb] at z
        cases z
    · by_cases hb : b = a
      · exact hb
      · exact absurd (off b hb) z
  · have e := inK a o hk
    rw [obj] at e
    cases e
    refine main (fun _ => none) (fun _ => Or.inl rfl) (Or.inr ⟨_, vs.toArray, _, hk, rfl, rfl, rfl, ?_, by simpa using rel⟩) (fun b u z => nomatch z) (fun b z => absurd rfl z) (fun z => absurd rfl z)
    rw [List.size_toArray, lv]
    exact len

theorem walk_run {l : PySem.W.OpenLaw} {n k : Nat} {q : Program} {loose : List Str} {XP : (Str → Option Value) → Heap → Prop} {YP : World → Heap → Prop} {d : DefRec} {K : Params → PySem.W.Frag} {sp : PySem.W.Frag → Sp} {x : Str}
    (hn : l.most = some n) (hn2 : n ≤ sizeLine) (hdf : d.params.defaults = []) (room : Room k callerA) (hY : ∀ (w : World) (h : Heap), YP w h → (K w.params).In h)
    (F : ∀ (w : World) (mg : Str → Option Value) (fa : Addr) (h : Heap), (K w.params).In h → h.Ns mainGlobals mg → mg d.name = some (.ref fa) →
      ∃ fd : FuncData, (∀ (s : Shared) (u : Value), BindsTo s fd ⟨[u], []⟩ [(x, u)]) ∧
        ∀ base : Heap, (K w.params).In base → base.Ns mainGlobals mg → FnG l.prog w (K w.params) mg base CX0 k fa fd [x] (sp (K w.params)))
    (pr : ∀ (K : PySem.W.Frag) (H : Hp) (a : Addr) (ns : List Int), ns.length ≤ n → (∀ z ∈ ns, Builtin.Int.intBits z ≤ 1048576) → SqL K H a (ns.map V.int) → sp K [.ref a] H (fun v _ => v = .bl true) E0) :
    PySem.W.WalkO q loose XP YP l.row.toRowW d [] (fun f vs => PySem.call f vs) := by
  refine Att.attach_callB hn hdf ?_
  intro w s0 s1 mg mb fa o pm cd doc a vs ns G Y ho hd hcd hmg hobj hints hlen hbits hg
  obtain ⟨fd, hb, hF⟩ := F w mg fa _ (hY w _ Y) G.T.g hmg
  exact law_run (hY w _ Y) G.T.g G.T.b G.T.builtins G.T.nolimit hg hobj hints (Nat.le_trans hlen hn2) room hF hb (fun H _ hS => pr _ H a ns hlen hbits hS)
end Mc

namespace Mc
open PySem PySem.Spec PyProof.Rows L2

/-! ### == and != of an instance with the text's own `__eq__` -/
/-- the other side's type -/
inductive RT (H : Hp) : V → Value → Prop where
  | non : RT H .non (.type "NoneType")
  | int (i : Int) : RT H (.int i) (.type "int")
  | bl (b : Bool) : RT H (.bl b) (.type "bool")
  | str (z : Str) : RT H (.str z) (.type "str")
  | lst {a : Addr} {xs : List V} (e : H a = some (.lst xs)) : RT H (.ref a) (.type "list")
  | dK {a : Addr} {xs : List (Key × V)} (e : H a = some (.dK xs)) : RT H (.ref a) (.type "dict")
  | ins {a C dx : Addr} {fs : List (Str × V)} (e : H a = some (.ins C dx fs)) : RT H (.ref a) (.ref C)

theorem typ_at {M : Model} {h : Heap} {y : Addr} {o : Obj} {c : Value} (ho : h.get? y = some o) (hc : o.cls = c) : PySem.W.Looks M h (typeOf (.ref y)) c :=
  hc ▸ (PySem.W.Looks.ld ho).andThen .now

theorem RT.looks {X : Cx} {pins : List (Addr × Obj)} {σ : L2.St} {H : Hp} {s : Shared} {M : Model} {y : V} {u t : Value} (I : Inv X pins σ H s) (r : RT H y t) (ru : RelV y u) : PySem.W.Looks M s.heap (typeOf u) t := by
  cases r with
  | non => cases (show u = Value.none from ru); exact PySem.W.Looks.of_pure rfl
  | int i => obtain ⟨k, q⟩ := (show ∃ k, u = Value.int i k from ru); cases q; exact PySem.W.Looks.of_pure rfl
  | bl b => cases (show u = Value.bool b from ru); exact PySem.W.Looks.of_pure rfl
  | str z => obtain ⟨k, q⟩ := (show ∃ k, u = Value.str z k from ru); cases q; exact PySem.W.Looks.of_pure rfl
  | @lst a xs e =>
    cases (show u = Value.ref a from ru)
    obtain ⟨_, _, n, _, h1⟩ := (show ObjOk X.prog X.w H s.heap a (.lst xs) from I.hok a _ e)
    exact typ_at h1 rfl
  | @dK a xs e =>
    cases (show u = Value.ref a from ru)
    obtain ⟨_, _, vs, _, o, es, ep, h1, h2, _⟩ := (show ObjOk X.prog X.w H s.heap a (.dK xs) from I.hok a _ e)
    exact typ_at h1 h2.1
  | @ins a C dx fs e =>
    cases (show u = Value.ref a from ru)
    obtain ⟨mA, J, _⟩ := ins_get I.hok e
    obtain ⟨od, J, _⟩ := J.look
    exact J.type

theorem nf_ins {K : PySem.W.Frag} {C : Addr} : PySem.W.notFirst K C (.ref C) = true := by simp [PySem.W.notFirst]
theorem nf_ty {K : PySem.W.Frag} {C : Addr} {n : String} {l : List Value} (e : fastBuiltinMro n = some l) (hl : l.contains (.ref C) = false) : PySem.W.notFirst K C (.type n) = true := by
  have q : PySem.W.subIn K (.type n) (.ref C) = some false := by
    show (fastBuiltinMro n).map (·.contains (.ref C)) = some false
    rw [e, Option.map_some, hl]
  simp [PySem.W.notFirst, q]
theorem nf_none {K : PySem.W.Frag} {C : Addr} : PySem.W.notFirst K C (.type "NoneType") = true := nf_ty (l := [.type "NoneType", .type "object"]) (by decide +kernel) (by simp)
theorem nf_int {K : PySem.W.Frag} {C : Addr} : PySem.W.notFirst K C (.type "int") = true := nf_ty (l := [.type "int", .type "object"]) (by decide +kernel) (by simp)
theorem nf_list {K : PySem.W.Frag} {C : Addr} : PySem.W.notFirst K C (.type "list") = true := nf_ty (l := [.type "list", .type "object"]) (by decide +kernel) (by simp)

section
variable {prog : Program} {w : World} {A : Around} {E : Value → Shared → Prop} {s : Shared} {K : PySem.W.Frag} {x C L f : Addr} {h0 : Heap} {m : Str → Option Value} {ox : Obj} {od : Option Obj} {b tb : Value}
open PySem.W
theorem bound_ne {M : Model} {args : List Value} {Q : Option Value → Shared → Prop} (X : K.In s.heap) (I : InstAt s.heap x ox C od) (hs : findIn K (.ref C) "__ne__" = some (some (.builtin "object.__ne__")))
    (h : wpAny M A (call (.builtin "object.__ne__") (.ref x :: args)) (fun v => Q (some v)) E s) : wpAny M A (callSpecialIfBound? (.ref x) "__ne__" args) Q E s := by
  have all : wpAny M A (call (.builtin "object.__ne__") ([.ref x] ++ args) >>= fun v => pure (some v)) Q E s :=
    wpAny_bind (wpAny_mono h (fun v s' q => wpAny_pure q) (fun _ _ q => q))
  simp only [callSpecialIfBound?, bindSpecialIfBound?]
  refine wpAny_holding (wpAny_bind (wpAny_bind (wpAny_bind (I.type.here ((looks_findIn X hs).here ?_)))))
  refine wpAny_bind (wpAny_askSetting (wpAny_ite ?_))
  split
  · exact wpAny_bind (wpAny_of_eq (F.cmp_object.ne.bind _) (wpAny_pure (by exact all)))
  · exact wpAny_tryCatch (wpAny_bind (wpAny_of_eq (F.cmp_object.ne.bind _) (wpAny_pure (by exact all))))

theorem ne_body (hu : A.units < cLine) (X : K.In s.heap) (I : InstAt s.heap x ox C od) (he : findIn K (.ref C) "__eq__" = some (some (.ref f))) (hf : isFn K (.ref f) = true) {Q : Fin → Shared → Prop}
    (h : wpAny (model prog w) A (call (.ref f) [.ref x, b]) (fun v s' => ∃ r, v = .bool r ∧ Q (.done (.ret (.bool (!r)))) s') E s) :
    wpAny (model prog w) A (Builtin.«object.__ne__» ⟨[.ref x, b], []⟩) Q E s := by
  unfold Builtin.«object.__ne__»
  repeat (first
    | with_reducible refine wpAny_cRoomFor hu ?_
    | (refine wpAny_bind (m := callSpecialIfBound? (.ref x) (Str.ofString "__eq__") [b]) (ifBound_K X I he hf (wpAny_mono h (fun v s' q => ?_) fun _ _ e => e)); obtain ⟨r, rfl, q⟩ := q)
    | exact q
    | exact wpAny_pure q
    | (refine wpAny_bind (m := truthy (.bool _)) (wpAny_truthy_bool ?_))
    | wp_step)

theorem ne_K (hu : A.units + 1 < cLine) (Fm : Fr h0 L s.heap m) (X0 : K.In h0) (I : InstAt s.heap x ox C od) (hb : Looks (model prog w) s.heap (typeOf b) tb) (hn : notFirst K C tb = true)
    (hs : findIn K (.ref C) "__ne__" = some (some (.builtin "object.__ne__"))) (he : findIn K (.ref C) "__eq__" = some (some (.ref f))) (hf : isFn K (.ref f) = true) (hm : mroIn K C (.type "object") = some true)
    {Q : Value → Shared → Prop} (h : wpAny (model prog w) A.in1 (call (.ref f) [.ref x, b]) (fun v s' => ∃ r, v = .bool r ∧ Q (.bool (!r)) s') E s) :
    wpAny (model prog w) A (richCompare .NotEq (.ref x) b) Q E s := by
  have X := X0.keeps Fm.keep
  have one : wpAny (model prog w) A (tryCompare (.ref x) (cmpInfo .NotEq).2.1 b) (fun r s' => ∃ v, r = some v ∧ Q v s') E s := by
    unfold tryCompare
    refine wpAny_bind (bound_ne X I hs (wpAny_call (codeAny_call_builtin F.cmp_object.ne.plain F.cmpEntry_ne (check_slot F.cmpKind_ne F.cmpSplit_ne (I.type.andThen (looks_mroIn X hm)) (F.cmpArgs_ne _ _) ?_))))
    refine ne_body (A := A.in1) (by show A.units + 1 < cLine; exact hu) X I he hf (wpAny_mono h (fun v s' q => ?_) fun _ _ e => e)
    obtain ⟨r, rfl, q⟩ := q
    first | exact ⟨r, rfl, wpAny_pure ⟨_, rfl, q⟩⟩ | exact ⟨r, rfl, ⟨_, rfl, q⟩⟩ | exact ⟨r, rfl, wpAny_pure (wpAny_pure ⟨_, rfl, q⟩)⟩
  unfold richCompare
  simp only [oneThing_ref]
  refine wpAny_holding (wpAny_bind (wpAny_cRoomFor (Nat.lt_of_succ_lt hu) ?_))
  refine wpAny_bind (I.type.here (wpAny_bind (hb.here ?_)))
  have fin : wpAny (model prog w) A (tryCompare (.ref x) (cmpInfo .NotEq).2.1 b) (fun r s' => ∃ v, r = some v ∧ Q v s') E s := one
  split
  · rename_i q
    have e : subIn K tb (.ref C) = some false := by
      rcases Bool.or_eq_true_iff.mp hn with e | e
      · rw [beq_iff_eq.mp e] at q
        simp at q
      · exact beq_iff_eq.mp e
    refine wpAny_bind ((looks_subIn X e).here ?_)
    simp only [Bool.false_eq_true, if_false]
    refine wpAny_bind (wpAny_mono one ?_ fun _ _ e => e)
    rintro r s' ⟨v, rfl, hq⟩
    exact wpAny_pure hq
  · refine wpAny_bind (wpAny_pure ?_)
    simp only [Bool.false_eq_true, if_false]
    refine wpAny_bind (wpAny_mono one ?_ fun _ _ e => e)
    rintro r s' ⟨v, rfl, hq⟩
    exact wpAny_pure hq
end

section
variable {X : Cx} {CX : CXT} {k : Nat} {C f : Addr} {fd : FuncData} {ps : List Str} {sp : Sp} {E : XK}
/-- the way a def is run from within, at another place that has the same frames -/
theorem run_in {A : Around} {pins : List (Addr × Obj)} {σ : L2.St} {H : Hp} {s : Shared} {Q : VK} {us : List Value} {vs : List V} (fr : A.frames = X.A.frames) (G : FnOk X.prog X.w X.K X.mg X.base CX k f fd ps sp) (hr : Room k A)
    (hb : Binds X.K fd ps []) (hx : Passes CX X E) (I : Inv X pins σ H s) (r : Vals vs us) (h : sp vs H Q E) : wpAny (model X.prog X.w) A (call (.ref f) us) (EP X pins σ Q) X.xe s := by
  have e0 : Env0 X.prog X.w X.K X.mg X.base A X.stack s H := by
    have e := I.env0
    exact ⟨fr.trans e.frames, e.mod, e.bs, e.bsz, e.funs, e.frf, e.hok, e.bare⟩
  have hl : (us ++ ([] : List Value)).length = ps.length := by
    rw [List.append_nil, ← r.length]
    exact G.len _ _ _ _ h
  have bd := hb s us I.kIn hl
  rw [List.append_nil] at bd
  refine wpAny_call (codeAny_mono (G.run A X.stack s H ⟨us, []⟩ us vs Q E hr e0 bd r h) ?_)
  intro z s' hz
  match z, hz with
  | .error e, hz => exact hx pins σ H s e s' I hz
  | .ok (.ret u), hz => exact I.after hz

def rCmpO (C : Addr) (sp : Sp) (E : XK) (K : PySem.W.Frag) (neg : Bool) : R2 := fun x y H Q => ∃ (a dx : Addr) (fs : List (Str × V)) (t : Value), x = .ref a ∧ H a = some (.ins C dx fs) ∧ RT H y t ∧ PySem.W.notFirst K C t = true ∧
  sp [x, y] H (fun v H' => ∃ b, v = .bl b ∧ Q (.bl (if neg then !b else b)) H') E

structure OwnCmp (K : PySem.W.Frag) (C f : Addr) : Prop where
  eq : PySem.W.findIn K (.ref C) "__eq__" = some (some (.ref f))
  fn : PySem.W.isFn K (.ref f) = true
  ne : PySem.W.findIn K (.ref C) "__ne__" = some (some (.builtin "object.__ne__"))
  ob : PySem.W.mroIn K C (.type "object") = some true

theorem op_eqO (G : FnOk X.prog X.w X.K X.mg X.base CX k f fd ps sp) (O : OwnCmp X.K C f) (hb : Binds X.K fd ps []) (hx : Passes CX X E) (hr : Room k X.A) : OpR X (compareOp .Eq) (rCmpO C sp E X.K false) := by
  intro pins s σ H x y u v Q I rx ry h
  obtain ⟨a, dx, fs, t, rfl, ha, rt, nf, q⟩ := h
  cases rx
  obtain ⟨mA, J, _⟩ := ins_get I.hok ha
  obtain ⟨od, J, _⟩ := J.look
  obtain ⟨m, hF⟩ := I.fr
  show wpAny (model X.prog X.w) X.A (richCompare .Eq (.ref a) v) (EP X pins σ Q) X.xe s
  refine PySem.W.cmp_K (op := .Eq) (tb := t) hr.units0 hF I.ok.mod.kin J (rt.looks I ry) nf O.eq O.fn ?_
  refine thn (run_in rfl G hr hb hx I (.cons (show RelV (.ref a) (.ref a) from rfl) (.cons ry .nil)) q) ?_
  rintro w s' ⟨z, H', I', rz, b, rfl, q'⟩
  cases rz
  exact ⟨.bl b, H', I', rfl, q'⟩

theorem op_neO (G : FnOk X.prog X.w X.K X.mg X.base CX k f fd ps sp) (O : OwnCmp X.K C f) (hb : Binds X.K fd ps []) (hx : Passes CX X E) (hr : Room (k + 1) X.A) : OpR X (compareOp .NotEq) (rCmpO C sp E X.K true) := by
  intro pins s σ H x y u v Q I rx ry h
  obtain ⟨a, dx, fs, t, rfl, ha, rt, nf, q⟩ := h
  cases rx
  obtain ⟨mA, J, _⟩ := ins_get I.hok ha
  obtain ⟨od, J, _⟩ := J.look
  obtain ⟨m, hF⟩ := I.fr
  show wpAny (model X.prog X.w) X.A (richCompare .NotEq (.ref a) v) (EP X pins σ Q) X.xe s
  refine ne_K (tb := t) (by have := hr.units; omega) hF I.ok.mod.kin J (rt.looks I ry) nf O.ne O.eq O.fn O.ob ?_
  refine thn (run_in (A := X.A.in1) rfl G hr.in1 hb hx I (.cons (show RelV (.ref a) (.ref a) from rfl) (.cons ry .nil)) q) ?_
  rintro w s' ⟨z, H', I', rz, b, rfl, q'⟩
  cases rz
  exact ⟨b, rfl, .bl (!b), H', I', rfl, q'⟩
end
end Mc

namespace Mc
open PySem PySem.Spec PyProof.Rows L2
open AutoSeq1 (wpAny_loadPart')

/-! ### a tuple times nought or one -/
theorem mul_nought (l : Addr) (y : Value) (n : Nat) (dd : Option Addr) (sl : Array (Option Value)) (u : Tok) :
    Meets (Builtin.«tuple.__mul__» ⟨[.ref l, .int 0 u], []⟩) (fun _ R s => s.heap.get? l = some { cls := .type "tuple", dict := dd, data := .seq #[y] n, slots := sl } ∧
      R (.ok (.ret (Value.ref s.heap.objs.size))) { s with heap := s.heap.push { cls := Value.type "tuple", data := Data.seq #[] }, toks := s.toks }) := by
  refine .of_wp ?_
  rintro prog w A R ⟨hp, g, d, tk, os⟩ ⟨hl, h⟩
  have f1 := AutoSeq1.idx_int
  wp_walk using wpAny_loadPart' hl
  exact ⟨_, rfl, h⟩
theorem mul_single (l : Addr) (y : Value) (n : Nat) (dd : Option Addr) (sl : Array (Option Value)) (u : Tok) :
    Meets (Builtin.«tuple.__mul__» ⟨[.ref l, .int 1 u], []⟩) (fun _ R s => s.heap.get? l = some { cls := .type "tuple", dict := dd, data := .seq #[y] n, slots := sl } ∧
      R (.ok (.ret (Value.ref l))) s) := by
  refine .of_wp ?_
  rintro prog w A R ⟨hp, g, d, tk, os⟩ ⟨hl, h⟩
  have f1 := AutoSeq1.idx_int
  wp_walk using wpAny_loadPart' hl
  exact ⟨_, rfl, h⟩

/-- (v,) * k, k of 0, 1, 2 -/
def rRepS (K : PySem.W.Frag) : R2 := fun x y H Q => ∃ (l : Addr) (k : Int) (v : V), x = .ref l ∧ y = .int k ∧ SqT K H l [v] ∧ 0 ≤ k ∧ k ≤ 1000 ∧
  (k = 1 → Q (.ref l) H) ∧ (k ≠ 1 → ∀ p, H p = none → Q (.ref p) (upd H p (.tup (List.replicate k.toNat v))))

theorem op_repS {X : Cx} : OpR X (binaryOp .Mult) (rRepS X.K) := by
  intro pins s σ H x y v u Q I rx ry h
  obtain ⟨l, k, z, rfl, rfl, hT, k0, k1, q1, q2⟩ := h
  by_cases hk : 2 ≤ k
  · refine op_repT pins s σ H (.ref l) (.int k) v u Q I rx ry ⟨l, k, [z], rfl, rfl, hT, by simp, hk, k1, (by show 1 ≤ 1000; decide), fun p hp => ?_⟩
    have e : (List.replicate k.toNat [z]).flatten = List.replicate k.toNat z := by
      generalize k.toNat = n
      induction n with
      | zero => rfl
      | succ n ih => rw [List.replicate_succ, List.flatten_cons, ih, List.replicate_succ]; rfl
    rw [e]
    exact q2 (by omega) p hp
  · cases rx
    obtain ⟨t, rfl⟩ := ry
    obtain ⟨its, r, ⟨⟨cls, dd, data, sl⟩, ho, hc, n, hd⟩, hs⟩ := I.tuple hT
    simp only at hc hd
    subst hc hd
    match its, r with
    | [y], .cons ry .nil =>
      have hk' : k = 0 ∨ k = 1 := by omega
      rcases hk' with rfl | rfl
      · refine wpAny_binaryOp_repeat_ref (T := "tuple") (U := "int") (by decide) ⟨_, ho, rfl⟩ (fun s' => typeIs_int s' 0 t) noFill_tuple_mul F.fills_int_mul F.slot_int_rmul repeat_tuple F.slot_int_index.lookup
          (call_meets F.slot_int_rmul (typeIs_int s 0 t) F.entry_int_rmul (F.args_int_rmul_2 _ _) (int_rmul_tuple 0 t l #[y] n dd sl)
            ⟨ho, rfl, ⟨_, ho, rfl⟩, call_meets F.slot_tuple_mul ⟨_, ho, rfl⟩ F.entry_tuple_mul (F.args_tuple_mul_2 _ _) (mul_nought l y n dd sl t) ⟨ho, ?_⟩⟩)
        refine ⟨.ref s.heap.objs.size, _, I.laid (t' := s.toks) (o := .tup []) (fun b ob q => Heap.get?_push_of_some _ q) (Nat.le_refl _) ?_, rfl, q2 (by decide) _ (I.hok.fresh (Nat.le_refl _))⟩
        exact ⟨Nat.zero_le _, _, .nil, IsTup.new _ _⟩
      · refine wpAny_binaryOp_repeat_ref (T := "tuple") (U := "int") (by decide) ⟨_, ho, rfl⟩ (fun s' => typeIs_int s' 1 t) noFill_tuple_mul F.fills_int_mul F.slot_int_rmul repeat_tuple F.slot_int_index.lookup
          (call_meets F.slot_int_rmul (typeIs_int s 1 t) F.entry_int_rmul (F.args_int_rmul_2 _ _) (int_rmul_tuple 1 t l #[y] n dd sl)
            ⟨ho, rfl, ⟨_, ho, rfl⟩, call_meets F.slot_tuple_mul ⟨_, ho, rfl⟩ F.entry_tuple_mul (F.args_tuple_mul_2 _ _) (mul_single l y n dd sl t) ⟨ho, ?_⟩⟩)
        exact ⟨.ref l, H, I, rfl, q1 rfl⟩
end Mc

namespace Mc
open PySem PySem.Spec PyProof.Rows L2

/-- a new tuple, a new list -/
abbrev TupG (Q : VK) (xs : List V) (H1 : Hp) : Prop := xs.length ≤ sizeLine ∧ ∀ p, H1 p = none → Q (.ref p) (upd H1 p (.tup xs))
abbrev LstG (Q : VK) (xs : List V) (H1 : Hp) : Prop := xs.length ≤ sizeLine ∧ ∀ p, H1 p = none → Q (.ref p) (upd H1 p (.lst xs))
section
variable {σ : L2.St} {H : Hp} {Q : VK} {QB : Bool → Hp → Prop} {QA : List V → Hp → Prop} {QS : L2.St → Hp → Prop} {D : Ends} {ta tb te : TE} {tt tu : TT} {t u : TS} {tr tk : TA} {r : R2} {v x y : V} {i : Nat} {K : PySem.W.Frag}
theorem g_var (h : σ[i]? = some (some v)) (q : Q v H) : tVar i σ H Q := ⟨v, h, q⟩
theorem g_c (q : Q v H) : tC v σ H Q := q
theorem g_op (q : ta σ H fun x H1 => tb σ H1 fun y H2 => r x y H2 Q) : tOp r ta tb σ H Q := q
theorem g_un {r : V → Hp → VK → Prop} (q : ta σ H fun x H1 => r x H1 Q) : tUn r ta σ H Q := q
theorem g_test (q : te σ H fun x H' => ∃ k, x = .bl k ∧ QB k H') : tTest te σ H QB := q
theorem g_B (q : te σ H fun x H' => ∃ k, x = .bl k ∧ QB k H') : tB te σ H QB := q
theorem g_bl {b : Bool} (q : QB b H) : ∃ k, V.bl b = .bl k ∧ QB k H := ⟨b, rfl, q⟩
theorem g_blV {b : Bool} {P : Bool → Prop} (q : P b) : ∃ k, V.bl b = .bl k ∧ P k := ⟨b, rfl, q⟩
theorem g_ifS (q : tt σ H fun b H1 => if b = true then t D σ H1 else u D σ H1) : tIfS tt t u D σ H := q
theorem g_if (q : tt σ H fun c H1 => if c = true then ta σ H1 Q else tb σ H1 Q) : tIf tt ta tb σ H Q := q
theorem g_not (q : tt σ H fun c H1 => QB (!c) H1) : tNot tt σ H QB := q
theorem g_and (q : tt σ H fun c H1 => if c = true then tu σ H1 QB else QB false H1) : tAnd tt tu σ H QB := q
theorem g_or (q : tt σ H fun c H1 => if c = true then QB true H1 else tu σ H1 QB) : tOr tt tu σ H QB := q
theorem g_notV (q : ta σ H fun x H1 => ∃ c, x = .bl c ∧ Q (.bl (!c)) H1) : tNotV ta σ H Q := q
theorem g_andV (q : ta σ H fun x H1 => ∃ c, x = .bl c ∧ if c = true then tb σ H1 Q else Q (.bl false) H1) : tAndV ta tb σ H Q := q
theorem g_orV (q : ta σ H fun x H1 => ∃ c, x = .bl c ∧ if c = true then Q (.bl true) H1 else tb σ H1 Q) : tOrV ta tb σ H Q := q
theorem g_seq (q : t { D with nx := u D } σ H) : tSeq t u D σ H := q
theorem g_next (q : D.nx σ H) : tNext D σ H := q
theorem g_asg {g : TG} (q : te σ H fun x H1 => g x σ H1 D.nx) : tAsg te g D σ H := q
theorem g_name (q : QS (σ.set i (some v)) H) : gName i v σ H QS := q
theorem g_drop (q : te σ H fun _ H1 => D.nx σ H1) : tDrop te D σ H := q
theorem g_ret (q : te σ H D.rt) : tRet te D σ H := q
theorem g_retN (q : D.rt .non H) : tRetN D σ H := q
theorem g_brk (q : D.bk σ H) : tBreak D σ H := q
theorem g_cont (q : D.ct σ H) : tCont D σ H := q
theorem g_call {sp : Sp} {dvs : List V} {E : XK} (q : tr σ H fun vs H1 => sp (vs ++ dvs) H1 Q E) : tCall sp dvs E tr σ H Q := q
theorem g_cb {r : List V → Hp → VK → Prop} (q : tr σ H fun vs H1 => r vs H1 Q) : tCB r tr σ H Q := q
theorem g_nil (q : QA [] H) : tNil σ H QA := q
theorem g_cons (q : te σ H fun x H1 => tr σ H1 fun xs H2 => QA (x :: xs) H2) : tCons te tr σ H QA := q
theorem g_tup (q : tr σ H fun xs H1 => TupG Q xs H1) : tTup tr σ H Q := q
theorem g_lst (q : tr σ H fun xs H1 => LstG Q xs H1) : tLst tr σ H Q := q
theorem g_prop {C : Addr} {sp : Sp} {dvs : List V} {E : XK} (q : ta σ H fun x H1 => ∃ a dx fs, x = .ref a ∧ H1 a = some (.ins C dx fs) ∧ sp (.ref a :: dvs) H1 Q E) : tProp C sp dvs E ta σ H Q := q
theorem g_fld {f : Str} (q : ta σ H fun x H1 => ∃ a C dx fs v, x = .ref a ∧ H1 a = some (.ins C dx fs) ∧ Cls K C ∧ NoAttr K C f ∧ fs.lookup f = some v ∧ Q v H1) : tFld K ta f σ H Q := q
theorem g_meth {C : Addr} {m : Str} {sp : Sp} {dvs : List V} {E : XK} (q : ta σ H fun x H1 => ∃ a dx fs, x = .ref a ∧ H1 a = some (.ins C dx fs) ∧ fs.lookup m = none ∧
  tr σ H1 fun vs H2 => sp (x :: (vs ++ dvs)) H2 Q E) : tMeth C m sp dvs E ta tr σ H Q := q
theorem g_eq {x y : V} (h : scal x y = true) (q : Q (.bl (decide (x = y))) H) : rEq x y H Q := ⟨h, q⟩
theorem g_ne {x y : V} (h : scal x y = true) (q : Q (.bl (!decide (x = y))) H) : rNe x y H Q := ⟨h, q⟩
theorem g_I0 {g : Int → Int → V} {a b : Int} (q : Q (g a b) H) : rI0 g (.int a) (.int b) H Q := ⟨a, b, rfl, rfl, q⟩
theorem g_I {C : Int → Int → Prop} {g : Int → Int → V} {a b : Int} (h : C a b) (q : Q (g a b) H) : rI C g (.int a) (.int b) H Q := ⟨a, b, rfl, rfl, h, q⟩
theorem g_iteT {A B : Prop} (h : A) : if true = true then A else B := by rw [if_pos rfl]; exact h
theorem g_iteF {A B : Prop} (h : B) : if false = true then A else B := by rw [if_neg Bool.false_ne_true]; exact h
theorem g_add {a b : Int} (q : Q (.int (a + b)) H) : rAdd (.int a) (.int b) H Q := ⟨a, b, rfl, rfl, q⟩
theorem g_sub {a b : Int} (q : Q (.int (a - b)) H) : rSub (.int a) (.int b) H Q := ⟨a, b, rfl, rfl, q⟩
theorem g_lc {r : List V → Hp → VK → Prop} (q : tr σ H fun vs H1 => r vs H1 Q) : tCB r tr σ H Q := q
theorem g_bm {T : String} {r : V → List V → Hp → VK → Prop} (q : te σ H fun x H1 => tyV K T x H1 ∧ tr σ H1 fun xs H2 => r x xs H2 Q) : tBM K T r te tr σ H Q := q
theorem g_ixL {p : Addr} {xs : List V} {k : Int} (h : SqL K H p xs) (e : atI xs k = some v) (q : Q v H) : rIxL K (.ref p) (.int k) H Q := ⟨p, xs, k, v, rfl, rfl, h, e, q⟩
theorem g_ixT {p : Addr} {xs : List V} {k : Int} (h : SqT K H p xs) (e : atI xs k = some v) (q : Q v H) : rIxT K (.ref p) (.int k) H Q := ⟨p, xs, k, v, rfl, rfl, h, e, q⟩
end

/-- one step of a reading -/
local macro_rules | `(tactic| walk_at "rd1") => `(tactic| first
  | with_reducible refine g_seq ?_
  | with_reducible refine g_asg ?_
  | with_reducible refine g_name ?_
  | with_reducible refine g_c ?_
  | with_reducible refine g_op ?_
  | with_reducible refine g_ifS ?_
  | with_reducible refine g_if ?_
  | with_reducible refine g_test ?_
  | with_reducible refine g_B ?_
  | with_reducible refine g_bl ?_
  | with_reducible refine g_blV ?_
  | with_reducible refine g_not ?_
  | with_reducible refine g_and ?_
  | with_reducible refine g_or ?_
  | with_reducible refine g_notV ?_
  | with_reducible refine g_andV ?_
  | with_reducible refine g_orV ?_
  | with_reducible refine g_ret ?_
  | with_reducible refine g_drop ?_
  | with_reducible refine g_next ?_
  | with_reducible refine g_retN ?_
  | with_reducible refine g_call ?_
  | with_reducible refine g_cb ?_
  | with_reducible refine g_cons ?_
  | with_reducible refine g_nil ?_
  | with_reducible refine g_tup ?_
  | with_reducible refine g_lst ?_
  | with_reducible refine g_prop ?_
  | with_reducible refine g_fld ?_
  | with_reducible refine g_meth ?_
  | with_reducible refine g_un ?_
  | with_reducible refine g_bm ?_
  | with_reducible refine g_iteT ?_
  | with_reducible refine g_iteF ?_
  | with_reducible refine g_I0 ?_
  | with_reducible refine g_add ?_
  | with_reducible refine g_sub ?_
  | ((with_reducible refine' g_var ?hv ?_); (case hv => rfl))
  | ((with_reducible refine g_eq ?hv ?_); (case hv => rfl))
  | ((with_reducible refine g_ne ?hv ?_); (case hv => rfl)))
local macro_rules | `(tactic| walk_at "rd") => `(tactic| repeat (walk_at "rd1"))

example {X : Cx} {Q : VK} {H : Hp} (q : Q (.int 5) H) : (tSeq (tAsg (tOp rAdd (tC (.int 2)) (tC (.int 3))) (gName 0)) (tRet (tVar 0))) { nx := fun _ _ => False, rt := Q } [none] H := by
  walk_at "rd"
  exact q
end Mc

namespace Mc
open PySem PySem.Spec PyProof.Rows L2

/-! ### defs and their calls -/
structure Def (K : PySem.W.Frag) (mg : Str → Option Value) (x : Str) (st : Stmt) (ps : List Str) : Prop where
  ex : ∃ (f : Addr) (fd : FuncData), Fun K x x st f fd ∧ mg x = some (.ref f) ∧ Binds K fd ps []
structure Cal (P : Program) (w : World) (K : PySem.W.Frag) (mg : Str → Option Value) (base : Heap) (k : Nat) (x : Str) (sp : Sp) : Prop where
  ex : ∃ (f : Addr) (fd : FuncData) (ps : List Str), FnOk P w K mg base CX0 k f fd ps sp ∧ mg x = some (.ref f) ∧ PySem.W.keepIn K (.ref f) = true ∧ Binds K fd ps []
section
variable {P : Program} {w : World} {K : PySem.W.Frag} {mg : Str → Option Value} {base : Heap}
theorem cal_of {x : Str} {st : Stmt} {N ps : List Str} {k : Nat} {sp : Sp} (D : Def K mg x st ps) (S : FnScope N ps (defScope st)) (len : ∀ vs H Q E, sp vs H Q E → vs.length = ps.length)
    (hbody : ∀ (f : Addr) (cdv : Value) (A : Around) (outer : List Env) (s : Shared) (H : Hp) (vs : List V) (Q : VK) (E : XK), Room k (A.deeper (envOfC x (defScope st) s.heap.objs.size f cdv)) → sp vs H Q E →
      ∃ t, PSs (cxOf CX0 P w K mg base N x (defScope st) f cdv A outer s H E).nox (defBody st) t ∧ t { nx := fun _ H' => Q .non H', rt := Q } (start N vs) H) : Cal P w K mg base (k + 1) x sp := by
  obtain ⟨f, fd, F, hm, b⟩ := D.ex
  exact ⟨f, fd, ps, F.ok S len (hbody f), hm, F.kp, b⟩
end
section
variable {X : Cx} {k j : Nat} {x : Str} {sp : Sp} {p pos : Pos} {e : Expr} {es : List Expr} {t : TA}
theorem pe_f (c : Cal X.prog X.w X.K X.mg X.base k x sp) (hr : Room j X.A) (hk : k ≤ j) (hg : Gl X x) (ha : PA X (e :: es) t)
    (hdb : (x == ("__debug__" : Str)) = false := by decide) (he : starEach (e :: es) X.env = (false, eval e X.env) :: starEach es X.env := by rfl) (hpl : (backTo pos (starEach es X.env)).any (·.1) = false := by rfl) :
    PE X (.Call (.Name x p) (e :: es) [] pos) (tCall sp [] E0 t) := by
  obtain ⟨f, fd, ps, G, hm, kp, b⟩ := c.ex
  exact pe_call G (hr.mono hk) hg hm kp b .nil pass0 ha hdb he hpl
theorem pe_gx {v : V} (hg : Gl X x) (h : ∃ u, X.mg x = some u ∧ RelV v u) (hd : (x == ("__debug__" : Str)) = false := by decide) : PE X (.Name x pos) (tC v) :=
  h.elim fun u hu => pe_glob hg hu.1 hu.2 hd
theorem pe_ty (n : String) (hg : Gl X x) (hm : X.mg x = none) (hv : bootBuiltins x = some (.type n)) (hn : x ≠ "__name__" := by decide) (hd : (x == ("__debug__" : Str)) = false := by decide) : PE X (.Name x pos) (tC (.ty n)) :=
  pe_bltn (v := .ty n) (u := .type n) hg hm hv rfl hn hd
end

/-! ### kinds of values -/
inductive TyB (K : PySem.W.Frag) (H : Hp) : V → String → Prop where
  | non : Mc.TyB K H .non "NoneType"
  | bl (b : Bool) : Mc.TyB K H (.bl b) "bool"
  | int (i : Int) : Mc.TyB K H (.int i) "int"
  | str (z : Str) : Mc.TyB K H (.str z) "str"
  | lst {a : Addr} {xs : List V} (e : H a = some (.lst xs)) : Mc.TyB K H (.ref a) "list"
  | tup {a : Addr} {xs : List V} (e : H a = some (.tup xs)) : Mc.TyB K H (.ref a) "tuple"
  | dK {a : Addr} {xs : List (Key × V)} (e : H a = some (.dK xs)) : Mc.TyB K H (.ref a) "dict"
  | kTup {a : Addr} {o : Obj} (e : K.lookup a = some o) (c : o.cls = .type "tuple") : Mc.TyB K H (.ref a) "tuple"
theorem TyB.x {K : PySem.W.Frag} {H : Hp} {v : V} {n : String} (h : Mc.TyB K H v n) : TyX K H v (.type n) := by
  cases h with
  | non => exact .base .non
  | bl b => exact .base (.bl b)
  | int i => exact .base (.int i)
  | str z => exact .base (.str z)
  | lst e => exact .base (.lst e)
  | tup e => exact .base (.tup e)
  | dK e => exact .base (.dK e)
  | kTup e c => exact .kTuple e c
theorem g_isi {K : PySem.W.Frag} {H : Hp} {Q : VK} {v : V} {n m : String} {b : Bool} (h : Mc.TyB K H v n) (e : kitB n m = some b) (q : Q (.bl b) H) : rIsi K [v, .ty m] H Q :=
  ⟨v, .ty m, .type n, .type m, b, rfl, .ty m, h.x, kit_ty e, q⟩
theorem g_chain {σ : L2.St} {H : Hp} {Q : VK} {r r' : R2} {ta tb tc : TE} (q : ta σ H fun x H1 => tb σ H1 fun y H2 => r x y H2 fun z H3 => ∃ k, z = .bl k ∧ (if k = true then tc σ H3 fun w' H4 => r' y w' H4 Q else Q (.bl false) H3)) : tChain r r' ta tb tc σ H Q := q
theorem g_sfld {K : PySem.W.Frag} {σ : L2.St} {H : Hp} {D : Ends} {ta tv : TE} {f : Str} (q : tv σ H fun y H1 => ta σ H1 fun x H2 => ∃ a C dx fs, x = .ref a ∧ H2 a = some (.ins C dx fs) ∧ Cls K C ∧ NoAttr K C f ∧ fs.length < 1000 ∧ D.nx σ (upd H2 a (.ins C dx (putF f y fs)))) : sFld K ta tv f D σ H := q
theorem g_gsub {σ : L2.St} {H : Hp} {Q : L2.St → Hp → Prop} {to ti : TE} {t : TSet} {v : V} (q : to σ H fun o H1 => ti σ H1 fun i H2 => t o i v H2 fun H3 => Q σ H3) : gSub to ti t v σ H Q := q
theorem g_make {σ : L2.St} {H : Hp} {Q : VK} {C : Addr} {sp : Sp} {dvs : List V} {E : XK} {t : TA} (q : t σ H fun vs H1 => ∀ x dx, H1 x = none → H1 dx = none → dx ≠ x →
  sp (.ref x :: (vs ++ dvs)) (upd (upd H1 dx (.own x)) x (.ins C dx [])) (fun v H2 => v = .non ∧ Q (.ref x) H2) E) : tMake C sp dvs E t σ H Q := q
theorem g_makeK {σ : L2.St} {H : Hp} {Q : VK} {C : Addr} {n m : Nat} {sp : Sp} {gV : List V → List V → List V} {E : XK} {t tk : TA} (q : t σ H fun vs H1 => tk σ H1 fun zs H2 => vs.length = n ∧ zs.length = m ∧ ∀ x dx, H2 x = none → H2 dx = none → dx ≠ x →
  sp (gV (.ref x :: vs) zs) (upd (upd H2 dx (.own x)) x (.ins C dx [])) (fun v H3 => v = .non ∧ Q (.ref x) H3) E) : tMakeK C n m sp gV E t tk σ H Q := q
theorem g_yes {σ : L2.St} {H : Hp} {Q : Bool → Hp → Prop} (q : Q true H) : tYes σ H Q := q
theorem g_ite {c : Bool} {A B : Prop} (h1 : c = true → A) (h2 : c = false → B) : if c = true then A else B := by
  cases c
  · exact g_iteF (h2 rfl)
  · exact g_iteT (h1 rfl)
theorem kb_int {n : String} (h : n ∈ ["NoneType", "bool", "int", "str", "list", "tuple", "dict"]) : kitB n "int" = some (n == "int" || n == "bool") := by
  simp only [List.mem_cons, List.not_mem_nil, or_false] at h
  rcases h with rfl | rfl | rfl | rfl | rfl | rfl | rfl <;> decide +kernel
theorem kb_bool {n : String} (h : n ∈ ["NoneType", "bool", "int", "str", "list", "tuple", "dict"]) : kitB n "bool" = some (n == "bool") := by
  simp only [List.mem_cons, List.not_mem_nil, or_false] at h
  rcases h with rfl | rfl | rfl | rfl | rfl | rfl | rfl <;> decide +kernel
theorem kb_str {n : String} (h : n ∈ ["NoneType", "bool", "int", "str", "list", "tuple", "dict"]) : kitB n "str" = some (n == "str") := by
  simp only [List.mem_cons, List.not_mem_nil, or_false] at h
  rcases h with rfl | rfl | rfl | rfl | rfl | rfl | rfl <;> decide +kernel
theorem kb_tuple {n : String} (h : n ∈ ["NoneType", "bool", "int", "str", "list", "tuple", "dict"]) : kitB n "tuple" = some (n == "tuple") := by
  simp only [List.mem_cons, List.not_mem_nil, or_false] at h
  rcases h with rfl | rfl | rfl | rfl | rfl | rfl | rfl <;> decide +kernel
theorem TyB.mem {K : PySem.W.Frag} {H : Hp} {v : V} {n : String} (h : Mc.TyB K H v n) : n ∈ ["NoneType", "bool", "int", "str", "list", "tuple", "dict"] := by
  cases h <;> decide

def isI : V → Bool
  | .int _ => true
  | _ => false
def btw (v : V) (a b : Int) : Bool := match v with
  | .int i => decide (a ≤ i) && decide (i ≤ b)
  | _ => false

local macro_rules | `(tactic| walk_at "rd1") => `(tactic| first
  | with_reducible refine g_seq ?_
  | with_reducible refine g_asg ?_
  | with_reducible refine g_name ?_
  | with_reducible refine g_c ?_
  | with_reducible refine g_op ?_
  | with_reducible refine g_ifS ?_
  | with_reducible refine g_if ?_
  | with_reducible refine g_test ?_
  | with_reducible refine g_B ?_
  | with_reducible refine g_bl ?_
  | with_reducible refine g_blV ?_
  | with_reducible refine g_not ?_
  | with_reducible refine g_and ?_
  | with_reducible refine g_or ?_
  | with_reducible refine g_notV ?_
  | with_reducible refine g_andV ?_
  | with_reducible refine g_orV ?_
  | with_reducible refine g_ret ?_
  | with_reducible refine g_drop ?_
  | with_reducible refine g_next ?_
  | with_reducible refine g_retN ?_
  | with_reducible refine g_call ?_
  | with_reducible refine g_cb ?_
  | with_reducible refine g_cons ?_
  | with_reducible refine g_nil ?_
  | with_reducible refine g_tup ?_
  | with_reducible refine g_lst ?_
  | with_reducible refine g_prop ?_
  | with_reducible refine g_fld ?_
  | with_reducible refine g_meth ?_
  | with_reducible refine g_chain ?_
  | with_reducible refine g_yes ?_
  | with_reducible refine g_make ?_
  | with_reducible refine g_makeK ?_
  | with_reducible refine g_gsub ?_
  | with_reducible refine g_sfld ?_
  | with_reducible refine g_un ?_
  | with_reducible refine g_bm ?_
  | with_reducible refine g_iteT ?_
  | with_reducible refine g_iteF ?_
  | with_reducible refine g_I0 ?_
  | with_reducible refine g_add ?_
  | with_reducible refine g_sub ?_
  | ((with_reducible refine' g_var ?hv ?_); (case hv => rfl))
  | ((with_reducible refine g_eq ?hv ?_); (case hv => rfl))
  | ((with_reducible refine g_ne ?hv ?_); (case hv => rfl)))
local macro_rules | `(tactic| walk_at "rd") => `(tactic| repeat (walk_at "rd1"))

/-! ### is_integer, is_between -/
def spIsInt (K : PySem.W.Frag) : Sp := fun vs H Q _ => ∃ v n, vs = [v] ∧ Mc.TyB K H v n ∧ Q (.bl (isI v)) H
def spBtw (K : PySem.W.Frag) : Sp := fun vs H Q _ => ∃ v n a b, vs = [v, .int a, .int b] ∧ Mc.TyB K H v n ∧ Q (.bl (btw v a b)) H
end Mc

namespace Mx
open PySem PySem.Spec PyProof.Rows L2
open PySem.W (KxsFacts kxs_mw ks_superIn)
section
variable {prog : Program} {w : World} {A : Around} {E : Value → Shared → Prop} {h : Heap} {g : Array GenState} {d : Drawn} {t : Nat} {os : OsState}
theorem call_mw {B nI iI : String} {bmB : List Value} (FB : ExcBaseFacts B nI iI bmB) {nm q : Str} {C N : Addr} {bs bm : List Value} {hdct : Bool} {sn : List Str} {sub : List Value} {ab : Bool} {col : Option Bool} {dd : Option Addr} {k0 k1 k2 k3 k5 : Option Value}
    {mw x t0 : Addr} {us : List Value} {R : Value → Shared → Prop} (atC : h.get? C = some (excClassObj nm q C N bs bm hdct sn sub ab col dd k0 k1 k2 k3 k5 nI)) (atX : h.get? x = some (HandSPX.excO C t0)) (atW : h.get? mw = some (kxs_mw iI x)) (lim : us.length ≤ sizeLine)
    (then_ : ∀ g' t1, (∀ b o, b ≠ x → h.get? b = some o → g'.get? b = some o) → g'.get? x = some (HandSPX.excO C t1) → R .none ⟨g', g, d, t, os⟩) : wpAny (model prog w) A (call (.ref mw) us) R E ⟨h, g, d, t, os⟩ := by
  have three : (Value.type "method-wrapper" == Value.type "method" || Value.type "method-wrapper" == Value.type "builtin_function_or_method" || Value.type "method-wrapper" == Value.type "method-wrapper") = true := by decide
  refine wpAny_call (codeAny_of_tree (show wpAny _ A.in1 (callAny (.ref mw) ⟨us, []⟩) _ _ _ from ?_))
  · simp only [callAny]
    refine wpAny_bind (wpAny_load atW ?_)
    simp only [kxs_mw, three, if_true]
    refine PySem.W.KFB.if_so (by decide) (wpAny_bind (PySem.W.check_bound_init FB.toExcCallFacts atC atX rfl (wpAny_bind (wpAny_pure (wpAny_pure ⟨plainId_quiet FB.init.plain _, codeAny_builtin FB.initEntry ?_⟩)))))
    exact PySem.W.exc_init_tree (cls := .ref C) (t0 := t0) (dv := none) (c2 := .none) (c3 := .none) (b4 := .bool false) atX lim fun g' keep at_ _ => then_ g' _ keep at_
end
section
variable {X : Cx} {pins : List (Addr × Obj)} {σ : L2.St} {H : Hp} {s : Shared}
/-- super().__init__("..") in an own exception's __init__, as the first statement of the body -/
theorem super_at {body : List Stmt} {qual file z : Str} {scope : Scope} {L f cda cc x C : Addr} {fd : FuncData} {ar : Arg} {vs : Array Value} {tf : Tok} {oc ccl cl : Value} {od cdd cld : Option Addr} {osl ccs csl : Array (Option Value)} {j : Nat} {p0 p1 p2 p3 p4 p5 : Pos} {pl : Sem Bool} {Q : Flow → Shared → Prop} {E : Value → Shared → Prop}
    (I : Inv X pins σ H s) (hE : X.env = PySem.W.ksEnv qual scope L f (.ref cda) cc) (lf : X.K.lookup f = some ⟨oc, od, .func fd, osl⟩) (hp : (fd.params.posonlyargs ++ fd.params.args).head? = some ar)
    (hN : X.N[0]? = some ar.arg) (hσ : σ[0]? = some (some (.ref x))) (hcode : X.K.lookup cda = some ⟨ccl, cdd, .fields vs, ccs⟩) (hvs : vs[2]? = some (.str file tf)) (hfile : ((X.prog.main.file : Str) == file) = true)
    (hcell : X.K.lookup cc = some ⟨cl, cld, .cell (some (.ref C)), csl⟩) (T : OexC X.K C) (hs : ks_superIn X.K C C "__init__" = some (some (.builtin "ValueError.__init__"))) (hB : PySem.W.subIn X.K (.ref C) (.type "ValueError") = some true)
    (ho : PySem.W.nsIn X.K cStatics "thirdparty.any" = some none) (hsup : X.mg "super" = none) (hks : scope.names.lookup ("super" : Str) = some .globalImplicit) (hkc : scope.names.lookup ("__class__" : Str) = some .free) (hka : scope.names.lookup ar.arg = some .local) (hk : scope.kind = .function)
    (htop : (X.prog.main.scope.names.lookup ("super" : Str)).isSome = false) (hboot : bootBuiltins "super" = some (.type "super")) (ea : H x = some (exo x C none)) (q : ∀ s', Inv X pins σ H s' → Q .next s')
    (hc : eval (.Call (.Attribute (.Call (.Name "super" p0) [] [] p1) "__init__" p2) [.Constant (.str z) j p3] [] p4) (PySem.W.ksEnv qual scope L f (.ref cda) cc) = (do
      let ov ← attributeBase (.Call (.Name "super" p0) [] [] p1) "__init__" (PySem.W.ksEnv qual scope L f (.ref cda) cc) (eval (.Call (.Name "super" p0) [] [] p1) (PySem.W.ksEnv qual scope L f (.ref cda) cc))
      standAt p2.atName
      let (fv, first) ← holding [ov] (getMethod ov "__init__" pl)
      callWith p4 fv first (backTo p4 (starEach [.Constant (.str z) j p3] (PySem.W.ksEnv qual scope L f (.ref cda) cc))) []) := by rfl) :
    _root_.PySem.wpAt (model X.prog X.w) X.A (.func body X.env) (exec (.Expr (.Call (.Attribute (.Call (.Name "super" p0) [] [] p1) "__init__" p2) [.Constant (.str z) j p3] [] p4) p5) X.env) Q E s := by
  obtain ⟨nm, qn, N', bs, bm, sn, sub, ab, col, dd, k0, k1, k2, k3, k5, hC, hbm⟩ := T.cls
  have hcl : PySem.W.clsIn X.K C = some { name := nm, bases := bs, mro := .ref C :: bm, ns := N', qualname := qn, hasDict := true, slotNames := sn, subclasses := sub, abstract := ab, collection := col, hasDel := false } := by unfold PySem.W.clsIn; rw [hC] <;> rfl
  have KX := I.kIn
  obtain ⟨m, hns, hloc⟩ := id I.loc
  have hv : m ar.arg = some (.ref x) := by
    obtain ⟨u, ru, lk⟩ := hloc 0 ar.arg (.ref x) hN hσ (.inl (by rw [hE]; exact hka))
    obtain rfl : u = Value.ref x := ru
    rcases lk with ⟨_, h⟩ | ⟨h, _⟩
    · exact h
    · exfalso
      have e : X.env.kindOf ar.arg = some .local := by rw [hE]; exact hka
      rw [e] at h
      rcases h with h | h <;> cases h
  obtain ⟨t1, hx⟩ := exo_at I.hok ea
  have hmro : PySem.W.mroIn X.K C (.ref C) = some true := by
    unfold PySem.W.mroIn
    rw [hcl, Option.bind_some, if_neg (show ¬ (List.isEmpty (Value.ref C :: bm) = true) from Bool.false_ne_true), show ((Value.ref C :: bm).contains (.ref C)) = true by rw [List.contains_cons]; simp]
  have hglob := I.mod.glob
  obtain ⟨mb, hblt, hmb⟩ := I.mod.blt
  have bk := I.bk
  have IA : PySem.W.InstAt s.heap x { cls := .ref C, dict := none, data := .fields #[.ref t1, .none, .none, .none, .bool false, .none] } C none := ⟨hx, rfl, rfl, trivial⟩
  have hxC : x ≠ C := PySem.W.ks_ne KX IA hcl
  have hkk : X.env.scope.kind = .function := I.ok.kind
  obtain ⟨hh, g, d, t, os⟩ := s
  rw [hE]
  have hi : interactive (PySem.W.ksEnv qual scope L f (.ref cda) cc) = false := by
    unfold interactive
    rw [show (PySem.W.ksEnv qual scope L f (.ref cda) cc).scope.kind = .function from hk]
    rfl
  refine PySem.ks_wpAt_Expr_any (PySem.ks_wpAt_MethodCall ?_ hc) hi
  refine PySem.ks_wpAt_super_base (env := PySem.W.ksEnv qual scope L f (.ref cda) cc) hks hkc (by decide) rfl (KX _ _ lf) rfl hp rfl (KX _ _ hcode) rfl hvs hfile htop ?_
  refine PySem.W.ks_loadName_global hk hks (PySem.Calls.loadGlobal_builtin (env := PySem.W.ksEnv qual scope L f (.ref cda) cc) (hglob.keeps bk) hsup (hblt.keeps bk) ((hmb _ (by decide +kernel)).trans hboot) ⟨rfl, ?_⟩)
  refine wpAny_loadName_free hk hkc rfl ⟨_, KX _ _ hcell, rfl⟩ ?_
  refine wpAny_loadName_local hk hka (by have e : X.env.locals = L := by rw [hE]
                                         rw [← e]; exact hns) hv ?_
  refine ks_wpAny_isType_cls (KX _ _ hC) rfl ⟨rfl, ?_⟩
  refine ks_wpAny_call_super (KX _ _ hC) rfl hx rfl (fun c e => by cases e) (PySem.W.looks_mroIn KX hmro) (fun h1 e1 k1 => ?_)
  have I1 : Inv X pins σ H ⟨h1, g, d, t, os⟩ := I.kept (t' := t) k1
  have KX1 := I1.kIn
  have IA1 : PySem.W.InstAt h1 x { cls := .ref C, dict := none, data := .fields #[.ref t1, .none, .none, .none, .bool false, .none] } C none := ⟨k1 _ _ hx, rfl, rfl, trivial⟩
  have hs' : PySem.W.alongIn X.K "__init__" (((Value.ref C :: bm).dropWhile (· != .ref C)).drop 1) = some (some (.builtin "ValueError.__init__")) := by
    unfold ks_superIn at hs
    rw [hcl] at hs
    exact hs
  refine PySem.W.kxs_getMethod PySem.W.kxs_ValueError e1 (PySem.W.looks_opaque KX1 ho) (l₀ := .ref C :: bm) (fun A Q E s k q => wpAny_bind ((PySem.W.looks_clsIn KX1 hcl) A _ E s k (wpAny_pure q))) rfl KX1 hs' (IA1.type.andThen (PySem.W.looks_subIn KX1 hB)) hxC (by decide) ?_
  have I2 : Inv X pins σ H ⟨h1.push (kxs_mw "ValueError.__init__" x), g, d, t + 1, os⟩ := I1.kept (t' := t + 1) fun b o e => Heap.get?_push_of_some _ e
  refine PySem.W.kxs_callWith (i := "ValueError.__init__") (x := x) rfl (PySem.Calls.evalArgs_plain ?_)
  refine Calls.spliced_cons (Calls.Constant_str (k := j) (pos := p3) ?_)
  refine Calls.spliced_nil ?_
  have hmw : (h1.push (kxs_mw "ValueError.__init__" x)).get? h1.objs.size = some (kxs_mw "ValueError.__init__" x) := Heap.get?_push_size _ rfl
  refine ⟨hmw, ?_⟩
  refine call_mw F.excBase_ValueError (I2.kIn _ _ hC) (Heap.get?_push_of_some _ (k1 _ _ hx)) hmw (by show 1 ≤ sizeLine; decide) fun h' t2 k hx' => ?_
  have J := I2.write (t' := t + 1 + 1) (x := x) (e := x) (o := exo x C none) (by rw [ea]; exact True.intro) (.inl rfl) k ⟨_, hx'⟩ (exo_ok hx')
  have eu : upd H x (exo x C none) = H := by
    funext b
    by_cases hb : b = x
    · rw [hb, upd_same, ea]
    · rw [upd_ne hb]
  rw [eu] at J
  exact q _ J
end
open NdefX (NF ncx envF startF NScope CellsAt inv_startN)
/-- an own exception's __init__ whose first statement is super().__init__("..") -/
structure SupD (P : Program) (K : PySem.W.Frag) (x qual : Str) (params : Arguments) (body : List Stmt) (scope : Scope) (C f : Addr) (fd : FuncData) (cda cc : Addr) : Prop where
  ex : ∃ (oc : Value) (od : Option Addr) (dV kV doc pm : Value) (an : Option Addr) (ct : Value) (osl : Array (Option Value)) (ccl : Value) (cdd : Option Addr) (vs : Array Value) (ccs : Array (Option Value)) (cl : Value) (cld : Option Addr) (csl : Array (Option Value)) (file : Str) (tf : Tok),
    fd = PySem.W.ksFn x qual params body scope dV kV doc pm an (.ref cda) ct cc ∧ K.lookup f = some ⟨oc, od, .func fd, osl⟩ ∧ PySem.W.codeIn K (.ref cda) qual = true ∧ K.lookup cda = some ⟨ccl, cdd, .fields vs, ccs⟩ ∧ vs[2]? = some (.str file tf) ∧ ((P.main.file : Str) == file) = true ∧
    K.lookup cc = some ⟨cl, cld, .cell (some (.ref C)), csl⟩
/-- the class's facts -/
structure SupC (P : Program) (K : PySem.W.Frag) (mg : Str → Option Value) (C : Addr) : Prop where
  ox : OexC K C
  su : ks_superIn K C C "__init__" = some (some (.builtin "ValueError.__init__"))
  ve : PySem.W.subIn K (.ref C) (.type "ValueError") = some true
  tp : PySem.W.nsIn K cStatics "thirdparty.any" = some none
  sm : mg "super" = none
  top : (P.main.scope.names.lookup ("super" : Str)).isSome = false
theorem look_one {α : Type} (f g : Str) (y : α) : [(f, y)].lookup g = if g = f then some y else none := by
  by_cases h : g = f
  · subst h
    simp [List.lookup]
  · have e : (g == f) = false := by simpa using h
    rw [if_neg h]
    simp [List.lookup, e]
theorem boot_super : bootBuiltins "super" = some (.type "super") := by first | rfl | kernel_rfl
theorem fn_sup {CX : CXT} {P : Program} {w : World} {K : PySem.W.Frag} {mg : Str → Option Value} {base : Heap} {k : Nat} {C f cda cc : Addr} {fd : FuncData} {x qual z : Str} {params : Arguments} {rest : List Stmt} {scope : Scope} {N ps : List Str} {sp : Sp} {ar : Arg} {j : Nat} {p0 p1 p2 p3 p4 p5 : Pos}
    (D : SupD P K x qual params (.Expr (.Call (.Attribute (.Call (.Name "super" p0) [] [] p1) "__init__" p2) [.Constant (.str z) j p3] [] p4) p5 :: rest) scope C f fd cda cc) (T : SupC P K mg C) (S : NScope N ps ["__class__"] scope)
    (hp : (params.posonlyargs ++ params.args).head? = some ar) (hN : N[0]? = some ar.arg) (hks : scope.names.lookup ("super" : Str) = some .globalImplicit) (hka : scope.names.lookup ar.arg = some .local)
    (len : ∀ vs H Q E, sp vs H Q E → vs.length = ps.length)
    (hc : ∀ L : Addr, ∃ pl : Sem Bool, eval (.Call (.Attribute (.Call (.Name "super" p0) [] [] p1) "__init__" p2) [.Constant (.str z) j p3] [] p4) (PySem.W.ksEnv qual scope L f (.ref cda) cc) = (do
      let ov ← attributeBase (.Call (.Name "super" p0) [] [] p1) "__init__" (PySem.W.ksEnv qual scope L f (.ref cda) cc) (eval (.Call (.Name "super" p0) [] [] p1) (PySem.W.ksEnv qual scope L f (.ref cda) cc))
      standAt p2.atName
      let (fv, first) ← holding [ov] (getMethod ov "__init__" pl)
      callWith p4 fv first (backTo p4 (starEach [.Constant (.str z) j p3] (PySem.W.ksEnv qual scope L f (.ref cda) cc))) []))
    (hbody : ∀ (A : Around) (outer : List Env) (s : Shared) (H : Hp) (vs : List V) (Q : VK) (E : XK), sp vs H Q E →
      ∃ a, vs[0]? = some (.ref a) ∧ H a = some (exo a C none) ∧ ∃ t, PSs (ncx CX P w K mg base N ⟨x, qual, params, .Expr (.Call (.Attribute (.Call (.Name "super" p0) [] [] p1) "__init__" p2) [.Constant (.str z) j p3] [] p4) p5 :: rest, scope, [("__class__", cc)], cda⟩ f A outer s H E) rest t ∧
        t { nx := fun _ H' => Q .non H', rt := Q } (startF N vs [none]) H) : FnOk P w K mg base CX (k + 1) f fd ps sp := by
  obtain ⟨oc, od, dV, kV, doc, pm, an, ct, osl, ccl, cdd, vs', ccs, cl, cld, csl, file, tf, rfl, lf, hcd, hcode, hvs, hfile, hcell⟩ := D.ex
  refine ⟨len, fun A outer s H args us vs Q E hr e0 hb r hsp => ?_⟩
  have hl := len _ _ _ _ hsp
  have lim : s.heap.NoLimit := e0.mod.nolimit.keeps fun b o e => (e0.bs b o e).1
  have KX : K.In s.heap := e0.mod.kin.keeps fun b o e => (e0.bs b o e).1
  obtain ⟨FF, hFF⟩ : ∃ FF : NF, FF = ⟨x, qual, params, .Expr (.Call (.Attribute (.Call (.Name "super" p0) [] [] p1) "__init__" p2) [.Constant (.str z) j p3] [] p4) p5 :: rest, scope, [("__class__", cc)], cda⟩ := ⟨_, rfl⟩
  have hcl : FF.cl = [(("__class__" : Str), cc)] := by rw [hFF]
  have CA : CellsAt FF.cl ["__class__"] [none] s.heap H := by
    have key : ∀ y c, FF.cl.lookup y = some c → y = "__class__" ∧ c = cc := fun y c e => by
      rw [hcl, look_one] at e
      by_cases h : y = "__class__"
      · rw [if_pos h] at e
        cases e
        exact ⟨h, rfl⟩
      · rw [if_neg h] at e
        cases e
    refine ⟨rfl, fun y c e => ?_, fun y1 y2 c e1 e2 => (key _ _ e1).1.trans (key _ _ e2).1.symm, fun i y e => ?_⟩
    · obtain ⟨_, rfl⟩ := key _ _ e
      exact ⟨(e0.bs _ _ (e0.mod.kin _ _ hcell)).2, some (.ref C), _, KX _ _ hcell, rfl⟩
    · cases i with
      | zero =>
        have e : some ("__class__" : Str) = some y := e
        cases e
        exact ⟨cc, by rw [hcl, look_one, if_pos rfl], fun v hv => by
          have hv : some (none : Option V) = some (some v) := hv
          cases hv⟩
      | succ i =>
        have e : (none : Option Str) = some y := e
        cases e
  have hscope : FF.scope = scope := by rw [hFF]
  refine codeAny_call_function hr.depth (KX _ _ lf) rfl S.co S.gen rfl (PySem.W.codeRec_of KX hcd) (hb _ _ _ _ ?_)
  refine wpAny_newFunctionEnv S.nocell (fun ⟨n, _⟩ hy => S.par n (List.of_mem_zip hy).1) (fun h₁ hns hsb => ⟨lim.fresh _ hsb, ?_⟩) S.kind
  have kp : ∀ b o, s.heap.get? b = some o → h₁.get? b = some o := fun b o e => hsb.extBut b o (Nat.ne_of_lt (Heap.lt_size e)) (Heap.get?_push_of_some _ e)
  obtain ⟨a, ha, hea, t, ht, hq⟩ := hbody A outer s H vs Q E hsp
  rw [← hFF] at ht
  have I : Inv (ncx CX P w K mg base N FF f A outer s H E) [] (startF N vs [none]) H { s with heap := h₁, toks := s.toks + (ps.zip us).length } := inv_startN (hscope ▸ S) hr.hd e0 hl r CA hns kp
  subst hFF
  show codeAny _ _ (.func (.Expr (.Call (.Attribute (.Call (.Name "super" p0) [] [] p1) "__init__" p2) [.Constant (.str z) j p3] [] p4) p5 :: rest) (PySem.W.ksEnv qual scope s.heap.objs.size f (.ref cda) cc)) _ _
  refine ks_codeAny_funcAt (ks_wpAt_execs_cons ?_)
  obtain ⟨pl, hpl⟩ := hc s.heap.objs.size
  have hσ : (startF N vs [none])[0]? = some (some (.ref a)) := by
    unfold startF
    cases vs with
    | nil => cases ha
    | cons v vs =>
      have ha : some v = some (V.ref a) := ha
      cases ha
      rfl
  refine super_at (X := ncx CX P w K mg base N ⟨x, qual, params, .Expr (.Call (.Attribute (.Call (.Name "super" p0) [] [] p1) "__init__" p2) [.Constant (.str z) j p3] [] p4) p5 :: rest, scope, [("__class__", cc)], cda⟩ f A outer s H E) (pl := pl) I rfl lf hp hN hσ hcode hvs hfile hcell T.ox T.su T.ve T.tp T.sm hks (S.frk _ (List.mem_singleton.mpr rfl)) hka S.kind T.top boot_super hea (fun s2 I2 => ?_) hpl
  refine wpAt_of_wpAny ?_
  refine wpAny_mono (ht.run [] _ (startF N vs [none]) H _ I2 hq) (fun fl s' hs => ?_) fun e s' hs => hs
  have fin : ∀ {σ' : L2.St} {H' : Hp} {v : V} {u : Value}, Inv (ncx CX P w K mg base N ⟨x, qual, params, .Expr (.Call (.Attribute (.Call (.Name "super" p0) [] [] p1) "__init__" p2) [.Constant (.str z) j p3] [] p4) p5 :: rest, scope, [("__class__", cc)], cda⟩ f A outer s H E) [] σ' H' s' → L2.RelV v u → Q v H' → CE outer P w H s Q u s' :=
    fun {σ' H' v u} J rv q => ⟨v, H', J.os, J.bare, J.base, J.hok, rv, q⟩
  cases fl with
  | ret u =>
    obtain ⟨v, σ', H', J, rv, q⟩ := hs
    exact fin J rv q
  | next =>
    obtain ⟨σ', H', J, q⟩ := hs
    exact fin (v := V.non) (u := Value.none) J rfl q
  | brk =>
    obtain ⟨_, _, _, q⟩ := hs
    exact False.elim q
  | cont =>
    obtain ⟨_, _, _, q⟩ := hs
    exact False.elim q

/-- the class in a raise -/
structure ExK (P : Program) (w : World) (K : PySem.W.Frag) (mg : Str → Option Value) (base : Heap) (n : Str) (C f : Addr) (fd : FuncData) (ps : List Str) (sp : Sp) : Prop where
  iC : PySem.W.findIn K (.ref C) "__init__" = some (some (.ref f))
  tI : PySem.W.typeIn K (.ref f) = some (.type "function")
  ok : FnOk P w K mg base CX0 1 f fd ps sp
  bi : Binds K fd ps []
  gl : mg n = some (.ref C)
def spEx (C : Addr) (fld : Str) : Sp := fun vs H Q _ => ∃ a v, vs = [.ref a, v] ∧ H a = some (exo a C none) ∧ ∀ dx, H dx = none → dx ≠ a → Q .non (upd (upd H dx (exd dx [(fld, v)])) a (exo a C (some dx)))
def ExAs (C : Addr) (fld : Str) (W : XK) (vs : List V) (H1 : Hp) : Prop := vs.length ≤ 1000 ∧ ∀ a, H1 a = none → spEx C fld (.ref a :: (vs ++ [])) (upd H1 a (exo a C none))
  (fun v H2 => v = .non ∧ ∃ (d : Addr) (fs : List (Str × V)), H2 a = some (exo a C (some d)) ∧ H2 d = some (exd d fs) ∧ H1 d = none ∧ W (.ref C) (some d) (upd (del H2 a) d (.xd fs))) (fun _ _ _ => False)
theorem g_mko {C : Addr} {fld : Str} {ta : TA} {σ : L2.St} {H : Hp} {W : XK} (q : ta σ H fun vs H1 => ExAs C fld W vs H1) : tMkO C (spEx C fld) [] ta σ H W := q
theorem ex_as {C : Addr} {fld : Str} {H1 : Hp} {W : XK} {v : V} (h : ∀ d H', (∀ b o, H1 b = some o → H' b = some o) → H' d = some (.xd [(fld, v)]) → W (.ref C) (some d) H') : ExAs C fld W [v] H1 := by
  refine ⟨by show 1 ≤ 1000; decide, fun a ha => ⟨a, v, rfl, upd_same, fun dx hdx hne => ⟨rfl, dx, [(fld, v)], upd_same, ?_, ?_, ?_⟩⟩⟩
  · rw [upd_ne hne, upd_same]
  · rw [upd_ne hne] at hdx
    exact hdx
  · rw [upd_ne hne] at hdx
    refine h dx _ (fun b o hb => ?_) upd_same
    have b1 : b ≠ a := fun z => by rw [z, ha] at hb; cases hb
    have b2 : b ≠ dx := fun z => by rw [z, hdx] at hb; cases hb
    rw [upd_ne b2, del_ne b1, upd_ne b1, upd_ne b2, upd_ne b1]
    exact hb
/-- two promises of one def -/
theorem fn_or {P : Program} {w : World} {K : PySem.W.Frag} {mg : Str → Option Value} {base : Heap} {CX : CXT} {k : Nat} {f : Addr} {fd : FuncData} {ps : List Str} {sp1 sp2 : Sp} (F1 : FnOk P w K mg base CX0 k f fd ps sp1) (F2 : FnOk P w K mg base CX k f fd ps sp2) :
    FnOk P w K mg base CX k f fd ps (fun vs H Q E => sp1 vs H Q E ∨ sp2 vs H Q E) := by
  refine ⟨fun vs H Q E h => h.elim (F1.len _ _ _ _) (F2.len _ _ _ _), fun A outer s H args us vs Q E hr e0 hb r h => ?_⟩
  rcases h with h | h
  · refine codeAny_mono (F1.run A outer s H args us vs Q E hr e0 hb r h) fun r s' q => ?_
    cases r with
    | error e => exact False.elim q
    | ok fl => cases fl <;> exact q
  · exact F2.run A outer s H args us vs Q E hr e0 hb r h
/-! ### C(e, .., k = v, ..) in a try -/
section
variable {X : Cx} {CX : CXT} {k n : Nat} {f C : Addr} {fd : FuncData} {ps ks : List Str} {sp : Sp} {E : L2.St → XK} {x : Str} {p pos : Pos} {e : Expr} {es : List Expr} {kws : List Keyword} {t tk : TA} {g : List Value → List Value → List Value} {gV : List V → List V → List V}
def tMakeKS (C : Addr) (n m : Nat) (sp : Sp) (gV : List V → List V → List V) (E : L2.St → XK) (t tk : TA) : TE := fun σ H Q => tMakeK C n m sp gV (E σ) t tk σ H Q
theorem run_makeKS {pl : List (Addr × Obj)} {τ : L2.St} {G : Hp} {z : Shared} {R : VK} {EE : XK} {ua uk : List Value} {va vk : List V} (M : Mk X.K C f) (F : FnOk X.prog X.w X.K X.mg X.base CX k f fd ps sp) (room : Room (k + 1) X.A) (kb : KBn X.K fd ps (n + 1) ks g gV) (pass : PassesAt CX X τ EE)
    (I : Inv X pl τ G z) (ra : Vals va ua) (rk : Vals vk uk) (la : va.length = n) (lk : vk.length = ks.length)
    (want : ∀ a da, G a = none → G da = none → da ≠ a → sp (gV (.ref a :: va) vk) (upd (upd G da (.own a)) a (.ins C da [])) (fun v G2 => v = .non ∧ R (.ref a) G2) EE) : wpAny (model X.prog X.w) X.A (call (.ref C) ua (ks.zip uk)) (EP X pl τ R) X.xe z := by
  obtain ⟨top, htop⟩ : ∃ top, top = z.heap.objs.size := ⟨_, rfl⟩
  have q := want (z.heap.objs.size + 1) _ (I.hok.fresh (Nat.le_succ _)) (I.hok.fresh (Nat.le_refl _)) (Nat.ne_of_lt (Nat.lt_succ_self _))
  have J := Inv.made (C := C) I
  have rs : Vals (V.ref (z.heap.objs.size + 1) :: va) (Value.ref (z.heap.objs.size + 1) :: ua) := .cons rfl ra
  have len1 : (Value.ref (z.heap.objs.size + 1) :: ua).length = n + 1 := by simp [← ra.length, la]
  have runs := F.run _ X.stack _ _ ⟨Value.ref (z.heap.objs.size + 1) :: ua, ks.zip uk⟩ _ _ _ EE (room.make C ua (ks.zip uk)) (J.env0.make C ua (ks.zip uk)) (kb.to _ _ uk J.kIn len1 (rk.length ▸ lk)) (kb.rel rs rk) q
  refine wpAny_call (make_map (f := f) I.kIn M.makes M.init (beq_iff_eq.mp M.fn) (codeAny_mono runs fun res z2 hz => ?_))
  match res, hz with
  | .error e, hz => exact pass pl _ _ e z2 J hz
  | .ok (.ret u), hz =>
    obtain ⟨v, G2, J2, rv, ev, qq⟩ := J.after hz
    rw [ev] at rv
    exact ⟨rv, V.ref (z.heap.objs.size + 1), G2, J2, rfl, qq⟩
theorem pe_makeKS (M : Mk X.K C f) (F : FnOk X.prog X.w X.K X.mg X.base CX k f fd ps sp) (room : Room (k + 1) X.A) (hg : Gl X x) (hm : X.mg x = some (.ref C)) (kb : KBn X.K fd ps (n + 1) ks g gV) (pass : ∀ σ, PassesAt CX X σ (E σ)) (pa : PA X (e :: es) t) (pk : PK X kws tk)
    (h1 : (backToKw pos (keywordEach kws X.env)).all (·.1.isSome) = true := by rfl) (h2 : (backToKw pos (keywordEach kws X.env)).filterMap (·.1) = ks := by rfl) (h3 : (x == ("__debug__" : Str)) = false := by decide)
    (h4 : starEach (e :: es) X.env = (false, eval e X.env) :: starEach es X.env := by rfl) (h5 : ((backTo pos (starEach (e :: es) X.env)).any (·.1) || (backToKw pos (keywordEach kws X.env)).any (·.1.isNone)) = false := by rfl) :
    PE X (.Call (.Name x p) (e :: es) kws pos) (tMakeKS C n ks.length sp gV E t tk) :=
  ⟨fun pl z τ G R I q => wpAny_Call_Name_kw (ld_glob I hg hm (PySem.W.callWith_KW (h₀ := X.base) I.ok.mod.kin M.kp h1 (thn (pa.run pos pl z τ G _ I q) fun ua z1 ⟨va, G1, I1, ra, q1⟩ =>
    thn (pk.run pos pl z1 τ G1 _ I1 q1) fun uk z2 ⟨vk, G2, I2, rk, la, lk, q2⟩ => ⟨I2.kIn, by rw [h2]; exact run_makeKS M F room kb (pass τ) I2 ra rk la lk q2⟩) h5 h4) h3)⟩
end
end Mx

namespace Mx
open PySem PySem.Spec PyProof.Rows L2
/-! several clauses 'except x as n' -/
def endAs (i : Nat) (D : Ends) : Ends := { nx := fun σ' H' => D.nx (σ'.set i none) H', rt := D.rt, bk := fun σ' H' => D.bk (σ'.set i none) H', ct := fun σ' H' => D.ct (σ'.set i none) H' }
abbrev Clause := Value × Nat × (Addr → Value → Option Addr → TS)
def wMas (K : PySem.W.Frag) (Wout : WX) (D : Ends) : List Clause → WX
  | [] => Wout
  | (c, i, ts) :: l => fun cls d σ H => ∃ b, PySem.W.exmOne K cls c = some b ∧ (b = true → ∀ a, H a = none → ts a cls d (endAs i D) (σ.set i (some (.ref a))) H) ∧ (b = false → wMas K Wout D l cls d σ H)
inductive HdsAs (X : Cx) : List ExceptHandler → List Clause → Prop
  | nil : HdsAs X [] []
  | cons {x n : Str} {c : Value} {i : Nat} {ts : Addr → Value → Option Addr → TS} {b₀ : Stmt} {suite : List Stmt} {np pos' : Pos} {hds : List ExceptHandler} {l : List Clause} (hi : X.N[i]? = some n) (hl : X.env.kindOf n = some .local) (hc : Names X x c)
      (hsu : ∀ (a : Addr) (oe : Obj) (cls : Value) (d : Option Addr) (pn : List (Addr × Obj)), Zc cls d oe → (∃ vs, oe.data = .fields vs) → PSs (X.suite a ((a, oe) :: pn)) (b₀ :: suite) (ts a cls d)) (r : HdsAs X hds l) :
      HdsAs X (.ExceptHandler (some (.Name x np)) (some n) (b₀ :: suite) pos' :: hds) ((c, i, ts) :: l)
section
variable {X : Cx} {body : List Stmt} {g₀ : ExceptHandler} {gs : List ExceptHandler} {l : List Clause} {pos : Pos} {tb : WX → TS} {Wout : WX}
theorem ps_try_mas (hs : X.stack = X.env :: X.outer) (hf : X.env.frame = some X.env.locals) (nd : X.N.Nodup) (tk : Takes X Wout)
    (hb : ∀ (W : WX) (pn : List (Addr × Obj)) (xe : Value → Shared → Prop), Takes (X.tr pn xe) W → PassesOwn (model X.prog X.w) X.A X.env xe → PSs (X.tr pn xe) body (tb W))
    (hh : HdsAs X (g₀ :: gs) l) : PS X (.Try body (g₀ :: gs) [] [] pos) (fun D σ H => tb (wMas X.K Wout D l) D σ H) := by
  refine ⟨fun pins s σ H D I h => wpAny_Try_except ?_⟩
  have okX := I.ok
  have frX : X.A.frames = some (X.env :: X.outer) := okX.frames.trans (congrArg some hs)
  let xeT : Value → Shared → Prop := fun e s₁ => wpAny (model X.prog X.w) X.A (noteFrame e X.env) (fun _ s₂ => wpAny (model X.prog X.w) X.A (setFlight e none) (fun _ s₃ => wpAny (model X.prog X.w) X.A (handleBy e X.env (g₀ :: gs)) (SP X pins D) X.xe s₃) X.xe s₂) X.xe s₁
  refine wpAny_mono ((hb (wMas X.K Wout D l) (X.pn ++ pins) xeT (fun u s' z => ?_) PassesOwn.looking).run [] s σ H D (I.toTry _) h) (fun fl s1 z => ?_) fun _ _ z => z
  · obtain ⟨a, B, sI, pn1, σ1, H1, cls, d, rfl, JT, nb, up, sky, na, os, ag, w⟩ := z
    have J0 : Inv X pins σ1 H1 sI := JT.ofTry okX
    show wpAny _ X.A (noteFrame (.ref a) X.env) _ _ _
    refine Sky.land Zc.steady frX hf (by rw [← hs]; exact sky) fun hA flA upA => ?_
    have JA : Inv X pins σ1 H1 { s' with heap := hA } := J0.landed nb flA.1 (up.trans upA) os ag
    obtain ⟨oA, vA, eA, zA, dA⟩ := flA.there
    have nfr : a ∉ frs (X.env :: X.outer) := fun hm => by
      obtain ⟨_, o', e', hnf⟩ := flA.2.2.1.mem hm
      rw [eA] at e'
      cases e'
      exact hnf _ dA
    have nL : a ≠ X.env.locals := fun z => nfr (List.mem_filterMap.mpr ⟨X.env, List.mem_cons_self, hf.trans (congrArg some z.symm)⟩)
    have nF : a ∉ X.fs := fun hm => (List.mem_filterMap.mp hm).elim fun e he => nfr (List.mem_filterMap.mpr ⟨e, List.mem_cons_of_mem _ he.1, he.2⟩)
    have SA := JA.suite eA dA na nL nF
    have go : ∀ {hds : List ExceptHandler} {lc : List Clause}, HdsAs X hds lc → wMas X.K Wout D lc cls d σ1 H1 → wpAny (model X.prog X.w) X.A (handleBy (.ref a) X.env hds) (SP X pins D) X.xe { s' with heap := hA } := by
      intro hds lc hk
      induction hk with
      | nil =>
        intro w
        refine wpAny_handleBy_nil ?_
        obtain ⟨k1, k2, k3, oe, vs, T, oT, ts', he, hz, hd, h1, hr⟩ := flA
        have fin : wpAny (model X.prog X.w) X.A (setFlight (.ref a) X.env.frame) (fun _ s4 => wpAny (model X.prog X.w) X.A (throw (.ref a) : Sem Flow) (SP X pins D) X.xe s4) X.xe { s' with heap := hA } := by
          rw [hf]
          refine HandSPX.setFlight_upZ ⟨k1, k2, k3, oe, vs, T, oT, ts', he, hz, hd, h1, hr⟩ fun h4 hh4 up4 => wpAny_throw (tk _ _ ⟨a, B, sI, pins, σ1, H1, cls, d, rfl, J0, nb, (up.trans upA).trans up4, .inr (.inr (by rw [hs]; exact hh4)), na, os, ag, w⟩)
        unfold PySem.passOn
        refine wpAny_bind (wpAny_field he hd h1 ?_)
        rw [if_neg (by simp : ¬ ((Value.ref T == Value.none) = true))]
        first
          | exact wpAny_bind (wpAny_pure (wpAny_bind fin))
          | exact wpAny_bind fin
      | @cons x n c i ts b₀ suite np pos' hds2 l2 hi hl hc hsu r ih =>
        rintro ⟨b, hb1, hyes, hno⟩
        refine wpAny_handleBy_cons (codeAny_handlers_test ?_) (fun q => by cases q)
        have LM := PySem.W.exm_one (M := model X.prog X.w) (K := X.K) JA.kIn (fun A Q E s k q => wpAny_typeOf_ref (k _ _ eA) (by rw [zA.1]; exact q)) hb1
        have test : ∀ {Q E : Value → Shared → Prop}, Q c { s' with heap := hA } → wpAny (model X.prog X.w) (X.A.mark (some (.ref a))) (eval (.Name x np) X.env) Q E { s' with heap := hA } := by
          intro Q E q
          rcases hc with ⟨hg, hdbg, hm | ⟨hm, hv, hnn⟩⟩
          · exact ld_glob (X := X.suite a ((a, oA) :: (X.pn ++ pins))) SA hg hm q hdbg
          · exact ld_blt (X := X.suite a ((a, oA) :: (X.pn ++ pins))) SA hg hm hv q hnn hdbg
        refine test (LM.here ?_)
        cases b with
        | false => exact ih (hno rfl)
        | true =>
          refine codeAny_handlers_suite_as (HandSPX.lands_againZ flA fun hB flB upB => ?_)
          have JB : Inv X pins σ1 H1 { s' with heap := hB } := J0.landed nb flB.1 ((up.trans upA).trans upB) os ag
          obtain ⟨oB, vB, eB, zB, dB⟩ := flB.there
          refine store_ok (X := X.suite a ((a, oB) :: (X.pn ++ pins))) (v := .ref a) (JB.suite eB dB na nL nF) nd hi (.inl hl) rfl (fun s5 S5 => ?_) (.inr hl)
          refine wpAny_mono ((hsu a oB cls d (X.pn ++ pins) zB ⟨_, dB⟩).run [] s5 _ H1 _ S5 (hyes rfl a na)) (fun fl s6 z => ?_) fun _ _ z => z.elim
          have close : ∀ {σ6 : L2.St} {H6 : Hp} {Q : Shared → Prop}, Inv (X.suite a ((a, oB) :: (X.pn ++ pins))) [] σ6 H6 s6 → (∀ s7, Inv X pins (σ6.set i none) H6 s7 → Q s7) → wpAny (model X.prog X.w) X.A (do bindName X.env n .none; unbindBehindTheSuite X.env n pos') (fun _ s7 => Q s7) X.xe s6 :=
            fun S6 hq => gone_ok (S6.unsuite okX) nd hi hl hq
          cases fl with
          | ret u => exact z.elim fun v6 z => z.elim fun σ6 z => z.elim fun H6 z => close z.1 fun s7 J7 => ⟨_, _, _, J7, z.2.1, z.2.2⟩
          | next => exact z.elim fun σ6 z => z.elim fun H6 z => close z.1 fun s7 J7 => ⟨_, _, J7, z.2⟩
          | brk => exact z.elim fun σ6 z => z.elim fun H6 z => close z.1 fun s7 J7 => ⟨_, _, J7, z.2⟩
          | cont => exact z.elim fun σ6 z => z.elim fun H6 z => close z.1 fun s7 J7 => ⟨_, _, J7, z.2⟩
    exact go hh w
  · cases fl with
    | next => exact z.elim fun σ2 z => z.elim fun H2 z => wpAny_execs_nil ⟨σ2, H2, z.1.ofTry okX, z.2⟩
    | brk => exact z.elim fun σ2 z => z.elim fun H2 z => ⟨σ2, H2, z.1.ofTry okX, z.2⟩
    | cont => exact z.elim fun σ2 z => z.elim fun H2 z => ⟨σ2, H2, z.1.ofTry okX, z.2⟩
    | ret u => exact z.elim fun v z => z.elim fun σ2 z => z.elim fun H2 z => ⟨v, σ2, H2, z.1.ofTry okX, z.2.1, z.2.2⟩
end
end Mx

namespace Mx
open PySem PySem.Spec PyProof.Rows L2 Mc
/-! repr of any data, and calls of defs that show something -/
inductive ShowsV (K : PySem.W.Frag) (H : Hp) : V → Str → Prop
  | non : ShowsV K H .non "None"
  | bl (b : Bool) : ShowsV K H (.bl b) (if b then "True" else "False")
  | int {i : Int} (h : i.natAbs.log2 < 1920) : ShowsV K H (.int i) (toString i)
  | str {x : Str} (h : (reprText x).length ≤ sizeLine) : ShowsV K H (.str x) (reprText x)
  | ref {a : Addr} {d : PyData} (hd : Dp K H (.ref a) d) (hs : d.showable = true) (hx : d.hasDict = false) (hp : d.depth ≤ 40) (hz : d.shown.length ≤ sizeLine) : ShowsV K H (.ref a) d.shown
theorem dp_ext {K : PySem.W.Frag} {H H' : Hp} (e : ∀ b o, H b = some o → H' b = some o) {v : V} {d : PyData} (h : Dp K H v d) : Dp K H' v d := Dp.rec (motive_1 := fun v d _ => Dp K H' v d) (motive_2 := fun vs ds _ => DpAll K H' vs ds) .non .bl .int .str
  (fun s _ ih => .lst (s.imp (fun q => q.imp (e _ _) (fun ⟨o, q⟩ => ⟨o, e _ _ q⟩)) id) ih) (fun s _ ih => .tup (s.imp (fun q => q.imp (e _ _) (fun ⟨o, q⟩ => ⟨o, e _ _ q⟩)) id) ih) .nil (fun _ _ h1 h2 => .cons h1 h2) h
theorem ShowsV.ext {K : PySem.W.Frag} {H H' : Hp} (e : ∀ b o, H b = some o → H' b = some o) {v : V} {z : Str} (h : ShowsV K H v z) : ShowsV K H' v z := by
  cases h with
  | non => exact .non
  | bl b => exact .bl b
  | int h => exact .int h
  | str h => exact .str h
  | ref hd hs hx hp hz => exact .ref (dp_ext e hd) hs hx hp hz
def rReprA (K : PySem.W.Frag) : List V → Hp → VK → Prop := fun xs H Q => ∃ (v : V) (z : Str), xs = [v] ∧ ShowsV K H v z ∧ Q (.str z) H
theorem call_reprA {X : Cx} {K : PySem.W.Frag} (hg : X.A.guards = some []) (hu : X.A.units + 64 < cLine) (hK : X.K = K) : CallR X (.builtin "repr") (rReprA K) := by
  subst hK
  intro pins s σ H xs us Q I r h
  obtain ⟨v, z, rfl, hs, q⟩ := h
  cases r with
  | cons ru rn =>
    cases rn
    cases hs with
    | non =>
      cases ru
      exact PySem.P.repr_of_none ⟨.str _, H, I.tok _, ⟨_, rfl⟩, q⟩
    | bl b =>
      cases ru
      exact PySem.P.repr_of_bool ⟨.str _, H, I.tok _, ⟨_, rfl⟩, q⟩
    | int h =>
      obtain ⟨t, rfl⟩ := ru
      exact PySem.P.repr_of_int h ⟨.str _, H, I.tok _, ⟨_, rfl⟩, q⟩
    | str h =>
      obtain ⟨t, rfl⟩ := ru
      exact PySem.P.repr_of_str ⟨.str _, H, I.tok _, ⟨_, rfl⟩, q⟩ h
    | ref hd hs hx hp hz =>
      cases ru
      obtain ⟨as, R⟩ := Dp.reads I _ _ _ hd rfl
      exact repr_of_reads' R hs (fun e => by rw [hx] at e; cases e) hg (by omega) (fun b o e => e) (fun h' u tk hk => ⟨.str _, H, I.kept hk, ⟨u, rfl⟩, q⟩) hz
theorem ix_listK {X : Cx} {K : PySem.W.Frag} (hK : X.K = K) : IxR X (rIxL K) := hK ▸ ix_list
structure CalG (P : Program) (w : World) (K : PySem.W.Frag) (mg : Str → Option Value) (base : Heap) (k : Nat) (x : Str) (sp : Sp) : Prop where
  ex : ∃ (f : Addr) (fd : FuncData) (ps : List Str), FnG P w K mg base CX0 k f fd ps sp ∧ mg x = some (.ref f) ∧ PySem.W.keepIn K (.ref f) = true ∧ Binds K fd ps []
theorem calG_of {P : Program} {w : World} {K : PySem.W.Frag} {mg : Str → Option Value} {base : Heap} {x : Str} {st : Stmt} {N ps : List Str} {k : Nat} {sp : Sp} (D : Def K mg x st ps) (S : FnScope N ps (defScope st)) (len : ∀ vs H Q E, sp vs H Q E → vs.length = ps.length)
    (hbody : ∀ (f : Addr) (cdv : Value) (A : Around) (outer : List Env) (s : Shared) (H : Hp) (vs : List V) (Q : VK) (E : XK), A.guards = some [] → Room k (A.deeper (envOfC x (defScope st) s.heap.objs.size f cdv)) → sp vs H Q E →
      ∃ t, PSs (cxOf CX0 P w K mg base N x (defScope st) f cdv A outer s H E).nox (defBody st) t ∧ t { nx := fun _ H' => Q .non H', rt := Q } (start N vs) H) : CalG P w K mg base (k + 1) x sp := by
  obtain ⟨f, fd, F, hm, b⟩ := D.ex
  exact ⟨f, fd, ps, fnG_of F S len (hbody f), hm, F.kp, b⟩
section
variable {X : Cx} {k j : Nat} {x : Str} {sp : Sp} {p pos : Pos} {e : Expr} {es : List Expr} {t : TA}
theorem pe_fG (c : CalG X.prog X.w X.K X.mg X.base k x sp) (hgd : X.A.guards = some []) (hr : Room j X.A) (hk : k ≤ j) (hg : Gl X x) (ha : PA X (e :: es) t)
    (hdb : (x == ("__debug__" : Str)) = false := by decide) (he : starEach (e :: es) X.env = (false, eval e X.env) :: starEach es X.env := by rfl) (hpl : (backTo pos (starEach es X.env)).any (·.1) = false := by rfl) :
    PE X (.Call (.Name x p) (e :: es) [] pos) (tCall sp [] E0 t) := by
  obtain ⟨f, fd, ps, G, hm, kp, b⟩ := c.ex
  refine ⟨fun pins s σ H Q I h => wpAny_Call_Name_kw (ld_glob I hg hm (PySem.W.callWith_K (h₀ := X.base) I.ok.mod.kin kp (thn (ha.run pos pins s σ H _ I h) fun us s1 ⟨vs, H1, I1, r, q⟩ => ⟨I1.kIn, ?_⟩) he hpl) hdb)⟩
  have q : sp vs H1 Q E0 := by
    have q : sp (vs ++ []) H1 Q E0 := q
    rw [List.append_nil] at q
    exact q
  have hl : us.length = ps.length := by
    rw [← r.length]
    exact G.len _ _ _ _ q
  have bb := b s1 us I1.kIn (by rw [List.append_nil]; exact hl)
  rw [List.append_nil] at bb
  refine wpAny_call (codeAny_mono (G.run X.A X.stack s1 H1 ⟨us, []⟩ us vs Q E0 hgd (hr.mono hk) I1.env0 bb r q) fun r s' z => ?_)
  cases r with
  | error e => exact False.elim z
  | ok fl =>
    cases fl with
    | ret u => exact I1.after z
    | next => exact z.elim
    | brk => exact z.elim
    | cont => exact z.elim
theorem pe_f0 (c : Cal X.prog X.w X.K X.mg X.base k x sp) (hr : Room j X.A) (hk : k ≤ j) (hg : Gl X x) (hdb : (x == ("__debug__" : Str)) = false := by decide) : PE X (.Call (.Name x p) [] [] pos) (tCall sp [] E0 tNil) := by
  obtain ⟨f, fd, ps, G, hm, kp, b⟩ := c.ex
  exact pe_call0 G (hr.mono hk) hg hm kp b .nil pass0 hdb
end
end Mx

namespace K2
open PySem PySem.Spec PyProof.Rows L2 Mc
def top (i : Nat) : Stmt := PySem.Challenge.pw_mostcalls_k07_parts_refused.main.body.getD i (.Pass ⟨0, 0, 0, 0⟩)
abbrev s_is_integer : Stmt := top 3
abbrev N_is_integer : List Str := ["value"]
theorem sc_is_integer : FnScope N_is_integer ["value"] (defScope s_is_integer) := ⟨rfl, rfl, rfl, by decide +kernel, rfl, by decide +kernel, by decide +kernel⟩
abbrev s_is_between : Stmt := top 4
abbrev N_is_between : List Str := ["value", "least", "most"]
theorem sc_is_between : FnScope N_is_between ["value", "least", "most"] (defScope s_is_between) := ⟨rfl, rfl, rfl, by decide +kernel, rfl, by decide +kernel, by decide +kernel⟩
abbrev s_is_name : Stmt := top 5
abbrev N_is_name : List Str := ["value", "sign"]
theorem sc_is_name : FnScope N_is_name ["value"] (defScope s_is_name) := ⟨rfl, rfl, rfl, by decide +kernel, rfl, by decide +kernel, by decide +kernel⟩
abbrev s_is_part : Stmt := top 9
abbrev N_is_part : List Str := ["value"]
theorem sc_is_part : FnScope N_is_part ["value"] (defScope s_is_part) := ⟨rfl, rfl, rfl, by decide +kernel, rfl, by decide +kernel, by decide +kernel⟩
abbrev s_is_call : Stmt := top 10
abbrev N_is_call : List Str := ["part"]
theorem sc_is_call : FnScope N_is_call ["part"] (defScope s_is_call) := ⟨rfl, rfl, rfl, by decide +kernel, rfl, by decide +kernel, by decide +kernel⟩
abbrev s_holds_blocks : Stmt := top 11
abbrev N_holds_blocks : List Str := ["value"]
theorem sc_holds_blocks : FnScope N_holds_blocks ["value"] (defScope s_holds_blocks) := ⟨rfl, rfl, rfl, by decide +kernel, rfl, by decide +kernel, by decide +kernel⟩
abbrev s_parts_in_order : Stmt := top 12
abbrev N_parts_in_order : List Str := ["block", "around", "found", "part", "inner"]
theorem sc_parts_in_order : FnScope N_parts_in_order ["block", "around"] (defScope s_parts_in_order) := ⟨rfl, rfl, rfl, by decide +kernel, rfl, by decide +kernel, by decide +kernel⟩
abbrev s_calls_in_order : Stmt := top 13
abbrev N_calls_in_order : List Str := ["block", "part", "_"]
theorem sc_calls_in_order : FnScope N_calls_in_order ["block"] (defScope s_calls_in_order) := ⟨rfl, rfl, rfl, by decide +kernel, rfl, by decide +kernel, by decide +kernel⟩
abbrev s_block_span : Stmt := top 14
abbrev N_block_span : List Str := ["block", "policies", "part"]
theorem sc_block_span : FnScope N_block_span ["block", "policies"] (defScope s_block_span) := ⟨rfl, rfl, rfl, by decide +kernel, rfl, by decide +kernel, by decide +kernel⟩
abbrev s_part_span : Stmt := top 15
abbrev N_part_span : List Str := ["part", "policies", "inner"]
theorem sc_part_span : FnScope N_part_span ["part", "policies"] (defScope s_part_span) := ⟨rfl, rfl, rfl, by decide +kernel, rfl, by decide +kernel, by decide +kernel⟩
abbrev s_call_span : Stmt := top 16
abbrev N_call_span : List Str := ["policy"]
theorem sc_call_span : FnScope N_call_span ["policy"] (defScope s_call_span) := ⟨rfl, rfl, rfl, by decide +kernel, rfl, by decide +kernel, by decide +kernel⟩
abbrev s_InvalidPartinit : Stmt := inClass (top 22) 0
abbrev N_InvalidPartinit : List Str := ["self", "service", "place", "__class__"]
theorem sc_InvalidPartinit : NdefX.NScope N_InvalidPartinit ["self", "service", "place"] ["__class__"] (defScope s_InvalidPartinit) := NdefX.nscope_by (by decide +kernel)
abbrev s_UnknownNameinit : Stmt := inClass (top 23) 0
abbrev N_UnknownNameinit : List Str := ["self", "value", "__class__"]
theorem sc_UnknownNameinit : NdefX.NScope N_UnknownNameinit ["self", "value"] ["__class__"] (defScope s_UnknownNameinit) := NdefX.nscope_by (by decide +kernel)
abbrev s_Policyinit : Stmt := inClass (top 29) 0
abbrev N_Policyinit : List Str := ["self", "name", "limit", "tries", "pauses", "early", "lossy", "ending", "field"]
theorem sc_Policyinit : FnScope N_Policyinit ["self", "name", "limit", "tries", "pauses", "early", "lossy", "ending"] (defScope s_Policyinit) := ⟨rfl, rfl, rfl, by decide +kernel, rfl, by decide +kernel, by decide +kernel⟩
abbrev s_Policy_name : Stmt := inClass (top 29) 1
abbrev N_Policy_name : List Str := ["self"]
theorem sc_Policy_name : FnScope N_Policy_name ["self"] (defScope s_Policy_name) := ⟨rfl, rfl, rfl, by decide +kernel, rfl, by decide +kernel, by decide +kernel⟩
abbrev s_Policy_limit : Stmt := inClass (top 29) 2
abbrev N_Policy_limit : List Str := ["self"]
theorem sc_Policy_limit : FnScope N_Policy_limit ["self"] (defScope s_Policy_limit) := ⟨rfl, rfl, rfl, by decide +kernel, rfl, by decide +kernel, by decide +kernel⟩
abbrev s_Policy_tries : Stmt := inClass (top 29) 3
abbrev N_Policy_tries : List Str := ["self"]
theorem sc_Policy_tries : FnScope N_Policy_tries ["self"] (defScope s_Policy_tries) := ⟨rfl, rfl, rfl, by decide +kernel, rfl, by decide +kernel, by decide +kernel⟩
abbrev s_Policy_pauses : Stmt := inClass (top 29) 4
abbrev N_Policy_pauses : List Str := ["self"]
theorem sc_Policy_pauses : FnScope N_Policy_pauses ["self"] (defScope s_Policy_pauses) := ⟨rfl, rfl, rfl, by decide +kernel, rfl, by decide +kernel, by decide +kernel⟩
abbrev s_Policy_early : Stmt := inClass (top 29) 5
abbrev N_Policy_early : List Str := ["self"]
theorem sc_Policy_early : FnScope N_Policy_early ["self"] (defScope s_Policy_early) := ⟨rfl, rfl, rfl, by decide +kernel, rfl, by decide +kernel, by decide +kernel⟩
abbrev s_accepts : Stmt := top 30
abbrev N_accepts : List Str := ["field", "value"]
theorem sc_accepts : FnScope N_accepts ["field", "value"] (defScope s_accepts) := ⟨rfl, rfl, rfl, by decide +kernel, rfl, by decide +kernel, by decide +kernel⟩
abbrev s_wrong_field : Stmt := top 31
abbrev N_wrong_field : List Str := ["limit", "tries", "pauses", "early", "lossy", "ending"]
theorem sc_wrong_field : FnScope N_wrong_field ["limit", "tries", "pauses", "early", "lossy", "ending"] (defScope s_wrong_field) := ⟨rfl, rfl, rfl, by decide +kernel, rfl, by decide +kernel, by decide +kernel⟩
abbrev s_are_pauses : Stmt := top 32
abbrev N_are_pauses : List Str := ["value", "tries", "ticks"]
theorem sc_are_pauses : FnScope N_are_pauses ["value", "tries"] (defScope s_are_pauses) := ⟨rfl, rfl, rfl, by decide +kernel, rfl, by decide +kernel, by decide +kernel⟩
abbrev s_is_ending : Stmt := top 33
abbrev N_is_ending : List Str := ["value"]
theorem sc_is_ending : FnScope N_is_ending ["value"] (defScope s_is_ending) := ⟨rfl, rfl, rfl, by decide +kernel, rfl, by decide +kernel, by decide +kernel⟩
abbrev s_all_pauses : Stmt := top 34
abbrev N_all_pauses : List Str := ["tries", "pauses", "early"]
theorem sc_all_pauses : FnScope N_all_pauses ["tries", "pauses", "early"] (defScope s_all_pauses) := ⟨rfl, rfl, rfl, by decide +kernel, rfl, by decide +kernel, by decide +kernel⟩
abbrev s_Systeminit : Stmt := inClass (top 40) 0
abbrev N_Systeminit : List Str := ["self", "policies", "services", "policy", "name", "block", "ticks"]
theorem sc_Systeminit : FnScope N_Systeminit ["self", "policies", "services"] (defScope s_Systeminit) := ⟨rfl, rfl, rfl, by decide +kernel, rfl, by decide +kernel, by decide +kernel⟩
abbrev s_check_policies : Stmt := top 41
abbrev N_check_policies : List Str := ["policies", "ahead", "number", "policy"]
theorem sc_check_policies : FnScope N_check_policies ["policies"] (defScope s_check_policies) := ⟨rfl, rfl, rfl, by decide +kernel, rfl, by decide +kernel, by decide +kernel⟩
abbrev s_check_services : Stmt := top 42
abbrev N_check_services : List Str := ["services", "ahead", "number", "row"]
theorem sc_check_services : FnScope N_check_services ["services"] (defScope s_check_services) := ⟨rfl, rfl, rfl, by decide +kernel, rfl, by decide +kernel, by decide +kernel⟩
abbrev s_is_service : Stmt := top 43
abbrev N_is_service : List Str := ["row"]
theorem sc_is_service : FnScope N_is_service ["row"] (defScope s_is_service) := ⟨rfl, rfl, rfl, by decide +kernel, rfl, by decide +kernel, by decide +kernel⟩
abbrev s_check_parts : Stmt := top 44
abbrev N_check_parts : List Str := ["service", "block", "place", "part", "around", "is_too_deep"]
theorem sc_check_parts : FnScope N_check_parts ["service", "block"] (defScope s_check_parts) := ⟨rfl, rfl, rfl, by decide +kernel, rfl, by decide +kernel, by decide +kernel⟩
abbrev s_check_names : Stmt := top 45
abbrev N_check_names : List Str := ["block", "ahead", "policies", "_", "callee", "policy"]
theorem sc_check_names : FnScope N_check_names ["block", "ahead", "policies"] (defScope s_check_names) := ⟨rfl, rfl, rfl, by decide +kernel, rfl, by decide +kernel, by decide +kernel⟩
abbrev s_law_pool : Stmt := top 47
abbrev N_law_pool : List Str := ["_law_script", "_law_k", "_law_cell", "_law_seed"]
theorem sc_law_pool : FnScope N_law_pool ["_law_script", "_law_k"] (defScope s_law_pool) := ⟨rfl, rfl, rfl, by decide +kernel, rfl, by decide +kernel, by decide +kernel⟩
abbrev s_law_draw : Stmt := top 48
abbrev N_law_draw : List Str := ["_law_pool_here", "_law_many_here", "_law_digit"]
theorem sc_law_draw : FnScope N_law_draw ["_law_pool_here", "_law_many_here"] (defScope s_law_draw) := ⟨rfl, rfl, rfl, by decide +kernel, rfl, by decide +kernel, by decide +kernel⟩
abbrev s_law_told : Stmt := top 49
abbrev N_law_told : List Str := ["_law_block", "e"]
theorem sc_law_told : FnScope N_law_told ["_law_block"] (defScope s_law_told) := ⟨rfl, rfl, rfl, by decide +kernel, rfl, by decide +kernel, by decide +kernel⟩
abbrev s_law_odd : Stmt := top 50
abbrev N_law_odd : List Str := ["_law_pool_here", "_law_some"]
theorem sc_law_odd : FnScope N_law_odd ["_law_pool_here"] (defScope s_law_odd) := ⟨rfl, rfl, rfl, by decide +kernel, rfl, by decide +kernel, by decide +kernel⟩
abbrev s_law_tree : Stmt := top 51
abbrev N_law_tree : List Str := ["_law_pool_here", "_law_depth", "_law_way", "_law_block", "_law_turn"]
theorem sc_law_tree : FnScope N_law_tree ["_law_pool_here", "_law_depth"] (defScope s_law_tree) := ⟨rfl, rfl, rfl, by decide +kernel, rfl, by decide +kernel, by decide +kernel⟩
abbrev s_law_bent : Stmt := top 52
abbrev N_law_bent : List Str := ["_law_block", "_law_at", "_law_odd_here", "_law_count", "_law_found", "_law_part", "_law_number", "_law_inner", "_law_parts", "_law_one"]
theorem sc_law_bent : FnScope N_law_bent ["_law_block", "_law_at", "_law_odd_here", "_law_count"] (defScope s_law_bent) := ⟨rfl, rfl, rfl, by decide +kernel, rfl, by decide +kernel, by decide +kernel⟩
abbrev s_law_first : Stmt := top 53
abbrev N_law_first : List Str := ["_law_block", "_law_at", "_law_depth", "_law_count", "_law_part", "_law_number", "_law_inner", "_law_found"]
theorem sc_law_first : FnScope N_law_first ["_law_block", "_law_at", "_law_depth", "_law_count"] (defScope s_law_first) := ⟨rfl, rfl, rfl, by decide +kernel, rfl, by decide +kernel, by decide +kernel⟩
abbrev s_law_many : Stmt := top 54
abbrev N_law_many : List Str := ["_law_block", "_law_inner", "_law_part"]
theorem sc_law_many : FnScope N_law_many ["_law_block"] (defScope s_law_many) := ⟨rfl, rfl, rfl, by decide +kernel, rfl, by decide +kernel, by decide +kernel⟩
abbrev s_law : Stmt := top 55
abbrev N_law : List Str := ["_law_script", "_law_k", "_law_pool_here", "_law_turn", "_law_block", "_law_place", "_law_at", "_law_odd_here", "_law_first_here", "_law_told_here"]
theorem sc_law : FnScope N_law ["_law_script"] (defScope s_law) := ⟨rfl, rfl, rfl, by decide +kernel, rfl, by decide +kernel, by decide +kernel⟩

def letters : Str := "abcdefghijklmnopqrstuvwxyz"
/-- what the top has left -/
structure Txt (K : PySem.W.Frag) (mg : Str → Option Value) : Prop where
  n_isinstance : mg "isinstance" = none
  n_int : mg "int" = none
  n_bool : mg "bool" = none
  n_str : mg "str" = none
  n_tuple : mg "tuple" = none
  n_len : mg "len" = none
  n_all : mg "all" = none
  n_range : mg "range" = none
  n_repr : mg "repr" = none
  n_max : mg "max" = none
  n_min : mg "min" = none
  n_list : mg "list" = none
  n_enumerate : mg "enumerate" = none
  n_sum : mg "sum" = none
  g_LETTERS : ∃ u, mg "LETTERS" = some u ∧ RelV (.str letters) u
  g_MOST_LIMIT : ∃ u, mg "MOST_LIMIT" = some u ∧ RelV (.int 20) u
  g_MOST_TRIES : ∃ u, mg "MOST_TRIES" = some u ∧ RelV (.int 3) u
  g_MOST_TICKS : ∃ u, mg "MOST_TICKS" = some u ∧ RelV (.int 20) u
  g_MOST_AROUND : ∃ u, mg "MOST_AROUND" = some u ∧ RelV (.int 1) u
  g_MOST_POLICIES : ∃ u, mg "MOST_POLICIES" = some u ∧ RelV (.int 8) u
  g_MOST_SERVICES : ∃ u, mg "MOST_SERVICES" = some u ∧ RelV (.int 6) u
  g_MOST_PARTS : ∃ u, mg "MOST_PARTS" = some u ∧ RelV (.int 12) u
  g_MOST_SPAN : ∃ u, mg "MOST_SPAN" = some u ∧ RelV (.int 400) u
section
variable {P : Program} {w : World} {K : PySem.W.Frag} {mg : Str → Option Value} {base : Heap}
local macro_rules | `(tactic| walk_at "rd1") => `(tactic| first
  | with_reducible refine g_seq ?_
  | with_reducible refine g_asg ?_
  | with_reducible refine g_name ?_
  | with_reducible refine g_c ?_
  | with_reducible refine g_op ?_
  | with_reducible refine g_ifS ?_
  | with_reducible refine g_if ?_
  | with_reducible refine g_test ?_
  | with_reducible refine g_B ?_
  | with_reducible refine g_bl ?_
  | with_reducible refine g_blV ?_
  | with_reducible refine g_not ?_
  | with_reducible refine g_and ?_
  | with_reducible refine g_or ?_
  | with_reducible refine g_notV ?_
  | with_reducible refine g_andV ?_
  | with_reducible refine g_orV ?_
  | with_reducible refine g_ret ?_
  | with_reducible refine g_drop ?_
  | with_reducible refine g_next ?_
  | with_reducible refine g_retN ?_
  | with_reducible refine g_call ?_
  | with_reducible refine g_cb ?_
  | with_reducible refine g_cons ?_
  | with_reducible refine g_nil ?_
  | with_reducible refine g_tup ?_
  | with_reducible refine g_lst ?_
  | with_reducible refine g_prop ?_
  | with_reducible refine g_fld ?_
  | with_reducible refine g_meth ?_
  | with_reducible refine g_chain ?_
  | with_reducible refine g_yes ?_
  | with_reducible refine g_make ?_
  | with_reducible refine g_makeK ?_
  | with_reducible refine g_gsub ?_
  | with_reducible refine g_sfld ?_
  | with_reducible refine g_un ?_
  | with_reducible refine g_bm ?_
  | with_reducible refine g_iteT ?_
  | with_reducible refine g_iteF ?_
  | with_reducible refine g_I0 ?_
  | with_reducible refine g_add ?_
  | with_reducible refine g_sub ?_
  | ((with_reducible refine' g_var ?hv ?_); (case hv => rfl))
  | ((with_reducible refine g_eq ?hv ?_); (case hv => rfl))
  | ((with_reducible refine g_ne ?hv ?_); (case hv => rfl)))
local macro_rules | `(tactic| walk_at "rd") => `(tactic| repeat (walk_at "rd1"))

local macro_rules | `(tactic| walk_at "ty") => `(tactic| first | exact .non | exact .bl _ | exact .int _ | exact .str _ | exact .lst (by assumption) | exact .tup (by assumption) | exact .dK (by assumption) | exact .kTup (by assumption) (by assumption))
local macro_rules | `(tactic| walk_at "isiF") => `(tactic| refine g_isi (by walk_at "ty") (b := false) (by decide +kernel) ?_)
local macro_rules | `(tactic| walk_at "isiT") => `(tactic| refine g_isi (by walk_at "ty") (b := true) (by decide +kernel) ?_)

theorem ok_is_integer (T : Txt K mg) (D : Def K mg "is_integer" s_is_integer ["value"]) : Cal P w K mg base 1 "is_integer" (spIsInt K) := by
  refine cal_of D sc_is_integer (fun vs H Q E h => ?_) (fun f cdv A outer s H vs Q E hr h => ?_)
  · obtain ⟨v, n, rfl, _⟩ := h
    rfl
  · obtain ⟨v, n, rfl, ty, q⟩ := h
    refine ⟨_, (pss_one (ps_ret (pe_and (pe_callB call_isi (by rfl) T.n_isinstance (by decide +kernel) (pa_cons (pv 0) (pa_cons (pe_ty "int" (by rfl) T.n_int (by decide +kernel)) pa_nil))) (pe_one (pe_not (pe_callB call_isi (by rfl) T.n_isinstance (by decide +kernel) (pa_cons (pv 0) (pa_cons (pe_ty "bool" (by rfl) T.n_bool (by decide +kernel)) pa_nil)))))))), ?_⟩
    walk_at "rd"
    refine g_isi ty (kb_int ty.mem) ?_
    walk_at "rd"
    have e : ∀ b, Q (.bl b) H → b = isI v → Q (.bl (isI v)) H := fun b q e => e ▸ q
    cases ty with
    | int i => simp; walk_at "rd"; refine g_isi (.int i) (kb_bool (by decide)) ?_; walk_at "rd"; exact q
    | bl i => simp; walk_at "rd"; refine g_isi (.bl i) (kb_bool (by decide)) ?_; walk_at "rd"; exact q
    | non => simp; exact q
    | str z => simp; exact q
    | lst z => simp; exact q
    | tup z => simp; exact q
    | dK z => simp; exact q
    | kTup z c => simp; exact q
theorem ok_is_between (T : Txt K mg) (D : Def K mg "is_between" s_is_between ["value", "least", "most"]) (c_is_integer : Cal P w K mg base 1 "is_integer" (spIsInt K)) : Cal P w K mg base 2 "is_between" (spBtw K) := by
  refine cal_of D sc_is_between (fun vs H Q E h => ?_) (fun f cdv A outer s H vs Q E hr h => ?_)
  · obtain ⟨v, n, a, b, rfl, _⟩ := h
    rfl
  · obtain ⟨v, n, a, b, rfl, ty, q⟩ := h
    refine ⟨_, (pss_one (ps_ret (pe_and (pe_f c_is_integer hr (by decide) (by rfl) (pa_cons (pv 0) pa_nil)) (pe_one (pe_chain op_le op_le (pv 1) (pv 0) (pv 2)))))), ?_⟩
    walk_at "rd"
    refine ⟨v, n, rfl, ty, ?_⟩
    walk_at "rd"
    cases ty with
    | int i =>
      show (if true = true then _ else _)
      walk_at "rd"
      refine g_ite (fun e => ?_) (fun e => ?_)
      · walk_at "rd"
        have z : btw (.int i) a b = decide (i ≤ b) := by show (decide (a ≤ i) && decide (i ≤ b)) = _; rw [e]; rfl
        rw [z] at q
        exact q
      · have z : btw (.int i) a b = false := by show (decide (a ≤ i) && decide (i ≤ b)) = _; rw [e]; rfl
        rw [z] at q
        exact q
    | bl i => exact q
    | non => exact q
    | str z => exact q
    | lst z => exact q
    | tup z => exact q
    | dK z => exact q
    | kTup z c => exact q
end
end K2

namespace K2
open PySem PySem.Spec PyProof.Rows L2 Mc
section
variable {P : Program} {w : World} {K : PySem.W.Frag} {mg : Str → Option Value} {base : Heap}
local macro_rules | `(tactic| walk_at "rd1") => `(tactic| first
  | with_reducible refine g_seq ?_
  | with_reducible refine g_asg ?_
  | with_reducible refine g_name ?_
  | with_reducible refine g_c ?_
  | with_reducible refine g_op ?_
  | with_reducible refine g_ifS ?_
  | with_reducible refine g_if ?_
  | with_reducible refine g_test ?_
  | with_reducible refine g_B ?_
  | with_reducible refine g_bl ?_
  | with_reducible refine g_blV ?_
  | with_reducible refine g_not ?_
  | with_reducible refine g_and ?_
  | with_reducible refine g_or ?_
  | with_reducible refine g_notV ?_
  | with_reducible refine g_andV ?_
  | with_reducible refine g_orV ?_
  | with_reducible refine g_ret ?_
  | with_reducible refine g_drop ?_
  | with_reducible refine g_next ?_
  | with_reducible refine g_retN ?_
  | with_reducible refine g_call ?_
  | with_reducible refine g_cb ?_
  | with_reducible refine g_cons ?_
  | with_reducible refine g_nil ?_
  | with_reducible refine g_tup ?_
  | with_reducible refine g_lst ?_
  | with_reducible refine g_prop ?_
  | with_reducible refine g_fld ?_
  | with_reducible refine g_meth ?_
  | with_reducible refine g_chain ?_
  | with_reducible refine g_yes ?_
  | with_reducible refine g_make ?_
  | with_reducible refine g_makeK ?_
  | with_reducible refine g_gsub ?_
  | with_reducible refine g_sfld ?_
  | with_reducible refine g_un ?_
  | with_reducible refine g_bm ?_
  | with_reducible refine g_iteT ?_
  | with_reducible refine g_iteF ?_
  | with_reducible refine g_I0 ?_
  | with_reducible refine g_add ?_
  | with_reducible refine g_sub ?_
  | ((with_reducible refine' g_var ?hv ?_); (case hv => rfl))
  | ((with_reducible refine g_eq ?hv ?_); (case hv => rfl))
  | ((with_reducible refine g_ne ?hv ?_); (case hv => rfl)))
local macro_rules | `(tactic| walk_at "rd") => `(tactic| repeat (walk_at "rd1"))

local macro_rules | `(tactic| walk_at "ty") => `(tactic| first | exact .non | exact .bl _ | exact .int _ | exact .str _ | exact .lst (by assumption) | exact .tup (by assumption) | exact .dK (by assumption) | exact .kTup (by assumption) (by assumption))
local macro_rules | `(tactic| walk_at "isiF") => `(tactic| refine g_isi (by walk_at "ty") (b := false) (by decide +kernel) ?_)
local macro_rules | `(tactic| walk_at "isiT") => `(tactic| refine g_isi (by walk_at "ty") (b := true) (by decide +kernel) ?_)

def sgn (c : Nat) : Bool := decide (c ∈ letters.cps.toList)
def isNm (z : Str) : Bool := decide ((1 : Int) ≤ z.length) && (decide ((z.length : Int) ≤ 8) && z.cps.toList.all sgn)
def nmV : V → Bool
  | .str z => isNm z
  | _ => false
def spName (K : PySem.W.Frag) : Sp := fun vs H Q _ => ∃ v n, vs = [v] ∧ Mc.TyB K H v n ∧ (∀ z, v = .str z → z.length ≤ 1000) ∧ ∀ H', Same H H' → Q (.bl (nmV v)) H'
theorem same_new {H : Hp} {p : Addr} {o : HO} (h : H p = none) : Same H (upd H p o) := fun b u e => by rw [upd_ne (ne_of_none e h)]; exact e
theorem sz_le {n : Nat} (h : n ≤ 1000) : n ≤ sizeLine := Nat.le_trans h (by decide)
theorem take_map {α : Type} {xs : List α} {i : Nat} {x : α} (f : α → V) (h : xs[i]? = some x) : (xs.take i).map f ++ [f x] = (xs.take (i + 1)).map f := by
  rw [List.take_add_one, h, List.map_append]
  rfl
theorem all_id {α : Type} (xs : List α) (f : α → Bool) : ((xs.map f).all id) = xs.all f := by rw [List.all_map]; rfl

theorem ok_is_name (T : Txt K mg) (D : Def K mg "is_name" s_is_name ["value"]) : Cal P w K mg base 1 "is_name" (spName K) := by
  refine cal_of D sc_is_name (fun vs H Q E h => ?_) (fun f cdv A outer s H vs Q E hr h => ?_)
  · obtain ⟨v, n, rfl, _⟩ := h
    rfl
  · obtain ⟨v, n, rfl, ty, hz, q⟩ := h
    refine ⟨_, (pss_one (ps_ret (pe_and (pe_callB call_isi (by rfl) T.n_isinstance (by decide +kernel) (pa_cons (pv 0) (pa_cons (pe_ty "str" (by rfl) T.n_str (by decide +kernel)) pa_nil))) (pe_and (pe_chain op_le op_le pe_int (pe_callB call_len_str (by rfl) T.n_len (by decide +kernel) (pa_cons (pv 0) pa_nil)) pe_int) (pe_one (pe_callB (cr_all rfl) (by rfl) T.n_all (by decide +kernel) (pa_cons (pe_lc (own := [("sign", 1)]) (g := gName 1) (by rfl) sc_is_name.nd (pi_str (pv 0)) (blkOk_by (own := [("sign", 1)]) (N := N_is_name) (sc := defScope s_is_name) (by decide +kernel)) (fun _ _ _ _ _ => pg_name (i := 1) sc_is_name.nd rfl (Or.inl rfl)) (fun _ _ _ _ _ => pts_nil) (fun _ _ _ _ _ => (pe_cmpR op_in_sign (pv 1) (pe_gx rfl T.g_LETTERS) (by rfl)))) pa_nil))))))), ?_⟩
    walk_at "rd"
    have q0 := q H (Same.refl H)
    cases ty
    case str z =>
      have hl := hz z rfl
      refine g_isi (.str z) (b := true) (by decide +kernel) ?_
      walk_at "rd"
      refine ⟨z, rfl, sz_le hl, ?_⟩
      walk_at "rd"
      refine g_ite (fun e1 => ?_) (fun e1 => ?_)
      · walk_at "rd"
        refine g_ite (fun e2 => ?_) (fun e2 => ?_)
        · walk_at "rd"
          refine ⟨_, rfl, _, rfl, fun L hL => ?_⟩
          refine lc_it walk_str (fun i H' => H' = upd H L (.lst ((z.cps.toList.take i).map fun c => .bl (sgn c)))) rfl (fun _ _ _ _ => trivial) ?_ ?_
          · rintro i x H0 H1 hi rfl ⟨rfl, c, hc, rfl⟩
            walk_at "rd"
            refine ⟨rfl, ?_⟩
            walk_at "rd"
            refine ⟨c, letters, rfl, rfl, _, upd_same, ?_, ?_⟩
            · rw [List.length_map, List.length_take]
              exact small1000 (Nat.le_trans (Nat.min_le_right _ _) (by simpa [Str.length] using hl))
            · have hc' : z.cps.toList[i]? = some c := by rw [Array.getElem?_toList]; exact hc
              rw [upd_upd]
              exact congrArg (fun l => upd H L (.lst l)) (take_map (fun c => V.bl (sgn c)) hc')
          · rintro H1 rfl
            refine ⟨L, z.cps.toList.map sgn, rfl, SqL.of ?_, ?_⟩
            · rw [upd_same, List.take_of_length_le (by simp), List.map_map]
              rfl
            · have e : nmV (.str z) = ((z.cps.toList.map sgn).all id) := by
                show (decide ((1 : Int) ≤ z.length) && (decide ((z.length : Int) ≤ 8) && z.cps.toList.all sgn)) = _
                rw [e1, e2, all_id]
                rfl
              rw [← e]
              exact q _ (same_new hL)
        · have e : nmV (.str z) = false := by
            show (decide ((1 : Int) ≤ z.length) && (decide ((z.length : Int) ≤ 8) && z.cps.toList.all sgn)) = _
            rw [e1, e2]
            rfl
          rw [e] at q0
          exact q0
      · walk_at "rd"
        have e : nmV (.str z) = false := by
          show (decide ((1 : Int) ≤ z.length) && (decide ((z.length : Int) ≤ 8) && z.cps.toList.all sgn)) = _
          rw [e1]
          rfl
        rw [e] at q0
        exact q0
    all_goals (walk_at "isiF"; walk_at "rd"; exact q0)
end
end K2

namespace K2
open PySem PySem.Spec PyProof.Rows L2 Mc
section
variable {P : Program} {w : World} {K : PySem.W.Frag} {mg : Str → Option Value} {base : Heap}
local macro_rules | `(tactic| walk_at "rd1") => `(tactic| first
  | with_reducible refine g_seq ?_
  | with_reducible refine g_asg ?_
  | with_reducible refine g_name ?_
  | with_reducible refine g_c ?_
  | with_reducible refine g_op ?_
  | with_reducible refine g_ifS ?_
  | with_reducible refine g_if ?_
  | with_reducible refine g_test ?_
  | with_reducible refine g_B ?_
  | with_reducible refine g_bl ?_
  | with_reducible refine g_blV ?_
  | with_reducible refine g_not ?_
  | with_reducible refine g_and ?_
  | with_reducible refine g_or ?_
  | with_reducible refine g_notV ?_
  | with_reducible refine g_andV ?_
  | with_reducible refine g_orV ?_
  | with_reducible refine g_ret ?_
  | with_reducible refine g_drop ?_
  | with_reducible refine g_next ?_
  | with_reducible refine g_retN ?_
  | with_reducible refine g_call ?_
  | with_reducible refine g_cb ?_
  | with_reducible refine g_cons ?_
  | with_reducible refine g_nil ?_
  | with_reducible refine g_tup ?_
  | with_reducible refine g_lst ?_
  | with_reducible refine g_prop ?_
  | with_reducible refine g_fld ?_
  | with_reducible refine g_meth ?_
  | with_reducible refine g_chain ?_
  | with_reducible refine g_yes ?_
  | with_reducible refine g_make ?_
  | with_reducible refine g_makeK ?_
  | with_reducible refine g_gsub ?_
  | with_reducible refine g_sfld ?_
  | with_reducible refine g_un ?_
  | with_reducible refine g_bm ?_
  | with_reducible refine g_iteT ?_
  | with_reducible refine g_iteF ?_
  | with_reducible refine g_I0 ?_
  | with_reducible refine g_add ?_
  | with_reducible refine g_sub ?_
  | ((with_reducible refine' g_var ?hv ?_); (case hv => rfl))
  | ((with_reducible refine g_eq ?hv ?_); (case hv => rfl))
  | ((with_reducible refine g_ne ?hv ?_); (case hv => rfl)))
local macro_rules | `(tactic| walk_at "rd") => `(tactic| repeat (walk_at "rd1"))

local macro_rules | `(tactic| walk_at "ty") => `(tactic| first | exact .non | exact .bl _ | exact .int _ | exact .str _ | exact .lst (by assumption) | exact .tup (by assumption) | exact .dK (by assumption) | exact .kTup (by assumption) (by assumption))
local macro_rules | `(tactic| walk_at "isiF") => `(tactic| refine g_isi (by walk_at "ty") (b := false) (by decide +kernel) ?_)
local macro_rules | `(tactic| walk_at "isiT") => `(tactic| refine g_isi (by walk_at "ty") (b := true) (by decide +kernel) ?_)

/-- a tuple's value: its kind, its items -/
structure TupV (K : PySem.W.Frag) (H : Hp) (a : Addr) (xs : List V) : Prop where
  ty : Mc.TyB K H (.ref a) "tuple"
  sq : SqT K H a xs
theorem TyB.ext {H H' : Hp} {v : V} {n : String} (e : Same H H') (h : Mc.TyB K H v n) : Mc.TyB K H' v n := by
  cases h with
  | non => exact .non
  | bl b => exact .bl b
  | int i => exact .int i
  | str z => exact .str z
  | lst z => exact .lst (e _ _ z)
  | tup z => exact .tup (e _ _ z)
  | dK z => exact .dK (e _ _ z)
  | kTup z c => exact .kTup z c
theorem sqT_ext {H H' : Hp} {a : Addr} {xs : List V} (e : Same H H') (h : SqT K H a xs) : SqT K H' a xs := by
  rcases h with (h | ⟨o, h⟩) | h
  · exact .inl (.inl (e _ _ h))
  · exact .inl (.inr ⟨o, e _ _ h⟩)
  · exact .inr h
theorem TupV.ext {H H' : Hp} {a : Addr} {xs : List V} (e : Same H H') (h : TupV K H a xs) : TupV K H' a xs := ⟨TyB.ext e h.ty, sqT_ext e h.sq⟩
def Typed (K : PySem.W.Frag) (H : Hp) (xs : List V) : Prop := ∀ x ∈ xs, ∃ n, Mc.TyB K H x n

def arePz (xs : List V) (t : Int) : Bool := decide (V.int (xs.length : Int) = V.int (t - 1)) && xs.all fun x => btw x 0 8
def spAre (K : PySem.W.Frag) : Sp := fun vs H Q _ => ∃ v t, vs = [v, .int t] ∧
  ((∃ n, Mc.TyB K H v n ∧ n ≠ "tuple" ∧ Q (.bl false) H) ∨ (∃ a xs, v = .ref a ∧ TupV K H a xs ∧ Typed K H xs ∧ xs.length ≤ 1000 ∧ ∀ H', Same H H' → Q (.bl (arePz xs t)) H'))

theorem ok_are_pauses (T : Txt K mg) (D : Def K mg "_are_pauses" s_are_pauses ["value", "tries"]) (c_is_between : Cal P w K mg base 2 "is_between" (spBtw K)) : Cal P w K mg base 3 "_are_pauses" (spAre K) := by
  refine cal_of D sc_are_pauses (fun vs H Q E h => ?_) (fun f cdv A outer s H vs Q E hr h => ?_)
  · obtain ⟨v, t, rfl, _⟩ := h
    rfl
  · obtain ⟨v, t, rfl, h⟩ := h
    refine ⟨_, (pss_one (ps_ret (pe_and (pe_callB call_isi (by rfl) T.n_isinstance (by decide +kernel) (pa_cons (pv 0) (pa_cons (pe_ty "tuple" (by rfl) T.n_tuple (by decide +kernel)) pa_nil))) (pe_and (pe_cmpR op_eq (pe_callB call_len_seq (by rfl) T.n_len (by decide +kernel) (pa_cons (pv 0) pa_nil)) (pe_op op_sub (pv 1) pe_int) (nomark _)) (pe_one (pe_callB (cr_all rfl) (by rfl) T.n_all (by decide +kernel) (pa_cons (pe_lc (own := [("ticks", 2)]) (g := gName 2) (by rfl) sc_are_pauses.nd (pi_tup (pv 0)) (blkOk_by (own := [("ticks", 2)]) (N := N_are_pauses) (sc := defScope s_are_pauses) (by decide +kernel)) (fun _ _ _ _ _ => pg_name (i := 2) sc_are_pauses.nd rfl (Or.inl rfl)) (fun _ _ _ _ _ => pts_nil) (fun _ _ _ _ _ => (pe_f c_is_between hr (by decide) (by rfl) (pa_cons (pv 2) (pa_cons pe_int (pa_cons pe_int pa_nil)))))) pa_nil))))))), ?_⟩
    walk_at "rd"
    rcases h with ⟨n, ty, hn, q⟩ | ⟨a, xs, rfl, tv, typ, hl, q⟩
    · refine g_isi ty (kb_tuple ty.mem) ?_
      have e : (n == "tuple") = false := by simpa using hn
      rw [e]
      walk_at "rd"
      exact q
    · refine g_isi tv.ty (b := true) (by decide +kernel) ?_
      walk_at "rd"
      refine ⟨a, xs, rfl, .inr tv.sq, ?_⟩
      walk_at "rd"
      have e0 : arePz xs t = (decide (V.int (xs.length : Int) = V.int (t - 1)) && xs.all fun x => btw x 0 8) := rfl
      refine g_ite (fun e1 => ?_) (fun e1 => ?_)
      · walk_at "rd"
        refine ⟨_, rfl, _, rfl, ⟨_, tv.sq⟩, fun L hL => ?_⟩
        refine lc_tup (K := K) (a := a) (xs := xs) (fun i H' => H' = upd H L (.lst ((xs.take i).map fun x => .bl (btw x 0 8)))) rfl (fun i H' _ e => by subst e; exact sqT_ext (same_new hL) tv.sq) ?_ ?_
        · rintro i x H0 hx rfl
          walk_at "rd"
          refine ⟨rfl, ?_⟩
          walk_at "rd"
          obtain ⟨n, tx⟩ := typ x (List.mem_of_getElem? hx)
          refine ⟨x, n, 0, 8, rfl, TyB.ext (same_new hL) tx, _, upd_same, ?_, ?_⟩
          · rw [List.length_map, List.length_take]
            exact small1000 (Nat.le_trans (Nat.min_le_right _ _) hl)
          · rw [upd_upd]
            exact congrArg (fun l => upd H L (.lst l)) (take_map (fun x => V.bl (btw x 0 8)) hx)
        · rintro H1 rfl
          refine ⟨L, xs.map fun x => btw x 0 8, rfl, SqL.of ?_, ?_⟩
          · rw [upd_same, List.take_of_length_le (Nat.le_refl _), List.map_map]
            rfl
          · have e : arePz xs t = ((xs.map fun x => btw x 0 8).all id) := by rw [e0, e1, all_id]; rfl
            rw [← e]
            exact q _ (same_new hL)
      · walk_at "rd"
        have e : arePz xs t = false := by rw [e0, e1]; rfl
        have q0 := q H (Same.refl H)
        rw [e] at q0
        exact q0

def sStop : Str := "stop"
def sGo : Str := "go"
def sDeadline : Str := "deadline"
def endOk : List V → Bool
  | .str z :: r => if z = sStop then decide (r.length = 1) && r.all (fun x => btw x 0 20) else decide (r.length = 0) && inV (.str z) [.str sGo, .str sDeadline]
  | _ => false
def spEnd (K : PySem.W.Frag) : Sp := fun vs H Q _ => ∃ v, vs = [v] ∧
  ((∃ n, Mc.TyB K H v n ∧ n ≠ "tuple" ∧ Q (.bl false) H) ∨ (∃ a xs, v = .ref a ∧ TupV K H a xs ∧ Typed K H xs ∧ xs.length ≤ 1000 ∧ ∀ H', Same H H' → Q (.bl (endOk xs)) H'))
theorem ok_is_ending (T : Txt K mg) (D : Def K mg "_is_ending" s_is_ending ["value"]) (c_is_between : Cal P w K mg base 2 "is_between" (spBtw K)) : Cal P w K mg base 3 "_is_ending" (spEnd K) := by
  refine cal_of D sc_is_ending (fun vs H Q E h => ?_) (fun f cdv A outer s H vs Q E hr h => ?_)
  · obtain ⟨v, rfl, _⟩ := h
    rfl
  · obtain ⟨v, rfl, h⟩ := h
    refine ⟨_, (pss_cons (ps_if (PW.pt (pw_or (pt_not (pt_val (pe_callB call_isi (by rfl) T.n_isinstance (by decide +kernel) (pa_cons (pv 0) (pa_cons (pe_ty "tuple" (by rfl) T.n_tuple (by decide +kernel)) pa_nil))))) (pw_or (pt_cmpR op_eq (pe_callB call_len_seq (by rfl) T.n_len (by decide +kernel) (pa_cons (pv 0) pa_nil)) pe_int (nomark _)) (pw_or1 (pt_not (pt_val (pe_callB call_isi (by rfl) T.n_isinstance (by decide +kernel) (pa_cons (pe_ix ix_tup (pv 0) pe_int (fun _ _ => rfl)) (pa_cons (pe_ty "str" (by rfl) T.n_str (by decide +kernel)) pa_nil))))))))) (pss_one (ps_ret pe_bl)) pss_nil)
      (pss_cons (ps_if (pt_cmpR op_eq (pe_ix ix_tup (pv 0) pe_int (fun _ _ => rfl)) pe_str (nomark _)) (pss_one (ps_ret (pe_and (pe_cmpR op_eq (pe_callB call_len_seq (by rfl) T.n_len (by decide +kernel) (pa_cons (pv 0) pa_nil)) pe_int (nomark _)) (pe_one (pe_f c_is_between hr (by decide) (by rfl) (pa_cons (pe_ix ix_tup (pv 0) pe_int (fun _ _ => rfl)) (pa_cons pe_int (pa_cons pe_int pa_nil)))))))) pss_nil)
      (pss_one (ps_ret (pe_and (pe_cmpR op_eq (pe_callB call_len_seq (by rfl) T.n_len (by decide +kernel) (pa_cons (pv 0) pa_nil)) pe_int (nomark _)) (pe_one (pe_cmpR op_in_seq (pe_ix ix_tup (pv 0) pe_int (fun _ _ => rfl)) (pe_tup (pa_cons pe_str (pa_cons pe_str pa_nil))) (by rfl)))))))), ?_⟩
    walk_at "rd"
    rcases h with ⟨n, ty, hn, q⟩ | ⟨a, xs, rfl, tv, typ, hl, q⟩
    · refine g_isi ty (kb_tuple ty.mem) ?_
      have e : (n == "tuple") = false := by simpa using hn
      rw [e]
      walk_at "rd"
      exact q
    · refine g_isi tv.ty (b := true) (by decide +kernel) ?_
      walk_at "rd"
      show (if false = true then _ else _)
      walk_at "rd"
      refine ⟨a, xs, rfl, .inr tv.sq, ?_⟩
      walk_at "rd"
      have q0 := q H (Same.refl H)
      match xs, q, tv, typ, hl, q0 with
      | [], q, tv, typ, hl, q0 =>
        show (if true = true then _ else _)
        walk_at "rd"
        exact q0
      | x :: r, q, tv, typ, hl, q0 =>
        have e1 : decide (V.int (((x :: r).length : Nat) : Int) = V.int 0) = false := decide_eq_false (by intro z; injection z with z; simp at z; omega)
        rw [e1]
        walk_at "rd"
        refine g_ixT tv.sq (v := x) (atI_nat (j := 0) rfl) ?_
        walk_at "rd"
        obtain ⟨n, tx⟩ := typ x (List.mem_cons_self ..)
        refine g_isi tx (kb_str tx.mem) ?_
        walk_at "rd"
        cases tx
        case str z =>
          show (if false = true then _ else _)
          walk_at "rd"
          refine g_ixT tv.sq (v := .str z) (atI_nat (j := 0) rfl) ?_
          walk_at "rd"
          refine g_ite (fun e => ?_) (fun e => ?_)
          · have ez : z = sStop := by injection (of_decide_eq_true e)
            have eq : endOk (.str z :: r) = (decide (r.length = 1) && r.all (fun x => btw x 0 20)) := by
              show (if z = sStop then _ else _) = _
              rw [if_pos ez]
            walk_at "rd"
            refine ⟨a, _, rfl, .inr tv.sq, ?_⟩
            walk_at "rd"
            match r, q, tv, typ, eq, q0 with
            | [], q, tv, typ, eq, q0 =>
              show (if false = true then _ else _)
              walk_at "rd"
              rw [eq] at q0
              exact q0
            | [y], q, tv, typ, eq, q0 =>
              show (if true = true then _ else _)
              walk_at "rd"
              refine g_ixT tv.sq (v := y) (atI_nat (j := 1) rfl) ?_
              walk_at "rd"
              obtain ⟨m, ty⟩ := typ y (List.mem_cons_of_mem _ (List.mem_cons_self ..))
              refine ⟨y, m, 0, 20, rfl, ty, ?_⟩
              have e3 : endOk [.str z, y] = btw y 0 20 := by
                rw [eq]
                show (true && (btw y 0 20 && true)) = _
                rw [Bool.and_true]
                rfl
              rw [e3] at q0
              exact q0
            | y :: y2 :: r, q, tv, typ, eq, q0 =>
              have e4 : decide (V.int (((V.str z :: y :: y2 :: r).length : Nat) : Int) = V.int 2) = false := decide_eq_false (by intro k; injection k with k; simp at k; omega)
              rw [e4]
              walk_at "rd"
              have e5 : endOk (.str z :: y :: y2 :: r) = false := by
                rw [eq, decide_eq_false (by simp)]
                rfl
              rw [e5] at q0
              exact q0
          · have ez : z ≠ sStop := fun k => absurd e (by rw [k]; decide)
            have eq : endOk (.str z :: r) = (decide (r.length = 0) && inV (.str z) [.str sGo, .str sDeadline]) := by
              show (if z = sStop then _ else _) = _
              rw [if_neg ez]
            walk_at "rd"
            refine ⟨a, _, rfl, .inr tv.sq, ?_⟩
            walk_at "rd"
            refine g_ite (fun e6 => ?_) (fun e6 => ?_)
            · walk_at "rd"
              refine g_ixT tv.sq (v := .str z) (atI_nat (j := 0) rfl) ?_
              walk_at "rd"
              refine ⟨(by show 2 ≤ sizeLine; decide), fun p hp => ?_⟩
              refine ⟨p, _, rfl, .inr (SqT.of upd_same), rfl, rfl, ?_⟩
              have e7 : decide (r.length = 0) = true := by
                have k := of_decide_eq_true e6
                injection k with k
                simp at k
                exact decide_eq_true (by omega)
              rw [e7, Bool.true_and] at eq
              rw [eq] at q
              exact q _ (same_new hp)
            · have e7 : decide (r.length = 0) = false := decide_eq_false (fun k => absurd e6 (by simp [k]))
              rw [eq, e7] at q0
              walk_at "rd"
              exact q0
        all_goals
          show (if true = true then _ else _)
          walk_at "rd"
          exact q0
end
end K2

namespace K2
open PySem PySem.Spec PyProof.Rows L2 Mc
section
variable {P : Program} {w : World} {K : PySem.W.Frag} {mg : Str → Option Value} {base : Heap}
local macro_rules | `(tactic| walk_at "rd1") => `(tactic| first
  | with_reducible refine g_seq ?_
  | with_reducible refine g_asg ?_
  | with_reducible refine g_name ?_
  | with_reducible refine g_c ?_
  | with_reducible refine g_op ?_
  | with_reducible refine g_ifS ?_
  | with_reducible refine g_if ?_
  | with_reducible refine g_test ?_
  | with_reducible refine g_B ?_
  | with_reducible refine g_bl ?_
  | with_reducible refine g_blV ?_
  | with_reducible refine g_not ?_
  | with_reducible refine g_and ?_
  | with_reducible refine g_or ?_
  | with_reducible refine g_notV ?_
  | with_reducible refine g_andV ?_
  | with_reducible refine g_orV ?_
  | with_reducible refine g_ret ?_
  | with_reducible refine g_drop ?_
  | with_reducible refine g_next ?_
  | with_reducible refine g_retN ?_
  | with_reducible refine g_call ?_
  | with_reducible refine g_cb ?_
  | with_reducible refine g_cons ?_
  | with_reducible refine g_nil ?_
  | with_reducible refine g_tup ?_
  | with_reducible refine g_lst ?_
  | with_reducible refine g_prop ?_
  | with_reducible refine g_fld ?_
  | with_reducible refine g_meth ?_
  | with_reducible refine g_chain ?_
  | with_reducible refine g_yes ?_
  | with_reducible refine g_make ?_
  | with_reducible refine g_makeK ?_
  | with_reducible refine g_gsub ?_
  | with_reducible refine g_sfld ?_
  | with_reducible refine g_un ?_
  | with_reducible refine g_bm ?_
  | with_reducible refine g_iteT ?_
  | with_reducible refine g_iteF ?_
  | with_reducible refine g_I0 ?_
  | with_reducible refine g_add ?_
  | with_reducible refine g_sub ?_
  | ((with_reducible refine' g_var ?hv ?_); (case hv => rfl))
  | ((with_reducible refine g_eq ?hv ?_); (case hv => rfl))
  | ((with_reducible refine g_ne ?hv ?_); (case hv => rfl)))
local macro_rules | `(tactic| walk_at "rd") => `(tactic| repeat (walk_at "rd1"))

local macro_rules | `(tactic| walk_at "ty") => `(tactic| first | exact .non | exact .bl _ | exact .int _ | exact .str _ | exact .lst (by assumption) | exact .tup (by assumption) | exact .dK (by assumption) | exact .kTup (by assumption) (by assumption))
local macro_rules | `(tactic| walk_at "isiF") => `(tactic| refine g_isi (by walk_at "ty") (b := false) (by decide +kernel) ?_)
local macro_rules | `(tactic| walk_at "isiT") => `(tactic| refine g_isi (by walk_at "ty") (b := true) (by decide +kernel) ?_)

def spAll (K : PySem.W.Frag) : Sp := fun vs H Q _ => ∃ t p e, vs = [.int t, p, e] ∧ 1 ≤ t ∧ t ≤ 1000 ∧
  (e ≠ .non → ∀ q H', Same H H' → H' q = some (.tup []) → Q (.ref q) H') ∧
  (e = .non → p = .non → ∀ q H', Same H H' → H' q = some (.tup (List.replicate (t - 1).toNat (.int 0))) → Q (.ref q) H') ∧
  (e = .non → p ≠ .non → Q p H)
theorem ok_all_pauses (T : Txt K mg) (D : Def K mg "_all_pauses" s_all_pauses ["tries", "pauses", "early"]) : Cal P w K mg base 1 "_all_pauses" (spAll K) := by
  refine cal_of D sc_all_pauses (fun vs H Q E h => ?_) (fun f cdv A outer s H vs Q E hr h => ?_)
  · obtain ⟨t, p, e, rfl, _⟩ := h
    rfl
  · obtain ⟨t, p, e, rfl, t1, t2, q1, q2, q3⟩ := h
    refine ⟨_, (pss_cons (ps_if (pt_cmpR op_notN (pv 2) pe_non (nomark _)) (pss_one (ps_ret (pe_tup pa_nil))) pss_nil)
      (pss_cons (ps_if (pt_cmpR op_isN (pv 1) pe_non (nomark _)) (pss_one (ps_ret (pe_op op_repS (pe_tup (pa_cons pe_int pa_nil)) (pe_op op_sub (pv 0) pe_int)))) pss_nil)
      (pss_one (ps_ret (pv 1))))), ?_⟩
    walk_at "rd"
    refine ⟨rfl, ?_⟩
    walk_at "rd"
    by_cases he : e = .non
    · subst he
      show (if false = true then _ else _)
      walk_at "rd"
      refine ⟨rfl, ?_⟩
      walk_at "rd"
      by_cases hp : p = .non
      · subst hp
        show (if true = true then _ else _)
        walk_at "rd"
        refine ⟨(by show 1 ≤ sizeLine; decide), fun a ha => ?_⟩
        walk_at "rd"
        refine ⟨a, t - 1, .int 0, rfl, rfl, SqT.of upd_same, by omega, by omega, fun e => ?_, fun e b hb => ?_⟩
        · refine q2 rfl rfl _ _ (same_new ha) ?_
          rw [upd_same, e]
          rfl
        · refine q2 rfl rfl _ _ (Same.trans (same_new ha) (same_new hb)) ?_
          rw [upd_same]
      · rw [decide_eq_false hp]
        walk_at "rd"
        exact q3 rfl hp
    · rw [decide_eq_false he]
      show (if true = true then _ else _)
      walk_at "rd"
      refine ⟨(by show 0 ≤ sizeLine; decide), fun a ha => ?_⟩
      exact q1 he _ _ (same_new ha) upd_same

def isB : V → Bool
  | .bl _ => true
  | _ => false
def gt1 : V → Bool
  | .int i => decide (1 < i)
  | _ => false
def wfV (l t p e y : V) (pb gb : Bool) : V :=
  if btw l 1 20 then if btw t 1 3 then
    if !decide (p = .non) && !(decide (e = .non) && pb) then .str "pauses" else
    if !decide (e = .non) && !(gt1 t && btw e 1 20) then .str "early" else
    if isB y then (if gb then .non else .str "ending") else .str "lossy"
  else .str "tries" else .str "limit"
def SeqR (K : PySem.W.Frag) (H : Hp) (v : V) (f : List V → Bool) (b : Bool) : Prop :=
  (∃ n, Mc.TyB K H v n ∧ n ≠ "tuple" ∧ b = false) ∨ (∃ a xs, v = .ref a ∧ TupV K H a xs ∧ Typed K H xs ∧ xs.length ≤ 1000 ∧ b = f xs)
theorem Typed.ext {H H' : Hp} {xs : List V} (e : Same H H') (h : Typed K H xs) : Typed K H' xs := fun x hx => (h x hx).elim fun n t => ⟨n, TyB.ext e t⟩
theorem SeqR.ext {H H' : Hp} {v : V} {f : List V → Bool} {b : Bool} (e : Same H H') (h : SeqR K H v f b) : SeqR K H' v f b := by
  rcases h with ⟨n, t, hn, hb⟩ | ⟨a, xs, ev, tv, ty, hl, hb⟩
  · exact .inl ⟨n, TyB.ext e t, hn, hb⟩
  · exact .inr ⟨a, xs, ev, TupV.ext e tv, Typed.ext e ty, hl, hb⟩
theorem SeqR.are {H : Hp} {Q : VK} {E : XK} {v : V} {t : Int} {b : Bool} (h : SeqR K H v (fun xs => arePz xs t) b) (q : ∀ H', Same H H' → Q (.bl b) H') : spAre K [v, .int t] H Q E := by
  refine ⟨v, t, rfl, ?_⟩
  rcases h with ⟨n, ty, hn, rfl⟩ | ⟨a, xs, ev, tv, ty, hl, rfl⟩
  · exact .inl ⟨n, ty, hn, q H (Same.refl H)⟩
  · exact .inr ⟨a, xs, ev, tv, ty, hl, q⟩
theorem SeqR.en {H : Hp} {Q : VK} {E : XK} {v : V} {b : Bool} (h : SeqR K H v endOk b) (q : ∀ H', Same H H' → Q (.bl b) H') : spEnd K [v] H Q E := by
  refine ⟨v, rfl, ?_⟩
  rcases h with ⟨n, ty, hn, rfl⟩ | ⟨a, xs, ev, tv, ty, hl, rfl⟩
  · exact .inl ⟨n, ty, hn, q H (Same.refl H)⟩
  · exact .inr ⟨a, xs, ev, tv, ty, hl, q⟩
def spWrong (K : PySem.W.Frag) : Sp := fun vs H Q _ => ∃ l t p e y g n1 n2 n3 n4 pb gb, vs = [l, t, p, e, y, g] ∧ Mc.TyB K H l n1 ∧ Mc.TyB K H t n2 ∧ Mc.TyB K H e n3 ∧ Mc.TyB K H y n4 ∧
  (∀ i, t = .int i → SeqR K H p (fun xs => arePz xs i) pb) ∧ SeqR K H g endOk gb ∧ ∀ H', Same H H' → Q (wfV l t p e y pb gb) H'
theorem btw_int {v : V} {a b : Int} (h : btw v a b = true) : ∃ i, v = .int i := by
  cases v <;> first | exact ⟨_, rfl⟩ | exact Bool.noConfusion h
theorem isB_ty {H : Hp} {v : V} {n : String} (h : Mc.TyB K H v n) : isB v = (n == "bool") := by
  cases h <;> rfl

def spAcc (K : PySem.W.Frag) : Sp := fun vs H Q _ => ∃ f v, vs = [.str f, v] ∧ ((f = "limit" ∧ ∃ n, Mc.TyB K H v n ∧ Q (.bl (btw v 1 20)) H) ∨ (f = "tries" ∧ ∃ n, Mc.TyB K H v n ∧ Q (.bl (btw v 1 3)) H) ∨
  (f = "ending" ∧ ∃ gb, SeqR K H v endOk gb ∧ ∀ H', Same H H' → Q (.bl gb) H'))
theorem ok_accepts (T : Txt K mg) (D : Def K mg "accepts" s_accepts ["field", "value"]) (c_is_between : Cal P w K mg base 2 "is_between" (spBtw K))
    (c_is_ending : Cal P w K mg base 3 "_is_ending" (spEnd K)) : Cal P w K mg base 4 "accepts" (spAcc K) := by
  refine cal_of D sc_accepts (fun vs H Q E h => ?_) (fun f cdv A outer s H vs Q E hr h => ?_)
  · obtain ⟨f, v, rfl, _⟩ := h
    rfl
  · obtain ⟨f, v, rfl, h⟩ := h
    refine ⟨_, (pss_cons (ps_if (pt_cmpR op_eq (pv 0) pe_str (nomark _)) (pss_one (ps_ret (pe_f c_is_between hr (by decide) (by rfl) (pa_cons (pv 1) (pa_cons pe_int (pa_cons (pe_gx rfl T.g_MOST_LIMIT) pa_nil)))))) pss_nil)
      (pss_cons (ps_if (pt_cmpR op_eq (pv 0) pe_str (nomark _)) (pss_one (ps_ret (pe_f c_is_between hr (by decide) (by rfl) (pa_cons (pv 1) (pa_cons pe_int (pa_cons (pe_gx rfl T.g_MOST_TRIES) pa_nil)))))) pss_nil)
      (pss_one (ps_ret (pe_and (pe_cmpR op_eq (pv 0) pe_str (nomark _)) (pe_one (pe_f c_is_ending hr (by decide) (by rfl) (pa_cons (pv 1) pa_nil)))))))), ?_⟩
    have n1 : decide (V.str "tries" = V.str "limit") = false := decide_eq_false (fun z => absurd (V.str.inj z) (by decide))
    have n2 : decide (V.str "ending" = V.str "limit") = false := decide_eq_false (fun z => absurd (V.str.inj z) (by decide))
    have n3 : decide (V.str "ending" = V.str "tries") = false := decide_eq_false (fun z => absurd (V.str.inj z) (by decide))
    rcases h with ⟨rfl, n, ty, q⟩ | ⟨rfl, n, ty, q⟩ | ⟨rfl, gb, sq, q⟩
    · walk_at "rd"
      rw [decide_eq_true (Eq.refl (V.str "limit"))]
      walk_at "rd"
      refine ⟨v, n, 1, 20, rfl, ty, ?_⟩
      walk_at "rd"
      exact q
    · walk_at "rd"
      rw [n1]
      walk_at "rd"
      rw [decide_eq_true (Eq.refl (V.str "tries"))]
      walk_at "rd"
      refine ⟨v, n, 1, 3, rfl, ty, ?_⟩
      walk_at "rd"
      exact q
    · walk_at "rd"
      rw [n2]
      walk_at "rd"
      rw [n3]
      walk_at "rd"
      rw [decide_eq_true (Eq.refl (V.str "ending"))]
      walk_at "rd"
      refine SeqR.en sq fun H2 S2 => ?_
      walk_at "rd"
      exact q _ S2
theorem ok_wrong_field (T : Txt K mg) (D : Def K mg "_wrong_field" s_wrong_field ["limit", "tries", "pauses", "early", "lossy", "ending"]) (c_is_between : Cal P w K mg base 2 "is_between" (spBtw K))
    (c_are_pauses : Cal P w K mg base 3 "_are_pauses" (spAre K)) (c_accepts : Cal P w K mg base 4 "accepts" (spAcc K)) : Cal P w K mg base 5 "_wrong_field" (spWrong K) := by
  refine cal_of D sc_wrong_field (fun vs H Q E h => ?_) (fun f cdv A outer s H vs Q E hr h => ?_)
  · obtain ⟨l, t, p, e, y, g, _, _, _, _, _, _, rfl, _⟩ := h
    rfl
  · obtain ⟨l, t, p, e, y, g, n1, n2, n3, n4, pb, gb, rfl, t1, t2, t3, t4, hp, hg, q⟩ := h
    refine ⟨_, (pss_cons (ps_if (pt_not (pt_val (pe_f c_accepts hr (by decide) (by rfl) (pa_cons pe_str (pa_cons (pv 0) pa_nil))))) (pss_one (ps_ret pe_str)) pss_nil)
      (pss_cons (ps_if (pt_not (pt_val (pe_f c_accepts hr (by decide) (by rfl) (pa_cons pe_str (pa_cons (pv 1) pa_nil))))) (pss_one (ps_ret pe_str)) pss_nil)
      (pss_cons (ps_if (PW.pt (pw_and (pt_cmpR op_notN (pv 2) pe_non (nomark _)) (pw_and1 (pt_not (PW.pt (pw_and (pt_cmpR op_isN (pv 3) pe_non (nomark _)) (pw_and1 (pt_val (pe_f c_are_pauses hr (by decide) (by rfl) (pa_cons (pv 2) (pa_cons (pv 1) pa_nil))))))))))) (pss_one (ps_ret pe_str)) pss_nil)
      (pss_cons (ps_if (PW.pt (pw_and (pt_cmpR op_notN (pv 3) pe_non (nomark _)) (pw_and1 (pt_not (PW.pt (pw_and (pt_cmpR op_gt (pv 1) pe_int (nomark _)) (pw_and1 (pt_val (pe_f c_is_between hr (by decide) (by rfl) (pa_cons (pv 3) (pa_cons pe_int (pa_cons pe_int pa_nil)))))))))))) (pss_one (ps_ret pe_str)) pss_nil)
      (pss_cons (ps_if (pt_not (pt_val (pe_callB call_isi (by rfl) T.n_isinstance (by decide +kernel) (pa_cons (pv 4) (pa_cons (pe_ty "bool" (by rfl) T.n_bool (by decide +kernel)) pa_nil))))) (pss_one (ps_ret pe_str)) pss_nil)
      (pss_cons (ps_if (pt_not (pt_val (pe_f c_accepts hr (by decide) (by rfl) (pa_cons pe_str (pa_cons (pv 5) pa_nil))))) (pss_one (ps_ret pe_str)) pss_nil)
      (pss_one (ps_ret pe_non)))))))), ?_⟩
    walk_at "rd"
    refine ⟨_, l, rfl, .inl ⟨rfl, n1, t1, ?_⟩⟩
    walk_at "rd"
    unfold wfV at q
    cases e1 : btw l 1 20
    · rw [e1] at q
      show (if true = true then _ else _)
      walk_at "rd"
      exact q H (Same.refl H)
    rw [e1] at q
    show (if false = true then _ else _)
    walk_at "rd"
    refine ⟨_, t, rfl, .inr (.inl ⟨rfl, n2, t2, ?_⟩)⟩
    walk_at "rd"
    cases e2 : btw t 1 3
    · rw [e2] at q
      show (if true = true then _ else _)
      walk_at "rd"
      exact q H (Same.refl H)
    rw [e2] at q
    obtain ⟨i, rfl⟩ := btw_int e2
    have hp := hp i rfl
    show (if false = true then _ else _)
    walk_at "rd"
    refine ⟨rfl, ?_⟩
    walk_at "rd"
    have S := Same.refl H
    by_cases hen : e = .non
    · subst hen
      by_cases hpn : p = .non
      · subst hpn
        show (if false = true then _ else _)
        walk_at "rd"
        refine ⟨rfl, ?_⟩
        walk_at "rd"
        show (if false = true then _ else _)
        walk_at "rd"
        refine g_isi (TyB.ext S t4) (kb_bool t4.mem) ?_
        rw [isB_ty t4] at q
        walk_at "rd"
        cases ey : (n4 == "bool")
        · rw [ey] at q
          show (if true = true then _ else _)
          walk_at "rd"
          exact q _ S
        · rw [ey] at q
          show (if false = true then _ else _)
          walk_at "rd"
          refine ⟨_, g, rfl, .inr (.inr ⟨rfl, gb, SeqR.ext S hg, fun H2 S2 => ?_⟩)⟩
          walk_at "rd"
          cases gb
          · show (if true = true then _ else _)
            walk_at "rd"
            exact q _ (Same.trans S S2)
          · show (if false = true then _ else _)
            walk_at "rd"
            exact q _ (Same.trans S S2)
      · rw [decide_eq_false hpn]
        rw [decide_eq_false hpn] at q
        show (if true = true then _ else _)
        walk_at "rd"
        refine ⟨rfl, ?_⟩
        walk_at "rd"
        show (if true = true then _ else _)
        walk_at "rd"
        refine hp.are fun H1 S1 => ?_
        walk_at "rd"
        cases pb
        · show (if true = true then _ else _)
          walk_at "rd"
          exact q H1 S1
        · show (if false = true then _ else _)
          walk_at "rd"
          refine ⟨rfl, ?_⟩
          walk_at "rd"
          show (if false = true then _ else _)
          walk_at "rd"
          have S := S1
          refine g_isi (TyB.ext S t4) (kb_bool t4.mem) ?_
          rw [isB_ty t4] at q
          walk_at "rd"
          cases ey : (n4 == "bool")
          · rw [ey] at q
            show (if true = true then _ else _)
            walk_at "rd"
            exact q _ S
          · rw [ey] at q
            show (if false = true then _ else _)
            walk_at "rd"
            refine ⟨_, g, rfl, .inr (.inr ⟨rfl, gb, SeqR.ext S hg, fun H2 S2 => ?_⟩)⟩
            walk_at "rd"
            cases gb
            · show (if true = true then _ else _)
              walk_at "rd"
              exact q _ (Same.trans S S2)
            · show (if false = true then _ else _)
              walk_at "rd"
              exact q _ (Same.trans S S2)
    · rw [decide_eq_false hen] at q
      by_cases hpn : p = .non
      · subst hpn
        show (if false = true then _ else _)
        walk_at "rd"
        refine ⟨rfl, ?_⟩
        walk_at "rd"
        rw [decide_eq_false hen]
        show (if true = true then _ else _)
        walk_at "rd"
        have eg : gt1 (.int i) = decide (1 < i) := rfl
        rw [eg] at q
        refine g_ite (fun e3 => ?_) (fun e3 => ?_)
        · walk_at "rd"
          refine ⟨e, n3, 1, 20, rfl, t3, ?_⟩
          walk_at "rd"
          rw [e3] at q
          cases e4 : btw e 1 20
          · rw [e4] at q
            show (if true = true then _ else _)
            walk_at "rd"
            exact q H S
          · rw [e4] at q
            show (if false = true then _ else _)
            walk_at "rd"
            refine g_isi (TyB.ext S t4) (kb_bool t4.mem) ?_
            rw [isB_ty t4] at q
            walk_at "rd"
            cases ey : (n4 == "bool")
            · rw [ey] at q
              show (if true = true then _ else _)
              walk_at "rd"
              exact q _ S
            · rw [ey] at q
              show (if false = true then _ else _)
              walk_at "rd"
              refine ⟨_, g, rfl, .inr (.inr ⟨rfl, gb, SeqR.ext S hg, fun H2 S2 => ?_⟩)⟩
              walk_at "rd"
              cases gb
              · show (if true = true then _ else _)
                walk_at "rd"
                exact q _ (Same.trans S S2)
              · show (if false = true then _ else _)
                walk_at "rd"
                exact q _ (Same.trans S S2)
        · rw [e3] at q
          walk_at "rd"
          show (if true = true then _ else _)
          walk_at "rd"
          exact q H S
      · rw [decide_eq_false hpn]
        rw [decide_eq_false hpn] at q
        show (if true = true then _ else _)
        walk_at "rd"
        refine ⟨rfl, ?_⟩
        walk_at "rd"
        rw [decide_eq_false hen]
        show (if false = true then _ else _)
        walk_at "rd"
        show (if true = true then _ else _)
        walk_at "rd"
        exact q H S
end
end K2

namespace K2
open PySem PySem.Spec PyProof.Rows L2 Mc
/-! ### a policy as data -/
inductive En where
  | go | deadline | stop (d : Int)
def En.vs : En → List V
  | .go => [.str sGo]
  | .deadline => [.str sDeadline]
  | .stop d => [.str sStop, .int d]
def En.ds : En → List PyData
  | .go => [.str sGo]
  | .deadline => [.str sDeadline]
  | .stop d => [.str sStop, .int d]
def En.ok : En → Prop
  | .stop d => 0 ≤ d ∧ d ≤ 20
  | _ => True
structure Pol where
  z : Str
  l : Int
  t : Int
  ps : List Int
  e : Option Int
  b : Bool
  g : En
def eV : Option Int → V
  | none => .non
  | some i => .int i
def eD : Option Int → PyData
  | none => .none
  | some i => .int i
def Pol.ds (q : Pol) : List PyData := [.str q.z, .int q.l, .int q.t, .tuple (q.ps.map .int), eD q.e, .bool q.b, .tuple q.g.ds]
def Pol.vs (q : Pol) (pa ga : Addr) : List V := [.str q.z, .int q.l, .int q.t, .ref pa, eV q.e, .bl q.b, .ref ga]
structure Pol.ok (q : Pol) : Prop where
  nm : isNm q.z = true
  nl : q.z.length ≤ 1000
  l1 : 1 ≤ q.l
  l2 : q.l ≤ 20
  t1 : 1 ≤ q.t
  t2 : q.t ≤ 3
  e1 : ∀ i, q.e = some i → 2 ≤ q.t ∧ 1 ≤ i ∧ i ≤ 20 ∧ q.ps = []
  e0 : q.e = none → (q.ps.length : Int) = q.t - 1 ∧ ∀ i ∈ q.ps, 0 ≤ i ∧ i ≤ 8
  g1 : q.g.ok
def pfs (n l t p e y g : V) : List (Str × V) := [("_name", n), ("_limit", l), ("_tries", t), ("_pauses", p), ("_early", e), ("_lossy", y), ("_ending", g)]
def Pol.fs (q : Pol) (pa ga : Addr) : List (Str × V) := pfs (.str q.z) (.int q.l) (.int q.t) (.ref pa) (eV q.e) (.bl q.b) (.ref ga)
structure Tups (K : PySem.W.Frag) (H : Hp) (q : Pol) (pa ga : Addr) : Prop where
  p : TupV K H pa (q.ps.map V.int)
  g : TupV K H ga q.g.vs
theorem Tups.ext {K : PySem.W.Frag} {H H' : Hp} {q : Pol} {pa ga : Addr} (e : Same H H') (h : Tups K H q pa ga) : Tups K H' q pa ga := ⟨TupV.ext e h.p, TupV.ext e h.g⟩
def PolAt (K : PySem.W.Frag) (C : Addr) (H : Hp) (a : Addr) (q : Pol) : Prop := ∃ dx pa ga, H a = some (.ins C dx (q.fs pa ga)) ∧ Tups K H q pa ga
theorem PolAt.ext {K : PySem.W.Frag} {C : Addr} {H H' : Hp} {a : Addr} {q : Pol} (e : Same H H') (h : PolAt K C H a q) : PolAt K C H' a q := by
  obtain ⟨dx, pa, ga, h1, h2⟩ := h
  exact ⟨dx, pa, ga, e _ _ h1, h2.ext e⟩

theorem endOk_ok {g : En} (h : g.ok) : endOk g.vs = true := by
  cases g with
  | go => decide +kernel
  | deadline => decide +kernel
  | stop d =>
    have h1 : 0 ≤ d := h.1
    have h2 : d ≤ 20 := h.2
    simp [En.vs, endOk, btw, h1, h2]
theorem typed_en {K : PySem.W.Frag} {H : Hp} {g : En} : Typed K H g.vs := by
  intro x hx
  cases g <;> simp [En.vs] at hx
  · subst hx; exact ⟨_, .str _⟩
  · subst hx; exact ⟨_, .str _⟩
  · rcases hx with rfl | rfl
    · exact ⟨_, .str _⟩
    · exact ⟨_, .int _⟩
theorem en_len {g : En} : g.vs.length ≤ 1000 := by cases g <;> simp [En.vs]
theorem typed_ints {K : PySem.W.Frag} {H : Hp} {ns : List Int} : Typed K H (ns.map V.int) := by
  intro x hx
  obtain ⟨i, _, rfl⟩ := List.mem_map.mp hx
  exact ⟨_, .int i⟩
theorem dp_ints {K : PySem.W.Frag} {H : Hp} : ∀ ns : List Int, DpAll K H (ns.map V.int) (ns.map PyData.int)
  | [] => .nil
  | i :: r => .cons (.int i) (dp_ints r)
theorem dp_en {K : PySem.W.Frag} {H : Hp} {g : En} : DpAll K H g.vs g.ds := by
  cases g with
  | go => exact .cons (.str _) .nil
  | deadline => exact .cons (.str _) .nil
  | stop d => exact .cons (.str _) (.cons (.int _) .nil)
theorem dp_e {K : PySem.W.Frag} {H : Hp} {e : Option Int} : Dp K H (eV e) (eD e) := by
  cases e with
  | none => exact .non
  | some i => exact .int i
theorem dp_pol {K : PySem.W.Frag} {H : Hp} {q : Pol} {pa ga : Addr} (h : Tups K H q pa ga) : DpAll K H (q.vs pa ga) q.ds :=
  .cons (.str _) (.cons (.int _) (.cons (.int _) (.cons (.tup h.p.sq (dp_ints _)) (.cons dp_e (.cons (.bl _) (.cons (.tup h.g.sq dp_en) .nil))))))

section
variable {P : Program} {w : World} {K : PySem.W.Frag} {mg : Str → Option Value} {base : Heap}
local macro_rules | `(tactic| walk_at "rd1") => `(tactic| first
  | with_reducible refine g_seq ?_
  | with_reducible refine g_asg ?_
  | with_reducible refine g_name ?_
  | with_reducible refine g_c ?_
  | with_reducible refine g_op ?_
  | with_reducible refine g_ifS ?_
  | with_reducible refine g_if ?_
  | with_reducible refine g_test ?_
  | with_reducible refine g_B ?_
  | with_reducible refine g_bl ?_
  | with_reducible refine g_blV ?_
  | with_reducible refine g_not ?_
  | with_reducible refine g_and ?_
  | with_reducible refine g_or ?_
  | with_reducible refine g_notV ?_
  | with_reducible refine g_andV ?_
  | with_reducible refine g_orV ?_
  | with_reducible refine g_ret ?_
  | with_reducible refine g_drop ?_
  | with_reducible refine g_next ?_
  | with_reducible refine g_retN ?_
  | with_reducible refine g_call ?_
  | with_reducible refine g_cb ?_
  | with_reducible refine g_cons ?_
  | with_reducible refine g_nil ?_
  | with_reducible refine g_tup ?_
  | with_reducible refine g_lst ?_
  | with_reducible refine g_prop ?_
  | with_reducible refine g_fld ?_
  | with_reducible refine g_meth ?_
  | with_reducible refine g_chain ?_
  | with_reducible refine g_yes ?_
  | with_reducible refine g_make ?_
  | with_reducible refine g_makeK ?_
  | with_reducible refine g_gsub ?_
  | with_reducible refine g_sfld ?_
  | with_reducible refine g_un ?_
  | with_reducible refine g_bm ?_
  | with_reducible refine g_iteT ?_
  | with_reducible refine g_iteF ?_
  | with_reducible refine g_I0 ?_
  | with_reducible refine g_add ?_
  | with_reducible refine g_sub ?_
  | ((with_reducible refine' g_var ?hv ?_); (case hv => rfl))
  | ((with_reducible refine g_eq ?hv ?_); (case hv => rfl))
  | ((with_reducible refine g_ne ?hv ?_); (case hv => rfl)))
local macro_rules | `(tactic| walk_at "rd") => `(tactic| repeat (walk_at "rd1"))

local macro_rules | `(tactic| walk_at "ty") => `(tactic| first | exact .non | exact .bl _ | exact .int _ | exact .str _ | exact .lst (by assumption) | exact .tup (by assumption) | exact .dK (by assumption) | exact .kTup (by assumption) (by assumption))
local macro_rules | `(tactic| walk_at "isiF") => `(tactic| refine g_isi (by walk_at "ty") (b := false) (by decide +kernel) ?_)
local macro_rules | `(tactic| walk_at "isiT") => `(tactic| refine g_isi (by walk_at "ty") (b := true) (by decide +kernel) ?_)

structure CTxt (K : PySem.W.Frag) (C : Addr) : Prop where
  cl : Cls K C
  n1 : NoAttr K C "_name"
  n2 : NoAttr K C "_limit"
  n3 : NoAttr K C "_tries"
  n4 : NoAttr K C "_pauses"
  n5 : NoAttr K C "_early"
  n6 : NoAttr K C "_lossy"
  n7 : NoAttr K C "_ending"
theorem pf_skip {f h : Str} {v x : V} {r : List (Str × V)} (n : ¬ h = f) : putF f v ((h, x) :: r) = (h, x) :: putF f v r := if_neg n
theorem pf_nil {f : Str} {v : V} : putF f v [] = [(f, v)] := rfl
theorem pf_all {n l t p e y g : V} : putF "_ending" g (putF "_lossy" y (putF "_early" e (putF "_pauses" p (putF "_tries" t (putF "_limit" l (putF "_name" n [])))))) = pfs n l t p e y g := by
  unfold pfs
  rw [pf_nil]
  rw [pf_skip (f := "_limit") (h := "_name") (by decide +kernel)]
  rw [pf_nil]
  rw [pf_skip (f := "_tries") (h := "_name") (by decide +kernel)]
  rw [pf_skip (f := "_tries") (h := "_limit") (by decide +kernel)]
  rw [pf_nil]
  rw [pf_skip (f := "_pauses") (h := "_name") (by decide +kernel)]
  rw [pf_skip (f := "_pauses") (h := "_limit") (by decide +kernel)]
  rw [pf_skip (f := "_pauses") (h := "_tries") (by decide +kernel)]
  rw [pf_nil]
  rw [pf_skip (f := "_early") (h := "_name") (by decide +kernel)]
  rw [pf_skip (f := "_early") (h := "_limit") (by decide +kernel)]
  rw [pf_skip (f := "_early") (h := "_tries") (by decide +kernel)]
  rw [pf_skip (f := "_early") (h := "_pauses") (by decide +kernel)]
  rw [pf_nil]
  rw [pf_skip (f := "_lossy") (h := "_name") (by decide +kernel)]
  rw [pf_skip (f := "_lossy") (h := "_limit") (by decide +kernel)]
  rw [pf_skip (f := "_lossy") (h := "_tries") (by decide +kernel)]
  rw [pf_skip (f := "_lossy") (h := "_pauses") (by decide +kernel)]
  rw [pf_skip (f := "_lossy") (h := "_early") (by decide +kernel)]
  rw [pf_nil]
  rw [pf_skip (f := "_ending") (h := "_name") (by decide +kernel)]
  rw [pf_skip (f := "_ending") (h := "_limit") (by decide +kernel)]
  rw [pf_skip (f := "_ending") (h := "_tries") (by decide +kernel)]
  rw [pf_skip (f := "_ending") (h := "_pauses") (by decide +kernel)]
  rw [pf_skip (f := "_ending") (h := "_early") (by decide +kernel)]
  rw [pf_skip (f := "_ending") (h := "_lossy") (by decide +kernel)]
  rw [pf_nil]
def spInit (K : PySem.W.Frag) (C : Addr) : Sp := fun vs H Q _ => ∃ x dx q p ga, vs = [.ref x, .str q.z, .int q.l, .int q.t, p, eV q.e, .bl q.b, .ref ga] ∧ q.ok ∧ H x = some (.ins C dx []) ∧ TupV K H ga q.g.vs ∧
  ((p = .non ∧ (q.e = none → q.ps = List.replicate (q.t - 1).toNat 0)) ∨ (q.e = none ∧ ∃ pa, p = .ref pa ∧ TupV K H pa (q.ps.map V.int))) ∧
  ∀ H', PolAt K C H' x q → (∀ b o, H b = some o → b ≠ x → H' b = some o) → Q .non H'
theorem all_btw {ns : List Int} (h : ∀ i ∈ ns, 0 ≤ i ∧ i ≤ 8) : (ns.map V.int).all (fun x => btw x 0 8) = true := by
  rw [List.all_map, List.all_eq_true]
  intro i hi
  show (decide (0 ≤ i) && decide (i ≤ 8)) = true
  rw [decide_eq_true (h i hi).1, decide_eq_true (h i hi).2]
  rfl
theorem wf_ok {q : Pol} {p : V} (ok : q.ok) (hp : p = .non ∨ q.e = none) : wfV (.int q.l) (.int q.t) p (eV q.e) (.bl q.b) true true = .non := by
  unfold wfV
  have a1 : btw (.int q.l) 1 20 = true := by show (decide _ && decide _) = true; rw [decide_eq_true ok.l1, decide_eq_true ok.l2]; rfl
  have a2 : btw (.int q.t) 1 3 = true := by show (decide _ && decide _) = true; rw [decide_eq_true ok.t1, decide_eq_true ok.t2]; rfl
  rw [a1, a2, if_pos rfl, if_pos rfl]
  have a3 : (!decide (p = .non) && !(decide (eV q.e = .non) && true)) = false := by
    rcases hp with rfl | h
    · simp
    · rw [h]
      simp [eV]
  have a4 : (!decide (eV q.e = .non) && !(gt1 (.int q.t) && btw (eV q.e) 1 20)) = false := by
    cases he : q.e with
    | none => simp [eV]
    | some i =>
      obtain ⟨h1, h2, h3, _⟩ := ok.e1 i he
      have b1 : gt1 (.int q.t) = true := decide_eq_true (by omega)
      have b2 : btw (eV (some i)) 1 20 = true := by show (decide _ && decide _) = true; rw [decide_eq_true h2, decide_eq_true h3]; rfl
      rw [b1, b2]
      simp
  rw [a3, a4]
  rfl
theorem lenP {k : Nat} {f : Str} {v : V} : ∀ {fs : List (Str × V)}, fs.length ≤ k → (putF f v fs).length ≤ k + 1
  | [], _ => by show 1 ≤ k + 1; omega
  | (h, x) :: r, hk => by
    by_cases e : h = f
    · have q : putF f v ((h, x) :: r) = (h, v) :: r := if_pos e
      rw [q]
      simp at hk ⊢
      omega
    · rw [pf_skip e]
      cases k with
      | zero => simp at hk
      | succ k =>
        have := lenP (k := k) (f := f) (v := v) (fs := r) (by simpa using hk)
        simp
        exact this
theorem ltP (k : Nat) {fs : List (Str × V)} (h : fs.length ≤ k) (hk : k < 1000) : fs.length < 1000 := Nat.lt_of_le_of_lt h hk
theorem TupV.put {H : Hp} {x C dx a : Addr} {fs : List (Str × V)} {xs : List V} {o : HO} (hx : H x = some (.ins C dx fs)) (h : TupV K H a xs) : TupV K (upd H x o) a xs := by
  have off : ∀ {b : Addr} {u : HO}, H b = some u → (∀ C' d' f', u ≠ .ins C' d' f') → upd H x o b = some u := fun {b u} hb hu => by
    rw [upd_ne (fun e => by rw [e, hx] at hb; exact hu _ _ _ (Option.some.inj hb).symm)]
    exact hb
  obtain ⟨ty, sq⟩ := h
  constructor
  · generalize hn : "tuple" = n at ty
    cases ty with
    | tup e => exact .tup (off e (by intro _ _ _ z; cases z))
    | kTup e c => exact .kTup e c
    | lst e => exact absurd hn (by decide)
    | dK e => exact absurd hn (by decide)
  · rcases sq with (h | ⟨ob, h⟩) | h
    · exact .inl (.inl (off h (by intro _ _ _ z; cases z)))
    · exact .inl (.inr ⟨ob, off h (by intro _ _ _ z; cases z)⟩)
    · exact .inr h

abbrev kwsP (go : Addr) : List (Str × V) := [("tries", .int 1), ("pauses", .non), ("early", .non), ("lossy", .bl false), ("ending", .ref go)]
abbrev psP : List Str := ["self", "name", "limit", "tries", "pauses", "early", "lossy", "ending"]
theorem ok_init {f C go : Addr} {fd : FuncData} (F : FunD K "__init__" "Policy.__init__" (defArgs s_Policyinit) (defBody s_Policyinit) (defScope s_Policyinit) [] (kwsP go) f fd) (T : Txt K mg) (TC : CTxt K C)
    (c_is_name : Cal P w K mg base 1 "is_name" (spName K)) (c_wrong_field : Cal P w K mg base 5 "_wrong_field" (spWrong K)) (c_all_pauses : Cal P w K mg base 1 "_all_pauses" (spAll K)) :
    FnOk P w K mg base CX0 6 f fd psP (spInit K C) := by
  refine F.ok sc_Policyinit (fun vs H Q E h => ?_) (fun cdv A outer s H vs Q E hr h => ?_)
  · obtain ⟨x, dx, q, p, ga, rfl, _⟩ := h
    rfl
  · obtain ⟨x, dx, q, p, ga, rfl, ok, hx, tg, hp, k⟩ := h
    refine ⟨_, (pss_cons (ps_if (pt_not (pt_val (pe_f c_is_name hr (by decide) (by rfl) (pa_cons (pv 1) pa_nil)))) (pss_one ps_never) pss_nil)
      (pss_cons (ps_set (i := 8) sc_Policyinit.nd rfl (Or.inl rfl) (pe_f c_wrong_field hr (by decide) (by rfl) (pa_cons (pv 2) (pa_cons (pv 3) (pa_cons (pv 4) (pa_cons (pv 5) (pa_cons (pv 6) (pa_cons (pv 7) pa_nil))))))))
      (pss_cons (ps_if (pt_cmpR op_notN (pv 8) pe_non (nomark _)) (pss_one ps_never) pss_nil)
      (pss_cons (ps_fld (pv 0) (pv 1) rfl)
      (pss_cons (ps_fld (pv 0) (pv 2) rfl)
      (pss_cons (ps_fld (pv 0) (pv 3) rfl)
      (pss_cons (ps_fld (pv 0) (pe_f c_all_pauses hr (by decide) (by rfl) (pa_cons (pv 3) (pa_cons (pv 4) (pa_cons (pv 5) pa_nil)))) rfl)
      (pss_cons (ps_fld (pv 0) (pv 5) rfl)
      (pss_cons (ps_fld (pv 0) (pv 6) rfl)
      (pss_one (ps_fld (pv 0) (pv 7) rfl))))))))))), ?_⟩
    walk_at "rd"
    refine ⟨.str q.z, _, rfl, .str _, fun z e => by injection e with e; rw [← e]; exact ok.nl, fun H1 S1 => ?_⟩
    walk_at "rd"
    have e1 : nmV (.str q.z) = true := ok.nm
    rw [e1]
    show (if false = true then _ else _)
    walk_at "rd"
    have te : ∃ n, Mc.TyB K H1 (eV q.e) n := by
      cases q.e with
      | none => exact ⟨_, .non⟩
      | some i => exact ⟨_, .int i⟩
    obtain ⟨ne, te⟩ := te
    have hpp : p = .non ∨ q.e = none := hp.elim (fun h => .inl h.1) (fun h => .inr h.1)
    -- what the pauses are
    have sp : ∃ pb, (∀ i, V.int q.t = V.int i → SeqR K H1 p (fun xs => arePz xs i) pb) ∧ wfV (.int q.l) (.int q.t) p (eV q.e) (.bl q.b) pb true = .non := by
      rcases hp with ⟨rfl, _⟩ | ⟨he, pa, rfl, tp⟩
      · refine ⟨false, fun i _ => .inl ⟨_, .non, by decide, rfl⟩, ?_⟩
        have := wf_ok (p := .non) ok (.inl rfl)
        unfold wfV at this ⊢
        simpa using this
      · refine ⟨true, fun i hi => ?_, wf_ok ok (.inr he)⟩
        injection hi with hi
        subst hi
        obtain ⟨hl, hb⟩ := ok.e0 he
        refine .inr ⟨pa, _, rfl, TupV.ext S1 tp, typed_ints, ?_, ?_⟩
        · rw [List.length_map]
          have := ok.t2
          omega
        · show true = (decide (V.int (((q.ps.map V.int).length : Nat) : Int) = V.int (q.t - 1)) && (q.ps.map V.int).all fun x => btw x 0 8)
          rw [all_btw hb, List.length_map, hl]
          simp
    obtain ⟨pb, sp, hw⟩ := sp
    refine ⟨_, _, p, _, _, _, "int", "int", ne, "bool", pb, true, rfl, .int _, .int _, te, .bl _, sp, .inr ⟨ga, _, rfl, TupV.ext S1 tg, typed_en, en_len, (endOk_ok ok.g1).symm⟩, fun H2 S2 => ?_⟩
    rw [hw]
    walk_at "rd"
    refine ⟨rfl, ?_⟩
    walk_at "rd"
    show (if false = true then _ else _)
    walk_at "rd"
    have S := Same.trans S1 S2
    refine ⟨x, C, dx, _, rfl, S _ _ hx, TC.cl, TC.n1, (by show 0 < 1000; decide), ?_⟩
    walk_at "rd"
    refine ⟨x, C, dx, _, rfl, upd_same, TC.cl, TC.n2, (by show 1 < 1000; decide), ?_⟩
    walk_at "rd"
    refine ⟨x, C, dx, _, rfl, upd_same, TC.cl, TC.n3, ltP 2 (lenP (lenP (Nat.zero_le _))) (by decide), ?_⟩
    walk_at "rd"
    have hx2 := S _ _ hx
    refine ⟨q.t, p, eV q.e, rfl, ok.t1, (by have := ok.t2; omega), fun he b H3 S3 hb => ?_, fun he hp0 b H3 S3 hb => ?_, fun he hp0 => ?_⟩
    · have eps : q.ps = [] := by
        cases e : q.e with
        | none => rw [e] at he; exact absurd rfl he
        | some i => exact (ok.e1 i e).2.2.2
      have tb : TupV K H3 b (q.ps.map V.int) := by rw [eps]; exact ⟨.tup hb, SqT.of hb⟩
      have tga : TupV K H3 ga q.g.vs := TupV.ext S3 (TupV.put upd_same (TupV.put upd_same (TupV.put hx2 (TupV.ext S tg))))
      walk_at "rd"
      refine ⟨x, C, dx, _, rfl, S3 _ _ upd_same, TC.cl, TC.n4, ltP 3 (lenP (lenP (lenP (Nat.zero_le _)))) (by decide), ?_⟩
      walk_at "rd"
      refine ⟨x, C, dx, _, rfl, upd_same, TC.cl, TC.n5, ltP 4 (lenP (lenP (lenP (lenP (Nat.zero_le _))))) (by decide), ?_⟩
      walk_at "rd"
      refine ⟨x, C, dx, _, rfl, upd_same, TC.cl, TC.n6, ltP 5 (lenP (lenP (lenP (lenP (lenP (Nat.zero_le _)))))) (by decide), ?_⟩
      walk_at "rd"
      refine ⟨x, C, dx, _, rfl, upd_same, TC.cl, TC.n7, ltP 6 (lenP (lenP (lenP (lenP (lenP (lenP (Nat.zero_le _))))))) (by decide), ?_⟩
      rw [pf_all]
      refine k _ ⟨dx, b, ga, upd_same, ?_⟩ (fun c o hc hn => ?_)
      · exact ⟨TupV.put upd_same (TupV.put upd_same (TupV.put upd_same (TupV.put (S3 _ _ upd_same) tb))), TupV.put upd_same (TupV.put upd_same (TupV.put upd_same (TupV.put (S3 _ _ upd_same) tga)))⟩
      · rw [upd_ne hn, upd_ne hn, upd_ne hn, upd_ne hn]
        refine S3 _ _ ?_
        rw [upd_ne hn, upd_ne hn, upd_ne hn]
        exact S _ _ hc
    · have eps : q.ps = List.replicate (q.t - 1).toNat 0 := by
        rcases hp with ⟨_, h⟩ | ⟨_, pa, h, _⟩
        · refine h ?_
          cases e : q.e with
          | none => rfl
          | some i => rw [e] at he; exact absurd he (by intro z; cases z)
        · rw [hp0] at h
          cases h
      have hb' : H3 b = some (.tup (q.ps.map V.int)) := by rw [hb, eps, List.map_replicate]
      have tb : TupV K H3 b (q.ps.map V.int) := ⟨.tup hb', SqT.of hb'⟩
      have tga : TupV K H3 ga q.g.vs := TupV.ext S3 (TupV.put upd_same (TupV.put upd_same (TupV.put hx2 (TupV.ext S tg))))
      walk_at "rd"
      refine ⟨x, C, dx, _, rfl, S3 _ _ upd_same, TC.cl, TC.n4, ltP 3 (lenP (lenP (lenP (Nat.zero_le _)))) (by decide), ?_⟩
      walk_at "rd"
      refine ⟨x, C, dx, _, rfl, upd_same, TC.cl, TC.n5, ltP 4 (lenP (lenP (lenP (lenP (Nat.zero_le _))))) (by decide), ?_⟩
      walk_at "rd"
      refine ⟨x, C, dx, _, rfl, upd_same, TC.cl, TC.n6, ltP 5 (lenP (lenP (lenP (lenP (lenP (Nat.zero_le _)))))) (by decide), ?_⟩
      walk_at "rd"
      refine ⟨x, C, dx, _, rfl, upd_same, TC.cl, TC.n7, ltP 6 (lenP (lenP (lenP (lenP (lenP (lenP (Nat.zero_le _))))))) (by decide), ?_⟩
      rw [pf_all]
      refine k _ ⟨dx, b, ga, upd_same, ?_⟩ (fun c o hc hn => ?_)
      · exact ⟨TupV.put upd_same (TupV.put upd_same (TupV.put upd_same (TupV.put (S3 _ _ upd_same) tb))), TupV.put upd_same (TupV.put upd_same (TupV.put upd_same (TupV.put (S3 _ _ upd_same) tga)))⟩
      · rw [upd_ne hn, upd_ne hn, upd_ne hn, upd_ne hn]
        refine S3 _ _ ?_
        rw [upd_ne hn, upd_ne hn, upd_ne hn]
        exact S _ _ hc
    · rcases hp with ⟨h, _⟩ | ⟨_, b, h, tp⟩
      · exact absurd h hp0
      · subst h
        have tb0 := (TupV.put (o := (.ins C dx (putF "_tries" (.int q.t) (putF "_limit" (.int q.l) (putF "_name" (.str q.z) []))))) upd_same (TupV.put (o := (.ins C dx (putF "_limit" (.int q.l) (putF "_name" (.str q.z) [])))) upd_same (TupV.put (o := (.ins C dx (putF "_name" (.str q.z) []))) hx2 (TupV.ext S tp))))
        obtain ⟨H3, hH3⟩ : ∃ H3, H3 = (upd (upd (upd H2 x (.ins C dx (putF "_name" (.str q.z) []))) x (.ins C dx (putF "_limit" (.int q.l) (putF "_name" (.str q.z) [])))) x (.ins C dx (putF "_tries" (.int q.t) (putF "_limit" (.int q.l) (putF "_name" (.str q.z) []))))) := ⟨_, rfl⟩
        have S3 : Same (upd (upd (upd H2 x (.ins C dx (putF "_name" (.str q.z) []))) x (.ins C dx (putF "_limit" (.int q.l) (putF "_name" (.str q.z) [])))) x (.ins C dx (putF "_tries" (.int q.t) (putF "_limit" (.int q.l) (putF "_name" (.str q.z) []))))) H3 := by rw [hH3]; exact Same.refl _
        rw [← hH3] at tb0 ⊢
        have tb := tb0
        have tga : TupV K H3 ga q.g.vs := TupV.ext S3 (TupV.put upd_same (TupV.put upd_same (TupV.put hx2 (TupV.ext S tg))))
        walk_at "rd"
        refine ⟨x, C, dx, _, rfl, S3 _ _ upd_same, TC.cl, TC.n4, ltP 3 (lenP (lenP (lenP (Nat.zero_le _)))) (by decide), ?_⟩
        walk_at "rd"
        refine ⟨x, C, dx, _, rfl, upd_same, TC.cl, TC.n5, ltP 4 (lenP (lenP (lenP (lenP (Nat.zero_le _))))) (by decide), ?_⟩
        walk_at "rd"
        refine ⟨x, C, dx, _, rfl, upd_same, TC.cl, TC.n6, ltP 5 (lenP (lenP (lenP (lenP (lenP (Nat.zero_le _)))))) (by decide), ?_⟩
        walk_at "rd"
        refine ⟨x, C, dx, _, rfl, upd_same, TC.cl, TC.n7, ltP 6 (lenP (lenP (lenP (lenP (lenP (lenP (Nat.zero_le _))))))) (by decide), ?_⟩
        rw [pf_all]
        refine k _ ⟨dx, b, ga, upd_same, ?_⟩ (fun c o hc hn => ?_)
        · exact ⟨TupV.put upd_same (TupV.put upd_same (TupV.put upd_same (TupV.put (S3 _ _ upd_same) tb))), TupV.put upd_same (TupV.put upd_same (TupV.put upd_same (TupV.put (S3 _ _ upd_same) tga)))⟩
        · rw [upd_ne hn, upd_ne hn, upd_ne hn, upd_ne hn]
          refine S3 _ _ ?_
          rw [upd_ne hn, upd_ne hn, upd_ne hn]
          exact S _ _ hc
end
end K2

namespace K2
open PySem PySem.Spec PyProof.Rows L2 Mc
section
variable {P : Program} {w : World} {K : PySem.W.Frag} {mg : Str → Option Value} {base : Heap}
local macro_rules | `(tactic| walk_at "rd1") => `(tactic| first
  | with_reducible refine g_seq ?_
  | with_reducible refine g_asg ?_
  | with_reducible refine g_name ?_
  | with_reducible refine g_c ?_
  | with_reducible refine g_op ?_
  | with_reducible refine g_ifS ?_
  | with_reducible refine g_if ?_
  | with_reducible refine g_test ?_
  | with_reducible refine g_B ?_
  | with_reducible refine g_bl ?_
  | with_reducible refine g_blV ?_
  | with_reducible refine g_not ?_
  | with_reducible refine g_and ?_
  | with_reducible refine g_or ?_
  | with_reducible refine g_notV ?_
  | with_reducible refine g_andV ?_
  | with_reducible refine g_orV ?_
  | with_reducible refine g_ret ?_
  | with_reducible refine g_drop ?_
  | with_reducible refine g_next ?_
  | with_reducible refine g_retN ?_
  | with_reducible refine g_call ?_
  | with_reducible refine g_cb ?_
  | with_reducible refine g_cons ?_
  | with_reducible refine g_nil ?_
  | with_reducible refine g_tup ?_
  | with_reducible refine g_lst ?_
  | with_reducible refine g_prop ?_
  | with_reducible refine g_fld ?_
  | with_reducible refine g_meth ?_
  | with_reducible refine g_chain ?_
  | with_reducible refine g_yes ?_
  | with_reducible refine g_make ?_
  | with_reducible refine g_makeK ?_
  | with_reducible refine g_gsub ?_
  | with_reducible refine g_sfld ?_
  | with_reducible refine g_un ?_
  | with_reducible refine g_bm ?_
  | with_reducible refine g_iteT ?_
  | with_reducible refine g_iteF ?_
  | with_reducible refine g_I0 ?_
  | with_reducible refine g_add ?_
  | with_reducible refine g_sub ?_
  | ((with_reducible refine' g_var ?hv ?_); (case hv => rfl))
  | ((with_reducible refine g_eq ?hv ?_); (case hv => rfl))
  | ((with_reducible refine g_ne ?hv ?_); (case hv => rfl)))
local macro_rules | `(tactic| walk_at "rd") => `(tactic| repeat (walk_at "rd1"))

local macro_rules | `(tactic| walk_at "ty") => `(tactic| first | exact .non | exact .bl _ | exact .int _ | exact .str _ | exact .lst (by assumption) | exact .tup (by assumption) | exact .dK (by assumption) | exact .kTup (by assumption) (by assumption))
local macro_rules | `(tactic| walk_at "isiF") => `(tactic| refine g_isi (by walk_at "ty") (b := false) (by decide +kernel) ?_)
local macro_rules | `(tactic| walk_at "isiT") => `(tactic| refine g_isi (by walk_at "ty") (b := true) (by decide +kernel) ?_)

/-! ### properties and methods -/
structure Prp (P : Program) (w : World) (K : PySem.W.Frag) (mg : Str → Option Value) (base : Heap) (k : Nat) (C : Addr) (f : Str) (sp : Sp) : Prop where
  ex : ∃ (p g : Addr) (fd : FuncData) (ps : List Str), Cls K C ∧ PropOf K C f p g ∧ FnOk P w K mg base CX0 k g fd ps sp ∧ Binds K fd ps []
theorem pe_pr {X : Cx} {k j : Nat} {C : Addr} {f : Str} {sp : Sp} {e : Expr} {ta : TE} {pos : Pos} (c : Prp X.prog X.w X.K X.mg X.base k C f sp) (hr : Room j X.A) (hk : k + 1 ≤ j) (he : PE X e ta)
    (hab : attributeBase e f X.env (eval e X.env) = eval e X.env := by rfl) : PE X (.Attribute e f pos) (tProp C sp [] E0 ta) := by
  obtain ⟨p, g, fd, ps, cl, po, G, b⟩ := c.ex
  exact pe_prop he cl po G (hr.mono hk) b .nil pass0 hab
structure Mth (P : Program) (w : World) (K : PySem.W.Frag) (mg : Str → Option Value) (base : Heap) (k : Nat) (C : Addr) (m : Str) (sp : Sp) : Prop where
  ex : ∃ (f : Addr) (fd : FuncData) (ps : List Str), Cls K C ∧ Meth K C m f ∧ FnOk P w K mg base CX0 k f fd ps sp ∧ Binds K fd ps []
theorem pe_m0 {X : Cx} {k j : Nat} {C : Addr} {m : Str} {sp : Sp} {o : Expr} {ta : TE} {pos apos : Pos} {pl : Sem Bool} (c : Mth X.prog X.w X.K X.mg X.base k C m sp) (hr : Room j X.A) (hk : k ≤ j) (he : PE X o ta)
    (ht : eval (.Call (.Attribute o m apos) [] [] pos) X.env = (do
      let u ← eval o X.env
      standAt apos.atName
      let (g, first) ← holding [u] (getMethod u m pl)
      callWith pos g first (backTo pos (starEach [] X.env)) (backToKw pos (keywordEach [] X.env))) := by rfl) : PE X (.Call (.Attribute o m apos) [] [] pos) (tMeth C m sp [] E0 ta tNil) := by
  obtain ⟨f, fd, ps, cl, me, G, b⟩ := c.ex
  exact pe_meth0 (pl := pl) he cl me G (hr.mono hk) b .nil pass0 ht
theorem lk1 {n l t p e y g : V} : (pfs n l t p e y g).lookup ("_name" : Str) = some n := rfl
theorem lk2 {n l t p e y g : V} : (pfs n l t p e y g).lookup ("_limit" : Str) = some l := rfl
theorem lk3 {n l t p e y g : V} : (pfs n l t p e y g).lookup ("_tries" : Str) = some t := rfl
theorem lk4 {n l t p e y g : V} : (pfs n l t p e y g).lookup ("_pauses" : Str) = some p := rfl
theorem lk5 {n l t p e y g : V} : (pfs n l t p e y g).lookup ("_early" : Str) = some e := rfl
theorem lk6 {n l t p e y g : V} : (pfs n l t p e y g).lookup ("_lossy" : Str) = some y := rfl
theorem lk7 {n l t p e y g : V} : (pfs n l t p e y g).lookup ("_ending" : Str) = some g := rfl
theorem lk0 {n l t p e y g : V} : (pfs n l t p e y g).lookup ("_fields" : Str) = none := rfl

theorem prp_of {C p g : Addr} {x fld qual : Str} {st : Stmt} {fd : FuncData} {p1 p2 p3 : Pos} (F : Fun K x qual st g fd) (po : PropOf K C x p g) (S : FnScope ["self"] ["self"] (defScope st))
    (hb : defBody st = [.Return (some (.Attribute (.Name "self" p1) fld p2)) p3]) (c : Cls K C) (n : NoAttr K C fld) (b : Binds K fd ["self"] []) : Prp P w K mg base 1 C x (getSp C fld) := by
  have F' := F
  obtain ⟨oc, od, kV, doc, pm, an, cdv, ct, osl, rfl, lk, hcd⟩ := F'.ex
  exact ⟨p, g, _, _, c, po, fn_getter lk hcd S rfl hb c n, b⟩

end
end K2

namespace K2
open PySem PySem.Spec PyProof.Rows L2 Mc
section
variable {P : Program} {w : World} {K : PySem.W.Frag} {mg : Str → Option Value} {base : Heap}
local macro_rules | `(tactic| walk_at "rd1") => `(tactic| first
  | with_reducible refine g_seq ?_
  | with_reducible refine g_asg ?_
  | with_reducible refine g_name ?_
  | with_reducible refine g_c ?_
  | with_reducible refine g_op ?_
  | with_reducible refine g_ifS ?_
  | with_reducible refine g_if ?_
  | with_reducible refine g_test ?_
  | with_reducible refine g_B ?_
  | with_reducible refine g_bl ?_
  | with_reducible refine g_blV ?_
  | with_reducible refine g_not ?_
  | with_reducible refine g_and ?_
  | with_reducible refine g_or ?_
  | with_reducible refine g_notV ?_
  | with_reducible refine g_andV ?_
  | with_reducible refine g_orV ?_
  | with_reducible refine g_ret ?_
  | with_reducible refine g_drop ?_
  | with_reducible refine g_next ?_
  | with_reducible refine g_retN ?_
  | with_reducible refine g_call ?_
  | with_reducible refine g_cb ?_
  | with_reducible refine g_cons ?_
  | with_reducible refine g_nil ?_
  | with_reducible refine g_tup ?_
  | with_reducible refine g_lst ?_
  | with_reducible refine g_prop ?_
  | with_reducible refine g_fld ?_
  | with_reducible refine g_meth ?_
  | with_reducible refine g_chain ?_
  | with_reducible refine g_yes ?_
  | with_reducible refine g_make ?_
  | with_reducible refine g_makeK ?_
  | with_reducible refine g_gsub ?_
  | with_reducible refine g_sfld ?_
  | with_reducible refine g_un ?_
  | with_reducible refine g_bm ?_
  | with_reducible refine g_iteT ?_
  | with_reducible refine g_iteF ?_
  | with_reducible refine g_I0 ?_
  | with_reducible refine g_add ?_
  | with_reducible refine g_sub ?_
  | ((with_reducible refine' g_var ?hv ?_); (case hv => rfl))
  | ((with_reducible refine g_eq ?hv ?_); (case hv => rfl))
  | ((with_reducible refine g_ne ?hv ?_); (case hv => rfl)))
local macro_rules | `(tactic| walk_at "rd") => `(tactic| repeat (walk_at "rd1"))

local macro_rules | `(tactic| walk_at "ty") => `(tactic| first | exact .non | exact .bl _ | exact .int _ | exact .str _ | exact .lst (by assumption) | exact .tup (by assumption) | exact .dK (by assumption) | exact .kTup (by assumption) (by assumption))
local macro_rules | `(tactic| walk_at "isiF") => `(tactic| refine g_isi (by walk_at "ty") (b := false) (by decide +kernel) ?_)
local macro_rules | `(tactic| walk_at "isiT") => `(tactic| refine g_isi (by walk_at "ty") (b := true) (by decide +kernel) ?_)

/-- all but the pool is as it was -/
def Sx (p : Addr) (H H' : Hp) : Prop := ∀ b o, b ≠ p → H b = some o → H' b = some o
theorem Sx.refl {p : Addr} (H : Hp) : Sx p H H := fun _ _ _ h => h
theorem Sx.trans {p : Addr} {H H1 H2 : Hp} (a : Sx p H H1) (b : Sx p H1 H2) : Sx p H H2 := fun c o hc h => b c o hc (a c o hc h)
theorem Same.sx {p : Addr} {H H' : Hp} (h : Same H H') : Sx p H H' := fun c o _ e => h c o e
def PoolAt (H : Hp) (p : Addr) : Prop := ∃ c z : Int, H p = some (.lst [.int c, .int z]) ∧ 0 ≤ c ∧ 0 ≤ z ∧ z < 2147483647
theorem PoolAt.ext {p : Addr} {H H' : Hp} (h : PoolAt H p) (e : Same H H') : PoolAt H' p := by
  obtain ⟨c, z, h1, h2⟩ := h
  exact ⟨c, z, e _ _ h1, h2⟩
theorem PoolAt.not {p a : Addr} {H : Hp} {o : HO} (h : PoolAt H p) (e : H a = some o) (n : ∀ xs, o ≠ .lst xs) : a ≠ p := by
  obtain ⟨c, z, h1, _⟩ := h
  intro q
  rw [q, h1] at e
  exact n _ (Option.some.inj e).symm
theorem TyB.sx {p : Addr} {H H' : Hp} {v : V} (pl : PoolAt H p) (e : Sx p H H') (h : Mc.TyB K H v "tuple") : Mc.TyB K H' v "tuple" := by
  generalize hn : "tuple" = n at h ⊢
  cases h with
  | tup z => exact .tup (e _ _ (pl.not z (by intro _ k; cases k)) z)
  | kTup z c => exact .kTup z c
  | lst z => exact absurd hn (by decide)
  | dK z => exact absurd hn (by decide)
  | non => exact absurd hn (by decide)
  | bl z => exact absurd hn (by decide)
  | int z => exact absurd hn (by decide)
  | str z => exact absurd hn (by decide)
theorem sqT_sx {p a : Addr} {H H' : Hp} {xs : List V} (pl : PoolAt H p) (e : Sx p H H') (h : SqT K H a xs) : SqT K H' a xs := by
  rcases h with (h | ⟨o, h⟩) | h
  · exact .inl (.inl (e _ _ (pl.not h (by intro _ k; cases k)) h))
  · exact .inl (.inr ⟨o, e _ _ (pl.not h (by intro _ k; cases k)) h⟩)
  · exact .inr h
theorem TupV.sx {p a : Addr} {H H' : Hp} {xs : List V} (pl : PoolAt H p) (e : Sx p H H') (h : TupV K H a xs) : TupV K H' a xs := ⟨TyB.sx pl e h.ty, sqT_sx pl e h.sq⟩
theorem PolAt.sx {p a C : Addr} {H H' : Hp} {q : Pol} (pl : PoolAt H p) (e : Sx p H H') (h : PolAt K C H a q) : PolAt K C H' a q := by
  obtain ⟨dx, pa, ga, h1, h2⟩ := h
  exact ⟨dx, pa, ga, e _ _ (pl.not h1 (by intro _ k; cases k)) h1, TupV.sx pl e h2.p, TupV.sx pl e h2.g⟩
theorem Sx.free {p a : Addr} {H H' : Hp} (pl' : PoolAt H' p) (e : Sx p H H') (h : H' a = none) : H a = none := by
  cases q : H a with
  | none => rfl
  | some o =>
    by_cases ha : a = p
    · obtain ⟨c, z, h1, _⟩ := pl'
      rw [ha, h1] at h
      cases h
    · rw [e a o ha q] at h
      cases h

def spPool (K : PySem.W.Frag) : Sp := fun vs H Q _ => ∃ (a : Addr) (k : Int) (ns : List Int), vs = [.ref a, .int k] ∧ SqL K H a (ns.map V.int) ∧ 0 ≤ k ∧ k ≤ 100 ∧ ∀ p H', H p = none → Same H H' → PoolAt H' p → Q (.ref p) H'
theorem ok_pool (T : Txt K mg) (D : Def K mg "_law_pool" s_law_pool ["_law_script", "_law_k"]) : Cal P w K mg base 1 "_law_pool" (spPool K) := by
  refine cal_of D sc_law_pool (fun vs H Q E h => ?_) (fun f cdv A outer s H vs Q E hr h => ?_)
  · obtain ⟨a, k, ns, rfl, _⟩ := h
    rfl
  · obtain ⟨a, k, ns, rfl, sq, k0, k1, q⟩ := h
    have hk1 : 7919 * k ≤ 791900 := by omega
    have hk2 : (7919 * k) * k ≤ 791900 * 100 := Int.mul_le_mul hk1 k1 k0 (by decide)
    have hk3 : 0 ≤ (7919 * k) * k := Int.mul_nonneg (by omega) k0
    refine ⟨_, (pss_cons (ps_set (i := 2) sc_law_pool.nd rfl (Or.inl rfl) pe_int)
      (pss_cons (ps_if (pt_cmpR op_lt (pv 1) (pe_callB call_len_seq (by rfl) T.n_len (by decide +kernel) (pa_cons (pv 0) pa_nil)) (nomark _)) (pss_one (ps_set (i := 2) sc_law_pool.nd rfl (Or.inl rfl) (pe_ix ix_list (pv 0) (pv 1) (fun _ _ => rfl)))) pss_nil)
      (pss_cons (ps_set (i := 3) sc_law_pool.nd rfl (Or.inl rfl) (pe_op op_mod (pe_op op_pow (pe_op op_add (pe_op op_add (pe_op op_mod (pe_callTy call_int1 (by rfl) T.n_int (by decide +kernel) (pa_cons (pv 2) pa_nil)) pe_int) (pe_op op_mul (pe_op op_mul pe_int (pv 1)) (pv 1))) pe_int) pe_int) pe_int))
      (pss_cons (ps_if (pt_cmpR op_lt (pv 2) (pe_op op_pow pe_int pe_int) (nomark _)) (pss_one (ps_set (i := 2) sc_law_pool.nd rfl (Or.inl rfl) pe_int)) pss_nil)
      (pss_one (ps_ret (pe_lst (pa_cons (pv 2) (pa_cons (pv 3) pa_nil))))))))), ?_⟩
    walk_at "rd"
    refine ⟨a, _, rfl, .inl sq, ?_⟩
    walk_at "rd"
    refine g_ite (fun e => ?_) (fun e => ?_)
    · have hk : k < ((ns.map V.int).length : Int) := of_decide_eq_true e
      have hk' : k.toNat < ns.length := by rw [List.length_map] at hk; omega
      walk_at "rd"
      refine g_ixL sq (v := .int ns[k.toNat]) (at_of (j := k.toNat) (by omega) (by rw [List.getElem?_map, List.getElem?_eq_getElem hk']; rfl)) ?_
      generalize ns[k.toNat] = c
      walk_at "rd"
      refine .inl ⟨_, rfl, ?_⟩
      walk_at "rd"
      refine g_I (show (0 : Int) < 2147483629 by decide) ?_
      walk_at "rd"
      refine g_I (.inl ⟨by decide, by decide⟩) ?_
      walk_at "rd"
      refine g_I (.inl ⟨by omega, by omega⟩) ?_
      walk_at "rd"
      refine g_I ⟨by decide, by decide, by omega⟩ ?_
      walk_at "rd"
      refine g_I (show (0 : Int) < 2147483647 by decide) ?_
      walk_at "rd"
      refine g_I ⟨by decide, by decide, by decide⟩ ?_
      walk_at "rd"
      refine g_ite (fun e2 => ?_) (fun e2 => ?_)
      · walk_at "rd"
        refine ⟨(by show 2 ≤ sizeLine; decide), fun p hp => ?_⟩
        refine q p _ hp (same_new hp) ⟨0, _, upd_same, by decide, Int.emod_nonneg _ (by decide), Int.emod_lt_of_pos _ (by decide)⟩
      · walk_at "rd"
        refine ⟨(by show 2 ≤ sizeLine; decide), fun p hp => ?_⟩
        have e3 := of_decide_eq_false e2
        refine q p _ hp (same_new hp) ⟨_, _, upd_same, ?_, Int.emod_nonneg _ (by decide), Int.emod_lt_of_pos _ (by decide)⟩
        exact Int.le_trans (by decide) (Int.not_lt.mp e3)
    · walk_at "rd"
      walk_at "rd"
      refine .inl ⟨_, rfl, ?_⟩
      walk_at "rd"
      refine g_I (show (0 : Int) < 2147483629 by decide) ?_
      walk_at "rd"
      refine g_I (.inl ⟨by decide, by decide⟩) ?_
      walk_at "rd"
      refine g_I (.inl ⟨by omega, by omega⟩) ?_
      walk_at "rd"
      refine g_I ⟨by decide, by decide, by omega⟩ ?_
      walk_at "rd"
      refine g_I (show (0 : Int) < 2147483647 by decide) ?_
      walk_at "rd"
      refine g_I ⟨by decide, by decide, by decide⟩ ?_
      walk_at "rd"
      refine g_ite (fun e2 => ?_) (fun e2 => ?_)
      · walk_at "rd"
        refine ⟨(by show 2 ≤ sizeLine; decide), fun p hp => ?_⟩
        refine q p _ hp (same_new hp) ⟨0, _, upd_same, by decide, Int.emod_nonneg _ (by decide), Int.emod_lt_of_pos _ (by decide)⟩
      · walk_at "rd"
        refine ⟨(by show 2 ≤ sizeLine; decide), fun p hp => ?_⟩
        have e3 := of_decide_eq_false e2
        refine q p _ hp (same_new hp) ⟨_, _, upd_same, ?_, Int.emod_nonneg _ (by decide), Int.emod_lt_of_pos _ (by decide)⟩
        exact Int.le_trans (by decide) (Int.not_lt.mp e3)

def spDraw : Sp := fun vs H Q _ => ∃ (p : Addr) (m : Int), vs = [.ref p, .int m] ∧ PoolAt H p ∧ 1 ≤ m ∧ m ≤ 1000000 ∧ ∀ (r : Int) H', 0 ≤ r → r < m → PoolAt H' p → Sx p H H' → Q (.int r) H'
theorem sx_upd {p : Addr} {H : Hp} {o : HO} : Sx p H (upd H p o) := fun b u hb e => by rw [upd_ne hb]; exact e
theorem ok_draw (T : Txt K mg) (D : Def K mg "_law_draw" s_law_draw ["_law_pool_here", "_law_many_here"]) : Cal P w K mg base 1 "_law_draw" spDraw := by
  refine cal_of D sc_law_draw (fun vs H Q E h => ?_) (fun f cdv A outer s H vs Q E hr h => ?_)
  · obtain ⟨p, m, rfl, _⟩ := h
    rfl
  · obtain ⟨p, m, rfl, ⟨c, z, hp, hc, hz, hz2⟩, m0, m1, q⟩ := h
    refine ⟨_, (pss_cons (ps_if (pt_cmpR op_gt (pe_ix ix_list (pv 0) pe_int (fun _ _ => rfl)) pe_int (nomark _)) (pss_cons (ps_set (i := 2) sc_law_draw.nd rfl (Or.inl rfl) (pe_op op_mod (pe_callTy call_int1 (by rfl) T.n_int (by decide +kernel) (pa_cons (pe_ix ix_list (pv 0) pe_int (fun _ _ => rfl)) pa_nil)) (pv 1)))
      (pss_cons (ps_asg (pe_op op_fdiv (pe_ix ix_list (pv 0) pe_int (fun _ _ => rfl)) (pv 1)) (pg_sub (pv 0) pe_int set_list))
      (pss_one (ps_ret (pv 2))))) pss_nil)
      (pss_cons (ps_asg (pe_op op_mod (pe_callTy call_int1 (by rfl) T.n_int (by decide +kernel) (pa_cons (pe_op op_add (pe_op op_mul (pe_ix ix_list (pv 0) pe_int (fun _ _ => rfl)) pe_int) pe_int) pa_nil)) pe_int) (pg_sub (pv 0) pe_int set_list))
      (pss_one (ps_ret (pe_op op_mod (pe_op op_fdiv (pe_op op_mod (pe_callTy call_int1 (by rfl) T.n_int (by decide +kernel) (pa_cons (pe_op op_mul (pe_ix ix_list (pv 0) pe_int (fun _ _ => rfl)) (pe_ix ix_list (pv 0) pe_int (fun _ _ => rfl))) pa_nil)) pe_int) pe_int) (pv 1)))))), ?_⟩
    walk_at "rd"
    refine g_ixL (SqL.of hp) (v := .int c) (atI_nat (j := 0) rfl) ?_
    walk_at "rd"
    refine g_ite (fun e => ?_) (fun e => ?_)
    · have cp : 0 < c := of_decide_eq_true e
      walk_at "rd"
      refine g_ixL (SqL.of hp) (v := .int c) (atI_nat (j := 0) rfl) ?_
      walk_at "rd"
      refine .inl ⟨_, rfl, ?_⟩
      walk_at "rd"
      refine g_I (show (0 : Int) < m by omega) ?_
      walk_at "rd"
      refine g_ixL (SqL.of hp) (v := .int c) (atI_nat (j := 0) rfl) ?_
      walk_at "rd"
      refine g_I (⟨by omega, by omega⟩ : CDiv _ _) ?_
      walk_at "rd"
      refine ⟨p, _, 0, 0, rfl, rfl, hp, rfl, ?_⟩
      walk_at "rd"
      refine q (c % m) _ (Int.emod_nonneg _ (by omega)) (Int.emod_lt_of_pos _ (by omega)) ⟨c / m, z, upd_same, Int.ediv_nonneg hc (by omega), hz, hz2⟩ sx_upd
    · walk_at "rd"
      refine g_ixL (SqL.of hp) (v := .int z) (atI_nat (j := 1) rfl) ?_
      walk_at "rd"
      refine g_I (.inl ⟨by omega, by omega⟩) ?_
      walk_at "rd"
      refine .inl ⟨_, rfl, ?_⟩
      walk_at "rd"
      refine g_I (show (0 : Int) < 2147483647 by decide) ?_
      walk_at "rd"
      refine ⟨p, _, 1, 1, rfl, rfl, hp, rfl, ?_⟩
      have y0 : 0 ≤ (z * 48271 + 11) % 2147483647 := Int.emod_nonneg _ (by decide)
      have y1 : (z * 48271 + 11) % 2147483647 < 2147483647 := Int.emod_lt_of_pos _ (by decide)
      generalize (z * 48271 + 11) % 2147483647 = y at y0 y1 ⊢
      walk_at "rd"
      refine g_ixL (SqL.of upd_same) (v := .int y) (atI_nat (j := 1) rfl) ?_
      walk_at "rd"
      refine g_ixL (SqL.of upd_same) (v := .int y) (atI_nat (j := 1) rfl) ?_
      walk_at "rd"
      refine g_I (.inl ⟨by omega, by omega⟩) ?_
      walk_at "rd"
      refine .inl ⟨_, rfl, ?_⟩
      walk_at "rd"
      refine g_I (show (0 : Int) < 2147483629 by decide) ?_
      walk_at "rd"
      refine g_I (⟨by decide, by decide⟩ : CDiv _ _) ?_
      walk_at "rd"
      refine g_I (show (0 : Int) < m by omega) ?_
      walk_at "rd"
      exact q _ _ (Int.emod_nonneg _ (by omega)) (Int.emod_lt_of_pos _ (by omega)) ⟨c, y, upd_same, hc, y0, y1⟩ sx_upd

end
end K2

namespace K2
open PySem PySem.Spec PyProof.Rows L2 Mc
section
variable {P : Program} {w : World} {K : PySem.W.Frag} {mg : Str → Option Value} {base : Heap}
local macro_rules | `(tactic| walk_at "rd1") => `(tactic| first
  | with_reducible refine g_seq ?_
  | with_reducible refine g_asg ?_
  | with_reducible refine g_name ?_
  | with_reducible refine g_c ?_
  | with_reducible refine g_op ?_
  | with_reducible refine g_ifS ?_
  | with_reducible refine g_if ?_
  | with_reducible refine g_test ?_
  | with_reducible refine g_B ?_
  | with_reducible refine g_bl ?_
  | with_reducible refine g_blV ?_
  | with_reducible refine g_not ?_
  | with_reducible refine g_and ?_
  | with_reducible refine g_or ?_
  | with_reducible refine g_notV ?_
  | with_reducible refine g_andV ?_
  | with_reducible refine g_orV ?_
  | with_reducible refine g_ret ?_
  | with_reducible refine g_drop ?_
  | with_reducible refine g_next ?_
  | with_reducible refine g_retN ?_
  | with_reducible refine g_call ?_
  | with_reducible refine g_cb ?_
  | with_reducible refine g_cons ?_
  | with_reducible refine g_nil ?_
  | with_reducible refine g_tup ?_
  | with_reducible refine g_lst ?_
  | with_reducible refine g_prop ?_
  | with_reducible refine g_fld ?_
  | with_reducible refine g_meth ?_
  | with_reducible refine g_chain ?_
  | with_reducible refine g_yes ?_
  | with_reducible refine g_make ?_
  | with_reducible refine g_makeK ?_
  | with_reducible refine g_gsub ?_
  | with_reducible refine g_sfld ?_
  | with_reducible refine g_un ?_
  | with_reducible refine g_bm ?_
  | with_reducible refine g_iteT ?_
  | with_reducible refine g_iteF ?_
  | with_reducible refine g_I0 ?_
  | with_reducible refine g_add ?_
  | with_reducible refine g_sub ?_
  | ((with_reducible refine' g_var ?hv ?_); (case hv => rfl))
  | ((with_reducible refine g_eq ?hv ?_); (case hv => rfl))
  | ((with_reducible refine g_ne ?hv ?_); (case hv => rfl)))
local macro_rules | `(tactic| walk_at "rd") => `(tactic| repeat (walk_at "rd1"))

local macro_rules | `(tactic| walk_at "ty") => `(tactic| first | exact .non | exact .bl _ | exact .int _ | exact .str _ | exact .lst (by assumption) | exact .tup (by assumption) | exact .dK (by assumption) | exact .kTup (by assumption) (by assumption))
local macro_rules | `(tactic| walk_at "isiF") => `(tactic| refine g_isi (by walk_at "ty") (b := false) (by decide +kernel) ?_)
local macro_rules | `(tactic| walk_at "isiT") => `(tactic| refine g_isi (by walk_at "ty") (b := true) (by decide +kernel) ?_)

/-! ### parts: is_call, holds_blocks, is_part -/
/-- values and their kinds -/
def KL (K : PySem.W.Frag) (H : Hp) (l : List (V × String)) : Prop := ∀ p ∈ l, Mc.TyB K H p.1 p.2
theorem KL.ext {H H' : Hp} {l : List (V × String)} (e : Same H H') (h : KL K H l) : KL K H' l := fun p hp => TyB.ext e (h p hp)
def sMaybe : Str := "maybe"
def sBoth : Str := "both"
def sRun : Str := "run"
def sRisk : Str := "risk"
def sCall : Str := "call"
def sWant : Str := "want"
def holdsB : List (V × String) → Bool
  | (.str z, _) :: r => if z = sMaybe then (match r with | [x] => x.2 == "tuple" | _ => false) else decide (z = sBoth) && (match r with | [x, y] => x.2 == "tuple" && y.2 == "tuple" | _ => false)
  | _ => false
def spHolds (K : PySem.W.Frag) : Sp := fun vs H Q _ => ∃ v, vs = [v] ∧ ((∃ n, Mc.TyB K H v n ∧ n ≠ "tuple" ∧ Q (.bl false) H) ∨ (∃ a l, v = .ref a ∧ TupV K H a (l.map (·.1)) ∧ KL K H l ∧ Q (.bl (holdsB l)) H))
theorem str_ne {a b : Str} (h : decide (V.str a = V.str b) = false) : a ≠ b := fun e => by
  rw [e] at h
  exact absurd rfl (of_decide_eq_false h)
theorem str_eq {a b : Str} (h : decide (V.str a = V.str b) = true) : a = b := by injection (of_decide_eq_true h)
theorem not_str {H : Hp} {v : V} {n : String} (h : Mc.TyB K H v n) : (∃ z, v = .str z ∧ n = "str") ∨ ((n == "str") = false ∧ ∀ z, v ≠ .str z) := by
  cases h <;> first | exact .inl ⟨_, rfl, rfl⟩ | exact .inr ⟨by decide, fun z => by intro k; cases k⟩
theorem g_andC {c : Bool} {A B : Prop} (h : c = true) (q : A) : if c = true then A else B := by rw [if_pos h]; exact q
theorem g_andC0 {c : Bool} {A B : Prop} (h : c = false) (q : B) : if c = true then A else B := by rw [if_neg (by rw [h]; exact Bool.false_ne_true)]; exact q
theorem len_no {n : Nat} {k : Int} (h : (n : Int) ≠ k) : decide (V.int (n : Int) = V.int k) = false := decide_eq_false (by intro z; injection z with z; exact h z)
theorem len_yes {n : Nat} {k : Int} (h : (n : Int) = k) : decide (V.int (n : Int) = V.int k) = true := decide_eq_true (by rw [h])
theorem ok_holds_blocks (T : Txt K mg) (D : Def K mg "holds_blocks" s_holds_blocks ["value"]) : Cal P w K mg base 1 "holds_blocks" (spHolds K) := by
  refine cal_of D sc_holds_blocks (fun vs H Q E h => ?_) (fun f cdv A outer s H vs Q E hr h => ?_)
  · obtain ⟨v, rfl, _⟩ := h
    rfl
  · obtain ⟨v, rfl, h⟩ := h
    refine ⟨_, (pss_cons (ps_if (PW.pt (pw_or (pt_not (pt_val (pe_callB call_isi (by rfl) T.n_isinstance (by decide +kernel) (pa_cons (pv 0) (pa_cons (pe_ty "tuple" (by rfl) T.n_tuple (by decide +kernel)) pa_nil))))) (pw_or (pt_cmpR op_eq (pe_callB call_len_seq (by rfl) T.n_len (by decide +kernel) (pa_cons (pv 0) pa_nil)) pe_int (nomark _)) (pw_or1 (pt_not (pt_val (pe_callB call_isi (by rfl) T.n_isinstance (by decide +kernel) (pa_cons (pe_ix ix_tup (pv 0) pe_int (fun _ _ => rfl)) (pa_cons (pe_ty "str" (by rfl) T.n_str (by decide +kernel)) pa_nil))))))))) (pss_one (ps_ret pe_bl)) pss_nil)
      (pss_cons (ps_if (pt_cmpR op_eq (pe_ix ix_tup (pv 0) pe_int (fun _ _ => rfl)) pe_str (nomark _)) (pss_one (ps_ret (pe_and (pe_cmpR op_eq (pe_callB call_len_seq (by rfl) T.n_len (by decide +kernel) (pa_cons (pv 0) pa_nil)) pe_int (nomark _)) (pe_one (pe_callB call_isi (by rfl) T.n_isinstance (by decide +kernel) (pa_cons (pe_ix ix_tup (pv 0) pe_int (fun _ _ => rfl)) (pa_cons (pe_ty "tuple" (by rfl) T.n_tuple (by decide +kernel)) pa_nil))))))) pss_nil)
      (pss_one (ps_ret (pe_and (pe_cmpR op_eq (pe_ix ix_tup (pv 0) pe_int (fun _ _ => rfl)) pe_str (nomark _)) (pe_and (pe_cmpR op_eq (pe_callB call_len_seq (by rfl) T.n_len (by decide +kernel) (pa_cons (pv 0) pa_nil)) pe_int (nomark _)) (pe_and (pe_callB call_isi (by rfl) T.n_isinstance (by decide +kernel) (pa_cons (pe_ix ix_tup (pv 0) pe_int (fun _ _ => rfl)) (pa_cons (pe_ty "tuple" (by rfl) T.n_tuple (by decide +kernel)) pa_nil))) (pe_one (pe_callB call_isi (by rfl) T.n_isinstance (by decide +kernel) (pa_cons (pe_ix ix_tup (pv 0) pe_int (fun _ _ => rfl)) (pa_cons (pe_ty "tuple" (by rfl) T.n_tuple (by decide +kernel)) pa_nil))))))))))), ?_⟩
    walk_at "rd"
    rcases h with ⟨n, ty, hn, q⟩ | ⟨a, l, rfl, tv, kl, q⟩
    · refine g_isi ty (kb_tuple ty.mem) ?_
      have e : (n == "tuple") = false := by simpa using hn
      rw [e]
      walk_at "rd"
      exact q
    · refine g_isi tv.ty (b := true) (by decide +kernel) ?_
      walk_at "rd"
      show (if false = true then _ else _)
      walk_at "rd"
      refine ⟨a, _, rfl, .inr tv.sq, ?_⟩
      walk_at "rd"
      match l, tv, kl, q with
      | [], tv, kl, q =>
        show (if true = true then _ else _)
        walk_at "rd"
        exact q
      | (x, n) :: r, tv, kl, q =>
        have e1 : decide (V.int ((((x, n) :: r).map (·.1)).length : Int) = V.int 0) = false := decide_eq_false (by intro z; injection z with z; simp at z; omega)
        rw [e1]
        walk_at "rd"
        refine g_ixT tv.sq (v := x) (atI_nat (j := 0) rfl) ?_
        walk_at "rd"
        have tx : Mc.TyB K H x n := kl _ (List.mem_cons_self ..)
        refine g_isi tx (kb_str tx.mem) ?_
        walk_at "rd"
        rcases not_str tx with ⟨z, rfl, rfl⟩ | ⟨ns, nz⟩
        · show (if false = true then _ else _)
          walk_at "rd"
          refine g_ixT tv.sq (v := .str z) (atI_nat (j := 0) rfl) ?_
          walk_at "rd"
          refine g_ite (fun e => ?_) (fun e => ?_)
          · have ez : z = sMaybe := str_eq e
            have eq : holdsB ((.str z, "str") :: r) = (match r with | [x] => x.2 == "tuple" | _ => false) := by
              show (if z = sMaybe then _ else _) = _
              rw [if_pos ez]
            rw [eq] at q
            walk_at "rd"
            refine ⟨a, _, rfl, .inr tv.sq, ?_⟩
            walk_at "rd"
            match r, tv, kl, q with
            | [], tv, kl, q =>
              show (if false = true then _ else _)
              walk_at "rd"
              exact q
            | [(y, m)], tv, kl, q =>
              show (if true = true then _ else _)
              walk_at "rd"
              refine g_ixT tv.sq (v := y) (atI_nat (j := 1) rfl) ?_
              walk_at "rd"
              have ty : Mc.TyB K H y m := kl (y, m) (by simp)
              refine g_isi ty (kb_tuple ty.mem) ?_
              exact q
            | p1 :: p2 :: r', tv, kl, q =>
              refine g_andC0 (len_no (by simp; try omega)) ?_
              walk_at "rd"
              exact q
          · have ez : z ≠ sMaybe := str_ne e
            have eq : holdsB ((.str z, "str") :: r) = (decide (z = sBoth) && (match r with | [x, y] => x.2 == "tuple" && y.2 == "tuple" | _ => false)) := by
              show (if z = sMaybe then _ else _) = _
              rw [if_neg ez]
            rw [eq] at q
            walk_at "rd"
            refine g_ixT tv.sq (v := .str z) (atI_nat (j := 0) rfl) ?_
            walk_at "rd"
            by_cases eb : z = sBoth
            · have d1 : decide (V.str z = V.str sBoth) = true := decide_eq_true (by rw [eb])
              have d2 : decide (z = sBoth) = true := decide_eq_true eb
              rw [d2, Bool.true_and] at q
              refine g_andC d1 ?_
              walk_at "rd"
              refine ⟨a, _, rfl, .inr tv.sq, ?_⟩
              walk_at "rd"
              match r, tv, kl, q with
              | [], tv, kl, q =>
                refine g_andC0 (len_no (by simp; try omega)) ?_
                walk_at "rd"
                exact q
              | [p1], tv, kl, q =>
                refine g_andC0 (len_no (by simp; try omega)) ?_
                walk_at "rd"
                exact q
              | [(y, m), (y', m')], tv, kl, q =>
                refine g_andC (len_yes (by simp)) ?_
                walk_at "rd"
                refine g_ixT tv.sq (v := y) (atI_nat (j := 1) rfl) ?_
                walk_at "rd"
                have ty : Mc.TyB K H y m := kl (y, m) (by simp)
                have ty' : Mc.TyB K H y' m' := kl (y', m') (by simp)
                refine g_isi ty (kb_tuple ty.mem) ?_
                walk_at "rd"
                have q : Q (.bl (m == "tuple" && m' == "tuple")) H := q
                cases em : (m == "tuple")
                · rw [em] at q
                  walk_at "rd"
                  exact q
                · rw [em] at q
                  walk_at "rd"
                  refine g_ixT tv.sq (v := y') (atI_nat (j := 2) rfl) ?_
                  walk_at "rd"
                  refine g_isi ty' (kb_tuple ty'.mem) ?_
                  exact q
              | p1 :: p2 :: p3 :: r', tv, kl, q =>
                refine g_andC0 (len_no (by simp; try omega)) ?_
                walk_at "rd"
                exact q
            · have d1 : decide (V.str z = V.str sBoth) = false := decide_eq_false (fun k => eb (V.str.inj k))
              have d2 : decide (z = sBoth) = false := decide_eq_false eb
              rw [d2, Bool.false_and] at q
              refine g_andC0 d1 ?_
              exact q
        · rw [ns]
          walk_at "rd"
          have eq : holdsB ((x, n) :: r) = false := by
            cases x <;> first | rfl | exact absurd rfl (nz _)
          rw [eq] at q
          exact q
end
end K2

namespace K2
open PySem PySem.Spec PyProof.Rows L2 Mc
section
variable {P : Program} {w : World} {K : PySem.W.Frag} {mg : Str → Option Value} {base : Heap}
local macro_rules | `(tactic| walk_at "rd1") => `(tactic| first
  | with_reducible refine g_seq ?_
  | with_reducible refine g_asg ?_
  | with_reducible refine g_name ?_
  | with_reducible refine g_c ?_
  | with_reducible refine g_op ?_
  | with_reducible refine g_ifS ?_
  | with_reducible refine g_if ?_
  | with_reducible refine g_test ?_
  | with_reducible refine g_B ?_
  | with_reducible refine g_bl ?_
  | with_reducible refine g_blV ?_
  | with_reducible refine g_not ?_
  | with_reducible refine g_and ?_
  | with_reducible refine g_or ?_
  | with_reducible refine g_notV ?_
  | with_reducible refine g_andV ?_
  | with_reducible refine g_orV ?_
  | with_reducible refine g_ret ?_
  | with_reducible refine g_drop ?_
  | with_reducible refine g_next ?_
  | with_reducible refine g_retN ?_
  | with_reducible refine g_call ?_
  | with_reducible refine g_cb ?_
  | with_reducible refine g_cons ?_
  | with_reducible refine g_nil ?_
  | with_reducible refine g_tup ?_
  | with_reducible refine g_lst ?_
  | with_reducible refine g_prop ?_
  | with_reducible refine g_fld ?_
  | with_reducible refine g_meth ?_
  | with_reducible refine g_chain ?_
  | with_reducible refine g_yes ?_
  | with_reducible refine g_make ?_
  | with_reducible refine g_makeK ?_
  | with_reducible refine g_gsub ?_
  | with_reducible refine g_sfld ?_
  | with_reducible refine g_un ?_
  | with_reducible refine g_bm ?_
  | with_reducible refine g_iteT ?_
  | with_reducible refine g_iteF ?_
  | with_reducible refine g_I0 ?_
  | with_reducible refine g_add ?_
  | with_reducible refine g_sub ?_
  | ((with_reducible refine' g_var ?hv ?_); (case hv => rfl))
  | ((with_reducible refine g_eq ?hv ?_); (case hv => rfl))
  | ((with_reducible refine g_ne ?hv ?_); (case hv => rfl)))
local macro_rules | `(tactic| walk_at "rd") => `(tactic| repeat (walk_at "rd1"))

local macro_rules | `(tactic| walk_at "ty") => `(tactic| first | exact .non | exact .bl _ | exact .int _ | exact .str _ | exact .lst (by assumption) | exact .tup (by assumption) | exact .dK (by assumption) | exact .kTup (by assumption) (by assumption))
local macro_rules | `(tactic| walk_at "isiF") => `(tactic| refine g_isi (by walk_at "ty") (b := false) (by decide +kernel) ?_)
local macro_rules | `(tactic| walk_at "isiT") => `(tactic| refine g_isi (by walk_at "ty") (b := true) (by decide +kernel) ?_)

def callW (z : Str) : Bool := inV (.str z) [.str sCall, .str sWant]
def spIsCall (K : PySem.W.Frag) : Sp := fun vs H Q _ => ∃ a z xs, vs = [.ref a] ∧ TupV K H a (.str z :: xs) ∧ ∀ H', Same H H' → Q (.bl (callW z)) H'
theorem tupG_same {H : Hp} {xs : List V} {Q : VK} (hl : xs.length ≤ 1000) (k : ∀ a H', H a = none → Same H H' → H' a = some (.tup xs) → Q (.ref a) H') : TupG Q xs H :=
  ⟨sz_le hl, fun p hp => k p _ hp (same_new hp) upd_same⟩
theorem ok_is_call (T : Txt K mg) (D : Def K mg "is_call" s_is_call ["part"]) : Cal P w K mg base 1 "is_call" (spIsCall K) := by
  refine cal_of D sc_is_call (fun vs H Q E h => ?_) (fun f cdv A outer s H vs Q E hr h => ?_)
  · obtain ⟨a, z, xs, rfl, _⟩ := h
    rfl
  · obtain ⟨a, z, xs, rfl, tv, q⟩ := h
    refine ⟨_, (pss_one (ps_ret (pe_cmpR op_in_seq (pe_ix ix_tup (pv 0) pe_int (fun _ _ => rfl)) (pe_tup (pa_cons pe_str (pa_cons pe_str pa_nil))) (by rfl)))), ?_⟩
    walk_at "rd"
    refine g_ixT tv.sq (v := .str z) (atI_nat (j := 0) rfl) ?_
    walk_at "rd"
    refine tupG_same (by decide) fun p H1 _ S1 hp => ?_
    exact ⟨p, _, rfl, .inr (SqT.of hp), rfl, rfl, q _ S1⟩
def runB : List (V × String) → Bool
  | [(.int i, _), (y, _)] => btw (.int i) 0 20 && btw y i 20
  | _ => false
def twoN : List (V × String) → Bool
  | [x, y] => nmV x.1 && nmV y.1
  | _ => false
def partB : List (V × String) → Bool
  | (.str z, k) :: r => if z = sRun then runB r else if z = sRisk then r.isEmpty else if callW z = true then twoN r else holdsB ((.str z, k) :: r)
  | _ => false
def Short (l : List (V × String)) : Prop := ∀ p ∈ l, ∀ z, p.1 = .str z → z.length ≤ 1000
def spPart (K : PySem.W.Frag) : Sp := fun vs H Q _ => ∃ v, vs = [v] ∧ ((∃ n, Mc.TyB K H v n ∧ n ≠ "tuple" ∧ Q (.bl false) H) ∨ (∃ a l, v = .ref a ∧ TupV K H a (l.map (·.1)) ∧ KL K H l ∧ Short l ∧ ∀ H', Same H H' → Q (.bl (partB l)) H'))
theorem runB_not {x y : V} {n m : String} (h : isI x = false) : runB [(x, n), (y, m)] = false := by
  cases x <;> first | rfl | exact Bool.noConfusion h
theorem runB_btw {x y : V} {n m : String} (h : btw x 0 20 = false) : runB [(x, n), (y, m)] = false := by
  cases x with
  | int i => show (btw (.int i) 0 20 && _) = false; rw [h]; rfl
  | _ => rfl
theorem ok_is_part (T : Txt K mg) (D : Def K mg "is_part" s_is_part ["value"]) (c_is_between : Cal P w K mg base 2 "is_between" (spBtw K)) (c_is_name : Cal P w K mg base 1 "is_name" (spName K))
    (c_is_call : Cal P w K mg base 1 "is_call" (spIsCall K)) (c_holds_blocks : Cal P w K mg base 1 "holds_blocks" (spHolds K)) : Cal P w K mg base 3 "is_part" (spPart K) := by
  refine cal_of D sc_is_part (fun vs H Q E h => ?_) (fun f cdv A outer s H vs Q E hr h => ?_)
  · obtain ⟨v, rfl, _⟩ := h
    rfl
  · obtain ⟨v, rfl, h⟩ := h
    refine ⟨_, (pss_cons (ps_if (PW.pt (pw_or (pt_not (pt_val (pe_callB call_isi (by rfl) T.n_isinstance (by decide +kernel) (pa_cons (pv 0) (pa_cons (pe_ty "tuple" (by rfl) T.n_tuple (by decide +kernel)) pa_nil))))) (pw_or (pt_cmpR op_eq (pe_callB call_len_seq (by rfl) T.n_len (by decide +kernel) (pa_cons (pv 0) pa_nil)) pe_int (nomark _)) (pw_or1 (pt_not (pt_val (pe_callB call_isi (by rfl) T.n_isinstance (by decide +kernel) (pa_cons (pe_ix ix_tup (pv 0) pe_int (fun _ _ => rfl)) (pa_cons (pe_ty "str" (by rfl) T.n_str (by decide +kernel)) pa_nil))))))))) (pss_one (ps_ret pe_bl)) pss_nil)
      (pss_cons (ps_if (pt_cmpR op_eq (pe_ix ix_tup (pv 0) pe_int (fun _ _ => rfl)) pe_str (nomark _)) (pss_one (ps_ret (pe_and (pe_cmpR op_eq (pe_callB call_len_seq (by rfl) T.n_len (by decide +kernel) (pa_cons (pv 0) pa_nil)) pe_int (nomark _)) (pe_and (pe_f c_is_between hr (by decide) (by rfl) (pa_cons (pe_ix ix_tup (pv 0) pe_int (fun _ _ => rfl)) (pa_cons pe_int (pa_cons (pe_gx rfl T.g_MOST_TICKS) pa_nil)))) (pe_one (pe_f c_is_between hr (by decide) (by rfl) (pa_cons (pe_ix ix_tup (pv 0) pe_int (fun _ _ => rfl)) (pa_cons (pe_ix ix_tup (pv 0) pe_int (fun _ _ => rfl)) (pa_cons (pe_gx rfl T.g_MOST_TICKS) pa_nil))))))))) pss_nil)
      (pss_cons (ps_if (pt_cmpR op_eq (pe_ix ix_tup (pv 0) pe_int (fun _ _ => rfl)) pe_str (nomark _)) (pss_one (ps_ret (pe_cmpR op_eq (pe_callB call_len_seq (by rfl) T.n_len (by decide +kernel) (pa_cons (pv 0) pa_nil)) pe_int (nomark _)))) pss_nil)
      (pss_cons (ps_if (pt_val (pe_f c_is_call hr (by decide) (by rfl) (pa_cons (pv 0) pa_nil))) (pss_one (ps_ret (pe_and (pe_cmpR op_eq (pe_callB call_len_seq (by rfl) T.n_len (by decide +kernel) (pa_cons (pv 0) pa_nil)) pe_int (nomark _)) (pe_and (pe_f c_is_name hr (by decide) (by rfl) (pa_cons (pe_ix ix_tup (pv 0) pe_int (fun _ _ => rfl)) pa_nil)) (pe_one (pe_f c_is_name hr (by decide) (by rfl) (pa_cons (pe_ix ix_tup (pv 0) pe_int (fun _ _ => rfl)) pa_nil))))))) pss_nil)
      (pss_one (ps_ret (pe_f c_holds_blocks hr (by decide) (by rfl) (pa_cons (pv 0) pa_nil)))))))), ?_⟩
    walk_at "rd"
    rcases h with ⟨n, ty, hn, q⟩ | ⟨a, l, rfl, tv, kl, sh, q⟩
    · refine g_isi ty (kb_tuple ty.mem) ?_
      have e : (n == "tuple") = false := by simpa using hn
      rw [e]
      walk_at "rd"
      exact q
    · have q0 := q H (Same.refl H)
      refine g_isi tv.ty (b := true) (by decide +kernel) ?_
      walk_at "rd"
      show (if false = true then _ else _)
      walk_at "rd"
      refine ⟨a, _, rfl, .inr tv.sq, ?_⟩
      walk_at "rd"
      match l, tv, kl, sh, q, q0 with
      | [], tv, kl, sh, q, q0 =>
        show (if true = true then _ else _)
        walk_at "rd"
        exact q0
      | (x, n) :: r, tv, kl, sh, q, q0 =>
        refine g_andC0 (len_no (by simp; try omega)) ?_
        walk_at "rd"
        refine g_ixT tv.sq (v := x) (atI_nat (j := 0) rfl) ?_
        walk_at "rd"
        have tx : Mc.TyB K H x n := kl _ (List.mem_cons_self ..)
        refine g_isi tx (kb_str tx.mem) ?_
        walk_at "rd"
        rcases not_str tx with ⟨z, rfl, rfl⟩ | ⟨ns, nz⟩
        · show (if false = true then _ else _)
          walk_at "rd"
          refine g_ixT tv.sq (v := .str z) (atI_nat (j := 0) rfl) ?_
          walk_at "rd"
          by_cases e1 : z = sRun
          · have pb : partB ((.str z, "str") :: r) = runB r := if_pos e1
            rw [pb] at q q0
            refine g_andC (decide_eq_true (congrArg V.str e1)) ?_
            walk_at "rd"
            refine ⟨a, _, rfl, .inr tv.sq, ?_⟩
            walk_at "rd"
            match r, tv, kl, sh, q, q0 with
            | [], tv, kl, sh, q, q0 =>
              refine g_andC0 (len_no (by simp; try omega)) ?_
              exact q0
            | [p1], tv, kl, sh, q, q0 =>
              refine g_andC0 (len_no (by simp; try omega)) ?_
              have : runB [p1] = false := by obtain ⟨y, m⟩ := p1; cases y <;> rfl
              rw [this] at q0
              exact q0
            | [(x1, n1), (x2, n2)], tv, kl, sh, q, q0 =>
              refine g_andC (len_yes (by simp)) ?_
              walk_at "rd"
              refine g_ixT tv.sq (v := x1) (atI_nat (j := 1) rfl) ?_
              walk_at "rd"
              have t1 : Mc.TyB K H x1 n1 := kl (x1, n1) (by simp)
              have t2 : Mc.TyB K H x2 n2 := kl (x2, n2) (by simp)
              refine ⟨x1, n1, 0, 20, rfl, t1, ?_⟩
              walk_at "rd"
              cases eb : btw x1 0 20
              · rw [runB_btw eb] at q0
                walk_at "rd"
                exact q0
              · obtain ⟨i, rfl⟩ := btw_int eb
                walk_at "rd"
                refine g_ixT tv.sq (v := x2) (atI_nat (j := 2) rfl) ?_
                walk_at "rd"
                refine g_ixT tv.sq (v := .int i) (atI_nat (j := 1) rfl) ?_
                walk_at "rd"
                refine ⟨x2, n2, i, 20, rfl, t2, ?_⟩
                have : runB [(.int i, n1), (x2, n2)] = btw x2 i 20 := by
                  show (btw (.int i) 0 20 && btw x2 i 20) = _
                  rw [eb]; rfl
                rw [this] at q0
                exact q0
            | p1 :: p2 :: p3 :: r', tv, kl, sh, q, q0 =>
              refine g_andC0 (len_no (by simp; try omega)) ?_
              have : runB (p1 :: p2 :: p3 :: r') = false := by obtain ⟨y, m⟩ := p1; cases y <;> rfl
              rw [this] at q0
              exact q0
          refine g_andC0 (decide_eq_false (fun k => e1 (V.str.inj k))) ?_
          walk_at "rd"
          refine g_ixT tv.sq (v := .str z) (atI_nat (j := 0) rfl) ?_
          walk_at "rd"
          by_cases e2 : z = sRisk
          · have pb : partB ((.str z, "str") :: r) = r.isEmpty := by
              show (if z = sRun then _ else _) = _
              rw [if_neg e1, if_pos e2]
            rw [pb] at q q0
            refine g_andC (decide_eq_true (congrArg V.str e2)) ?_
            walk_at "rd"
            refine ⟨a, _, rfl, .inr tv.sq, ?_⟩
            walk_at "rd"
            cases r with
            | nil => exact q0
            | cons p r =>
              rw [show decide (V.int ((((V.str z, "str") :: p :: r).map (·.1)).length : Int) = V.int 1) = false from len_no (by simp; try omega)]
              exact q0
          refine g_andC0 (decide_eq_false (fun k => e2 (V.str.inj k))) ?_
          walk_at "rd"
          refine ⟨a, z, _, rfl, tv, fun H1 S1 => ?_⟩
          walk_at "rd"
          have tv := TupV.ext S1 tv
          have kl := KL.ext S1 kl
          cases ec : callW z
          · have pb : partB ((.str z, "str") :: r) = holdsB ((.str z, "str") :: r) := by
              show (if z = sRun then _ else if z = sRisk then _ else if callW z = true then _ else _) = _
              rw [if_neg e1, if_neg e2, ec]
              exact if_neg Bool.false_ne_true
            rw [pb] at q
            walk_at "rd"
            exact ⟨.ref a, rfl, .inr ⟨a, (.str z, "str") :: r, rfl, tv, kl, q _ S1⟩⟩
          · walk_at "rd"
            refine ⟨a, _, rfl, .inr tv.sq, ?_⟩
            walk_at "rd"
            have pb : partB ((.str z, "str") :: r) = twoN r := by
              show (if z = sRun then _ else if z = sRisk then _ else if callW z = true then _ else _) = _
              rw [if_neg e1, if_neg e2, if_pos ec]
            rw [pb] at q
            match r, tv, kl, sh, q with
            | [], tv, kl, sh, q =>
              refine g_andC0 (len_no (by simp; try omega)) ?_
              exact q _ S1
            | [p1], tv, kl, sh, q =>
              refine g_andC0 (len_no (by simp; try omega)) ?_
              exact q _ S1
            | [(x1, n1), (x2, n2)], tv, kl, sh, q =>
              refine g_andC (len_yes (by simp)) ?_
              have q : ∀ H', Same H H' → Q (.bl (nmV x1 && nmV x2)) H' := q
              walk_at "rd"
              refine g_ixT tv.sq (v := x1) (atI_nat (j := 1) rfl) ?_
              walk_at "rd"
              have t1 : Mc.TyB K H1 x1 n1 := kl (x1, n1) (by simp)
              have t2 : Mc.TyB K H1 x2 n2 := kl (x2, n2) (by simp)
              refine ⟨x1, n1, rfl, t1, fun z e => sh (x1, n1) (by simp) z e, fun H2 S2 => ?_⟩
              walk_at "rd"
              cases eb : nmV x1
              · rw [eb] at q
                walk_at "rd"
                exact q _ (Same.trans S1 S2)
              · rw [eb] at q
                walk_at "rd"
                refine g_ixT (TupV.ext S2 tv).sq (v := x2) (atI_nat (j := 2) rfl) ?_
                walk_at "rd"
                exact ⟨x2, n2, rfl, TyB.ext S2 t2, fun z e => sh (x2, n2) (by simp) z e, fun H3 S3 => q _ (Same.trans S1 (Same.trans S2 S3))⟩
            | p1 :: p2 :: p3 :: r', tv, kl, sh, q =>
              refine g_andC0 (len_no (by simp; try omega)) ?_
              exact q _ S1
        · rw [ns]
          walk_at "rd"
          have eq : partB ((x, n) :: r) = false := by
            cases x <;> first | rfl | exact absurd rfl (nz _)
          rw [eq] at q0
          exact q0
end
end K2

namespace K2
open PySem PySem.Spec PyProof.Rows L2 Mc
section
variable {K : PySem.W.Frag}
/-! ### blocks as data -/
inductive Tr where
  | leaf (i : Nat)
  | odd
  | may (b : List Tr)
  | both (b c : List Tr)
/-- lists may change their items; all else stays -/
def Kp (H H' : Hp) : Prop := ∀ b o, H b = some o → H' b = some o ∨ ∃ xs ys, o = .lst xs ∧ H' b = some (.lst ys)
theorem Kp.of {H H' : Hp} (e : Same H H') : Kp H H' := fun b o h => .inl (e b o h)
theorem Kp.refl (H : Hp) : Kp H H := Kp.of (Same.refl H)
theorem Kp.trans {H H1 H2 : Hp} (e : Kp H H1) (f : Kp H1 H2) : Kp H H2 := fun b o h => by
  rcases e b o h with h1 | ⟨xs, ys, rfl, h1⟩
  · exact f b o h1
  · rcases f b _ h1 with h2 | ⟨xs', ys', _, h2⟩
    · exact .inr ⟨xs, ys, rfl, h2⟩
    · exact .inr ⟨xs, ys', rfl, h2⟩
theorem Kp.upd {H : Hp} {a : Addr} {xs ys : List V} (h : H a = some (.lst xs)) : Kp H (upd H a (.lst ys)) := fun b o e => by
  by_cases hb : b = a
  · subst hb
    rw [h] at e
    cases e
    exact .inr ⟨xs, ys, rfl, upd_same⟩
  · exact .inl (by rw [upd_ne hb]; exact e)
theorem Kp.get {H H' : Hp} {b : Addr} {o : HO} (e : Kp H H') (h : H b = some o) (n : ∀ xs, o ≠ .lst xs) : H' b = some o := by
  rcases e b o h with q | ⟨xs, _, q, _⟩
  · exact q
  · exact absurd q (n xs)
theorem Kp.fresh {H H' : Hp} {b : Addr} (e : Kp H H') (h : H' b = none) : H b = none := by
  rcases q : H b with _ | o
  · rfl
  · rcases e b o q with z | ⟨_, _, _, z⟩ <;> rw [h] at z <;> cases z
theorem TyB.kp {H H' : Hp} {v : V} {n : String} (e : Kp H H') (h : Mc.TyB K H v n) : Mc.TyB K H' v n := by
  cases h with
  | non => exact .non
  | bl b => exact .bl b
  | int i => exact .int i
  | str z => exact .str z
  | lst z => rcases e _ _ z with q | ⟨_, ys, _, q⟩ <;> exact .lst q
  | tup z => exact .tup (e.get z (fun _ k => by cases k))
  | dK z => exact .dK (e.get z (fun _ k => by cases k))
  | kTup z c => exact .kTup z c
theorem TupV.kp {H H' : Hp} {a : Addr} {xs : List V} (e : Kp H H') (h : TupV K H a xs) : TupV K H' a xs := by
  refine ⟨TyB.kp e h.ty, ?_⟩
  rcases h.sq with (h | ⟨o, h⟩) | h
  · exact .inl (.inl (e.get h (fun _ k => by cases k)))
  · exact .inl (.inr ⟨o, e.get h (fun _ k => by cases k)⟩)
  · exact .inr h
theorem KL.kp {H H' : Hp} {l : List (V × String)} (e : Kp H H') (h : KL K H l) : KL K H' l := fun p hp => TyB.kp e (h p hp)
/-- a value that is no part -/
def OddV (K : PySem.W.Frag) (H : Hp) (v : V) : Prop := (∃ n, Mc.TyB K H v n ∧ n ≠ "tuple") ∨ (∃ a l, v = .ref a ∧ TupV K H a (l.map (·.1)) ∧ KL K H l ∧ Short l ∧ partB l = false ∧ holdsB l = false)
theorem OddV.kp {H H' : Hp} {v : V} (e : Kp H H') (h : OddV K H v) : OddV K H' v := by
  rcases h with ⟨n, t, q⟩ | ⟨a, l, ev, tv, kl, sh, p, q⟩
  · exact .inl ⟨n, TyB.kp e t, q⟩
  · exact .inr ⟨a, l, ev, tv.kp e, kl.kp e, sh, p, q⟩
def sA : Str := "a"
def sP : Str := "p"
def sNone : Str := "none"
def leafL : Nat → List (V × String)
  | 0 => [(.str sRun, "str"), (.int 0, "int"), (.int 20, "int")]
  | 1 => [(.str sRisk, "str")]
  | 2 => [(.str sWant, "str"), (.str sA, "str"), (.str sP, "str")]
  | 3 => [(.str sRun, "str"), (.int 3, "int"), (.int 3, "int")]
  | _ => [(.str sCall, "str"), (.str sNone, "str"), (.str sNone, "str")]
mutual
def RepT (K : PySem.W.Frag) (H : Hp) : Tr → V → Prop
  | .leaf i, v => ∃ a, v = .ref a ∧ TupV K H a ((leafL i).map (·.1))
  | .odd, v => OddV K H v
  | .may b, v => ∃ a c xs, v = .ref a ∧ TupV K H a [.str sMaybe, .ref c] ∧ TupV K H c xs ∧ RepB K H b xs
  | .both b c, v => ∃ a p q xs ys, v = .ref a ∧ TupV K H a [.str sBoth, .ref p, .ref q] ∧ TupV K H p xs ∧ RepB K H b xs ∧ TupV K H q ys ∧ RepB K H c ys
def RepB (K : PySem.W.Frag) (H : Hp) : List Tr → List V → Prop
  | [], xs => xs = []
  | t :: b, xs => ∃ v ys, xs = v :: ys ∧ RepT K H t v ∧ RepB K H b ys
end
mutual
theorem RepT.kp {H H' : Hp} (e : Kp H H') : ∀ (t : Tr) (v : V), RepT K H t v → RepT K H' t v
  | .leaf i, v, h => by
    obtain ⟨a, ev, tv⟩ := (show ∃ a, v = .ref a ∧ TupV K H a ((leafL i).map (·.1)) by unfold RepT at h; exact h)
    unfold RepT
    exact ⟨a, ev, tv.kp e⟩
  | .odd, v, h => by
    unfold RepT at h ⊢
    exact OddV.kp e h
  | .may b, v, h => by
    unfold RepT at h ⊢
    obtain ⟨a, c, xs, ev, tv, tc, rb⟩ := h
    exact ⟨a, c, xs, ev, tv.kp e, tc.kp e, RepB.kp e b xs rb⟩
  | .both b c, v, h => by
    unfold RepT at h ⊢
    obtain ⟨a, p, q, xs, ys, ev, tv, tp, rb, tq, rc⟩ := h
    exact ⟨a, p, q, xs, ys, ev, tv.kp e, tp.kp e, RepB.kp e b xs rb, tq.kp e, RepB.kp e c ys rc⟩
theorem RepB.kp {H H' : Hp} (e : Kp H H') : ∀ (b : List Tr) (xs : List V), RepB K H b xs → RepB K H' b xs
  | [], xs, h => by
    unfold RepB at h ⊢
    exact h
  | t :: b, xs, h => by
    unfold RepB at h ⊢
    obtain ⟨v, ys, ex, rt, rb⟩ := h
    exact ⟨v, ys, ex, RepT.kp e t v rt, RepB.kp e b ys rb⟩
end
theorem RepB.len {H : Hp} : ∀ {b : List Tr} {xs : List V}, RepB K H b xs → b.length = xs.length
  | [], xs, h => by
    unfold RepB at h
    rw [h]
    rfl
  | t :: b, xs, h => by
    unfold RepB at h
    obtain ⟨v, ys, rfl, _, rb⟩ := h
    exact congrArg (· + 1) (RepB.len rb)
theorem RepB.get {H : Hp} : ∀ {b : List Tr} {xs : List V} {i : Nat} {v : V}, RepB K H b xs → xs[i]? = some v → ∃ t, b[i]? = some t ∧ RepT K H t v
  | [], xs, i, v, h, e => by
    unfold RepB at h
    subst h
    cases e
  | t :: b, xs, i, v, h, e => by
    unfold RepB at h
    obtain ⟨u, ys, rfl, rt, rb⟩ := h
    cases i with
    | zero => cases e; exact ⟨t, rfl, rt⟩
    | succ i => exact RepB.get (b := b) (i := i) rb e
theorem RepB.app {H : Hp} : ∀ {b c : List Tr} {xs ys : List V}, RepB K H b xs → RepB K H c ys → RepB K H (b ++ c) (xs ++ ys)
  | [], c, xs, ys, h, h' => by
    unfold RepB at h
    subst h
    exact h'
  | t :: b, c, xs, ys, h, h' => by
    unfold RepB at h
    obtain ⟨v, zs, rfl, rt, rb⟩ := h
    show RepB K H (t :: (b ++ c)) (v :: (zs ++ ys))
    unfold RepB
    exact ⟨v, _, rfl, rt, RepB.app rb h'⟩
theorem RepB.one {H : Hp} {t : Tr} {v : V} (h : RepT K H t v) : RepB K H [t] [v] := by
  unfold RepB
  exact ⟨v, [], rfl, h, by unfold RepB; rfl⟩
def isPartT : Tr → Bool
  | .odd => false
  | _ => true
def holdsT : Tr → Bool
  | .may _ => true
  | .both _ _ => true
  | _ => false
def blocks : Tr → List (List Tr)
  | .may b => [b]
  | .both b c => [b, c]
  | _ => []
theorem leaf_part (i : Nat) : partB (leafL i) = true ∧ holdsB (leafL i) = false ∧ Short (leafL i) ∧ ∀ p ∈ leafL i, ∃ n, p.2 = n ∧ ((∃ z, p.1 = .str z ∧ n = "str") ∨ (∃ j, p.1 = .int j ∧ n = "int")) := by
  match i with
  | 0 => exact ⟨by decide +kernel, by decide +kernel, fun p hp z e => by simp only [leafL, List.mem_cons, List.not_mem_nil, or_false] at hp; rcases hp with rfl | rfl | rfl <;> cases e <;> decide, fun p hp => by simp only [leafL, List.mem_cons, List.not_mem_nil, or_false] at hp; rcases hp with rfl | rfl | rfl <;> simp⟩
  | 1 => exact ⟨by decide +kernel, by decide +kernel, fun p hp z e => by simp only [leafL, List.mem_cons, List.not_mem_nil, or_false] at hp; rcases hp with rfl <;> cases e <;> decide, fun p hp => by simp only [leafL, List.mem_cons, List.not_mem_nil, or_false] at hp; rcases hp with rfl <;> simp⟩
  | 2 => exact ⟨by decide +kernel, by decide +kernel, fun p hp z e => by simp only [leafL, List.mem_cons, List.not_mem_nil, or_false] at hp; rcases hp with rfl | rfl | rfl <;> cases e <;> decide, fun p hp => by simp only [leafL, List.mem_cons, List.not_mem_nil, or_false] at hp; rcases hp with rfl | rfl | rfl <;> simp⟩
  | 3 => exact ⟨by decide +kernel, by decide +kernel, fun p hp z e => by simp only [leafL, List.mem_cons, List.not_mem_nil, or_false] at hp; rcases hp with rfl | rfl | rfl <;> cases e <;> decide, fun p hp => by simp only [leafL, List.mem_cons, List.not_mem_nil, or_false] at hp; rcases hp with rfl | rfl | rfl <;> simp⟩
  | n + 4 => exact ⟨by show partB [(.str sCall, "str"), (.str sNone, "str"), (.str sNone, "str")] = true; decide +kernel, by show holdsB [(.str sCall, "str"), (.str sNone, "str"), (.str sNone, "str")] = false; decide +kernel, fun p hp z e => by simp only [leafL, List.mem_cons, List.not_mem_nil, or_false] at hp; rcases hp with rfl | rfl | rfl <;> cases e <;> decide, fun p hp => by simp only [leafL, List.mem_cons, List.not_mem_nil, or_false] at hp; rcases hp with rfl | rfl | rfl <;> simp⟩
/-- what the readers of parts see of one -/
theorem RepT.desc {H : Hp} {t : Tr} {v : V} (h : RepT K H t v) : (∃ n, Mc.TyB K H v n ∧ n ≠ "tuple" ∧ isPartT t = false ∧ holdsT t = false) ∨
    (∃ a l, v = .ref a ∧ TupV K H a (l.map (·.1)) ∧ KL K H l ∧ Short l ∧ partB l = isPartT t ∧ holdsB l = holdsT t) := by
  cases t with
  | leaf i =>
    unfold RepT at h
    obtain ⟨a, ev, tv⟩ := h
    obtain ⟨h1, h2, h3, h4⟩ := leaf_part i
    refine .inr ⟨a, leafL i, ev, tv, fun p hp => ?_, h3, h1, h2⟩
    obtain ⟨n, en, q⟩ := h4 p hp
    obtain ⟨x, m⟩ := p
    cases en
    rcases q with ⟨z, e1, e2⟩ | ⟨j, e1, e2⟩
    · cases e1; cases e2; exact .str z
    · cases e1; cases e2; exact .int j
  | odd =>
    unfold RepT at h
    rcases h with ⟨n, ty, hn⟩ | ⟨a, l, ev, tv, kl, sh, p, q⟩
    · exact .inl ⟨n, ty, hn, rfl, rfl⟩
    · exact .inr ⟨a, l, ev, tv, kl, sh, p, q⟩
  | may b =>
    unfold RepT at h
    obtain ⟨a, c, xs, ev, tv, tc, rb⟩ := h
    refine .inr ⟨a, [(.str sMaybe, "str"), (.ref c, "tuple")], ev, tv, fun p hp => ?_, fun p hp z e => ?_, by show holdsB [(.str sMaybe, "str"), (.ref c, "tuple")] = true; rfl, rfl⟩
    · simp only [List.mem_cons, List.not_mem_nil, or_false] at hp
      rcases hp with rfl | rfl
      · exact .str _
      · exact tc.ty
    · simp only [List.mem_cons, List.not_mem_nil, or_false] at hp
      rcases hp with rfl | rfl <;> cases e
      decide
  | both b c =>
    unfold RepT at h
    obtain ⟨a, p, q, xs, ys, ev, tv, tp, rb, tq, rc⟩ := h
    refine .inr ⟨a, [(.str sBoth, "str"), (.ref p, "tuple"), (.ref q, "tuple")], ev, tv, fun x hx => ?_, fun x hx z e => ?_, by show holdsB [(.str sBoth, "str"), (.ref p, "tuple"), (.ref q, "tuple")] = true; rfl, rfl⟩
    · simp only [List.mem_cons, List.not_mem_nil, or_false] at hx
      rcases hx with rfl | rfl | rfl
      · exact .str _
      · exact tp.ty
      · exact tq.ty
    · simp only [List.mem_cons, List.not_mem_nil, or_false] at hx
      rcases hx with rfl | rfl | rfl <;> cases e
      decide
/-- a part that holds blocks: its tuple -/
theorem RepT.held {H : Hp} {t : Tr} {v : V} (h : RepT K H t v) (ht : holdsT t = true) : ∃ (a : Addr) (w : Str) (cs : List Addr), v = .ref a ∧ TupV K H a (.str w :: cs.map V.ref) ∧ (w = sMaybe ∨ w = sBoth) ∧ cs.length = (blocks t).length ∧
    ∀ (j : Nat) (c : Addr), cs[j]? = some c → ∃ b xs, (blocks t)[j]? = some b ∧ TupV K H c xs ∧ RepB K H b xs := by
  cases t with
  | leaf i => cases ht
  | odd => cases ht
  | may b =>
    unfold RepT at h
    obtain ⟨a, c, xs, ev, tv, tc, rb⟩ := h
    refine ⟨a, sMaybe, [c], ev, tv, .inl rfl, rfl, fun j d hd => ?_⟩
    match j, hd with
    | 0, hd => cases hd; exact ⟨b, xs, rfl, tc, rb⟩
    | j + 1, hd => simp at hd
  | both b c =>
    unfold RepT at h
    obtain ⟨a, p, q, xs, ys, ev, tv, tp, rb, tq, rc⟩ := h
    refine ⟨a, sBoth, [p, q], ev, tv, .inr rfl, rfl, fun j d hd => ?_⟩
    match j, hd with
    | 0, hd => cases hd; exact ⟨b, xs, rfl, tp, rb⟩
    | 1, hd => cases hd; exact ⟨c, ys, rfl, tq, rc⟩
    | j + 2, hd => simp at hd
mutual
def kids : Tr → Nat → List (Tr × Nat)
  | .may b, n => pio b n
  | .both b c, n => pio b n ++ pio c n
  | _, _ => []
def pio : List Tr → Nat → List (Tr × Nat)
  | [], _ => []
  | t :: b, n => ((t, n) :: (if n ≤ 1 then kids t (n + 1) else [])) ++ pio b n
end
def one (t : Tr) (n : Nat) : List (Tr × Nat) := (t, n) :: (if n ≤ 1 then kids t (n + 1) else [])
theorem pio_nil {n : Nat} : pio [] n = [] := by unfold pio; rfl
theorem pio_cons {t : Tr} {b : List Tr} {n : Nat} : pio (t :: b) n = one t n ++ pio b n := by (conv => lhs; unfold pio); rfl
theorem pio_app : ∀ (b c : List Tr) (n : Nat), pio (b ++ c) n = pio b n ++ pio c n
  | [], c, n => by rw [pio_nil]; rfl
  | t :: b, c, n => by
    rw [pio_cons, List.cons_append, pio_cons, pio_app b c n, List.append_assoc]
theorem pio_take {b : List Tr} {t : Tr} {i n : Nat} (h : b[i]? = some t) : pio (b.take (i + 1)) n = pio (b.take i) n ++ one t n := by
  rw [List.take_succ, h, pio_app]
  show _ ++ pio [t] n = _
  rw [pio_cons, pio_nil, List.append_nil]
theorem kids_blocks (t : Tr) (n : Nat) : kids t n = (blocks t).flatMap fun b => pio b n := by
  cases t with
  | leaf i => unfold kids; rfl
  | odd => unfold kids; rfl
  | may b => unfold kids; simp [blocks]
  | both b c => unfold kids; simp [blocks]
def Prs (K : PySem.W.Frag) (H : Hp) : List (Tr × Nat) → List V → Prop
  | [], ys => ys = []
  | (t, n) :: l, ys => ∃ p v zs, ys = .ref p :: zs ∧ TupV K H p [v, .int n] ∧ RepT K H t v ∧ Prs K H l zs
theorem Prs.kp {H H' : Hp} (e : Kp H H') : ∀ {l : List (Tr × Nat)} {ys : List V}, Prs K H l ys → Prs K H' l ys
  | [], _, h => h
  | (t, n) :: l, ys, ⟨p, v, zs, e1, tv, rt, h⟩ => ⟨p, v, zs, e1, tv.kp e, RepT.kp e t v rt, Prs.kp e h⟩
theorem Prs.app {H : Hp} : ∀ {l m : List (Tr × Nat)} {ys zs : List V}, Prs K H l ys → Prs K H m zs → Prs K H (l ++ m) (ys ++ zs)
  | [], m, ys, zs, h, h' => by
    have h : ys = [] := h
    subst h
    exact h'
  | (t, n) :: l, m, ys, zs, ⟨p, v, us, e1, tv, rt, h⟩, h' => by
    subst e1
    exact ⟨p, v, us ++ zs, rfl, tv, rt, Prs.app h h'⟩
theorem Prs.len {H : Hp} : ∀ {l : List (Tr × Nat)} {ys : List V}, Prs K H l ys → ys.length = l.length
  | [], ys, h => by
    have h : ys = [] := h
    rw [h]
    rfl
  | (t, n) :: l, ys, ⟨p, v, us, e1, tv, rt, h⟩ => by
    subst e1
    exact congrArg (· + 1) (Prs.len h)
theorem Prs.get {H : Hp} : ∀ {l : List (Tr × Nat)} {ys : List V} {i : Nat} {x : V}, Prs K H l ys → ys[i]? = some x → ∃ t n p v, l[i]? = some (t, n) ∧ x = .ref p ∧ TupV K H p [v, .int (n : Int)] ∧ RepT K H t v
  | [], ys, i, x, h, e => by
    have h : ys = [] := h
    subst h
    cases e
  | (t, n) :: l, ys, i, x, ⟨p, v, us, e1, tv, rt, h⟩, e => by
    subst e1
    cases i with
    | zero => cases e; exact ⟨t, n, p, v, rfl, rfl, tv, rt⟩
    | succ i => exact Prs.get (l := l) (i := i) h e
end
end K2

namespace K2
open PySem PySem.Spec PyProof.Rows L2 Mc
section
variable {P : Program} {w : World} {K : PySem.W.Frag} {mg : Str → Option Value} {base : Heap}
local macro_rules | `(tactic| walk_at "rd1") => `(tactic| first
  | with_reducible refine g_seq ?_
  | with_reducible refine g_asg ?_
  | with_reducible refine g_name ?_
  | with_reducible refine g_c ?_
  | with_reducible refine g_op ?_
  | with_reducible refine g_ifS ?_
  | with_reducible refine g_if ?_
  | with_reducible refine g_test ?_
  | with_reducible refine g_B ?_
  | with_reducible refine g_bl ?_
  | with_reducible refine g_blV ?_
  | with_reducible refine g_not ?_
  | with_reducible refine g_and ?_
  | with_reducible refine g_or ?_
  | with_reducible refine g_notV ?_
  | with_reducible refine g_andV ?_
  | with_reducible refine g_orV ?_
  | with_reducible refine g_ret ?_
  | with_reducible refine g_drop ?_
  | with_reducible refine g_next ?_
  | with_reducible refine g_retN ?_
  | with_reducible refine g_call ?_
  | with_reducible refine g_cb ?_
  | with_reducible refine g_cons ?_
  | with_reducible refine g_nil ?_
  | with_reducible refine g_tup ?_
  | with_reducible refine g_lst ?_
  | with_reducible refine g_prop ?_
  | with_reducible refine g_fld ?_
  | with_reducible refine g_meth ?_
  | with_reducible refine g_chain ?_
  | with_reducible refine g_yes ?_
  | with_reducible refine g_make ?_
  | with_reducible refine g_makeK ?_
  | with_reducible refine g_gsub ?_
  | with_reducible refine g_sfld ?_
  | with_reducible refine g_un ?_
  | with_reducible refine g_bm ?_
  | with_reducible refine g_iteT ?_
  | with_reducible refine g_iteF ?_
  | with_reducible refine g_I0 ?_
  | with_reducible refine g_add ?_
  | with_reducible refine g_sub ?_
  | ((with_reducible refine' g_var ?hv ?_); (case hv => rfl))
  | ((with_reducible refine g_eq ?hv ?_); (case hv => rfl))
  | ((with_reducible refine g_ne ?hv ?_); (case hv => rfl)))
local macro_rules | `(tactic| walk_at "rd") => `(tactic| repeat (walk_at "rd1"))

local macro_rules | `(tactic| walk_at "ty") => `(tactic| first | exact .non | exact .bl _ | exact .int _ | exact .str _ | exact .lst (by assumption) | exact .tup (by assumption) | exact .dK (by assumption) | exact .kTup (by assumption) (by assumption))
local macro_rules | `(tactic| walk_at "isiF") => `(tactic| refine g_isi (by walk_at "ty") (b := false) (by decide +kernel) ?_)
local macro_rules | `(tactic| walk_at "isiT") => `(tactic| refine g_isi (by walk_at "ty") (b := true) (by decide +kernel) ?_)

/-- a def called with its default -/
structure CalD (P : Program) (w : World) (K : PySem.W.Frag) (mg : Str → Option Value) (base : Heap) (k : Nat) (x : Str) (sp : Sp) (dvs : List V) : Prop where
  ex : ∃ (f : Addr) (fd : FuncData) (ps : List Str) (ds : List Value), FnOk P w K mg base CX0 k f fd ps sp ∧ mg x = some (.ref f) ∧ PySem.W.keepIn K (.ref f) = true ∧ Binds K fd ps ds ∧ Vals dvs ds
theorem pe_fD {X : Cx} {k j : Nat} {x : Str} {sp : Sp} {dvs : List V} {p pos : Pos} {e : Expr} {es : List Expr} {t : TA} (c : CalD X.prog X.w X.K X.mg X.base k x sp dvs) (hr : Room j X.A) (hk : k ≤ j) (hg : Gl X x) (ha : PA X (e :: es) t)
    (hdb : (x == ("__debug__" : Str)) = false := by decide) (he : starEach (e :: es) X.env = (false, eval e X.env) :: starEach es X.env := by rfl) (hpl : (backTo pos (starEach es X.env)).any (·.1) = false := by rfl) :
    PE X (.Call (.Name x p) (e :: es) [] pos) (tCall sp dvs E0 t) := by
  obtain ⟨f, fd, ps, ds, G, hm, kp, b, v⟩ := c.ex
  exact pe_call G (hr.mono hk) hg hm kp b v pass0 ha hdb he hpl
def ForW (g : TG) (tb : TS) (D : Ends) (σ : L2.St) (J : It) (H1 : Hp) : Prop := ∃ W : Nat → Nat → L2.St → Hp → Prop, (∃ m, W 0 m σ H1) ∧ ∀ i m σ H, W i m σ H →
  (J.stop i H ∧ D.nx σ H) ∨ (J.go i H ∧ ∃ N : L2.St → Hp → Prop, (∀ σ' H', N σ' H' → ∃ m', m' < m ∧ W (i + 1) m' σ' H') ∧ ∀ x H', J.yld i H x H' → g x σ H' fun σ2 H2 => tb { D with nx := N, ct := N, bk := D.nx } σ2 H2)
theorem g_for {wi : TI} {g : TG} {tb : TS} {D : Ends} {σ : L2.St} {H : Hp} (q : wi σ H fun J H1 => ForW g tb D σ J H1) : tFor wi g tb D σ H := q
theorem g_ienum {ta : TA} {σ : L2.St} {H : Hp} {R : It → Hp → Prop} (q : ta σ H fun vs H1 => ∃ a xs, vs = [.ref a] ∧ SqL K H1 a xs ∧ R (Ite K a) H1) : iEnum K ta σ H R := q
theorem g_irng {ta : TA} {σ : L2.St} {H : Hp} {R : It → Hp → Prop} (q : ta σ H fun vs H1 => ∃ j : Int, vs = [.int j] ∧ -(2 ^ 62) ≤ j ∧ j < 2 ^ 62 ∧ R (Itr 0 j.toNat) H1) : iRng1 ta σ H R := q
theorem g_itup {te : TE} {σ : L2.St} {H : Hp} {R : It → Hp → Prop} (q : te σ H fun v H1 => ∃ a, v = .ref a ∧ (∃ xs, SqT K H1 a xs) ∧ R (Itt K a) H1) : iTup K te σ H R := q
theorem six1 {n : Nat} : HT.sIx (n + 1) 0 (some 1) = 1 := by
  show (if (1 : Int) < 0 then ((1 : Int) + ((n + 1 : Nat) : Int)).toNat else min (1 : Int).toNat (n + 1)) = 1
  rw [if_neg (by decide)]
  show min 1 (n + 1) = 1
  omega
theorem cut1 (x : V) (l : List V) : cutV (x :: l) (some 1) none = l := by
  show ((x :: l).drop (HT.sIx (l.length + 1) 0 (some 1))).take ((l.length + 1) - HT.sIx (l.length + 1) 0 (some 1)) = l
  rw [six1]
  show l.take (l.length + 1 - 1) = l
  simp
theorem g_sl1 {r : V → Option Int → Option Int → Hp → VK → Prop} {te : TE} {i : Int} {σ : L2.St} {H : Hp} {Q : VK} (q : te σ H fun x H1 => r x (some i) none H1 Q) : tSl r te (tPart (tC (.int i))) tNoPart σ H Q :=
  (show te σ H (fun x H1 => ∃ i', V.int i = .int i' ∧ r x (some i') none H1 Q) from (by
    have e : (fun x H1 => ∃ i', V.int i = V.int i' ∧ r x (some i') none H1 Q) = fun x H1 => r x (some i) none H1 Q := by
      funext x H1
      exact propext ⟨fun ⟨_, e, h⟩ => by cases e; exact h, fun h => ⟨_, rfl, h⟩⟩
    rw [e]
    exact q))
theorem g_aug {i : Nat} {te : TE} {ti : TIp} {D : Ends} {σ : L2.St} {H : Hp} {x : V} (h : σ[i]? = some (some x)) (q : te σ H fun y H1 => ti x y H1 fun z H2 => D.nx (σ.set i (some z)) H2) : tAug i te ti D σ H := ⟨x, h, q⟩
/-- parts_in_order, of a block that stands so many blocks in -/
def spPio (K : PySem.W.Frag) (m : Nat) : Sp := fun vs H Q _ => ∃ (a : Addr) (n : Nat) (b : List Tr) (xs : List V), vs = [.ref a, .int n] ∧ 2 ≤ n + m ∧ TupV K H a xs ∧ RepB K H b xs ∧ (pio b n).length ≤ 1000 ∧
  ∀ l ys H', Same H H' → H l = none → H' l = some (.lst ys) → Prs K H' (pio b n) ys → Q (.ref l) H'
def spNo : Sp := fun _ _ _ _ => False
structure DefP (K : PySem.W.Frag) (mg : Str → Option Value) : Prop where
  ex : ∃ (f : Addr) (fd : FuncData), FunD K "parts_in_order" "parts_in_order" (defArgs s_parts_in_order) (defBody s_parts_in_order) (defScope s_parts_in_order) [.int 0] [] f fd ∧ mg "parts_in_order" = some (.ref f)
theorem DefP.cal {k : Nat} {sp : Sp} (D : DefP K mg) (len : ∀ vs H Q E, sp vs H Q E → vs.length = 2)
    (hbody : ∀ (f : Addr) (cdv : Value) (A : Around) (outer : List Env) (s : Shared) (H : Hp) (vs : List V) (Q : VK) (E : XK), Room k (A.deeper (envOfC "parts_in_order" (defScope s_parts_in_order) s.heap.objs.size f cdv)) → sp vs H Q E →
      ∃ t, PSs (cxOf CX0 P w K mg base N_parts_in_order "parts_in_order" (defScope s_parts_in_order) f cdv A outer s H E).nox (defBody s_parts_in_order) t ∧ t { nx := fun _ H' => Q .non H', rt := Q } (start N_parts_in_order vs) H) :
    Cal P w K mg base (k + 1) "parts_in_order" sp ∧ CalD P w K mg base (k + 1) "parts_in_order" sp [.int 0] := by
  obtain ⟨f, fd, F, hm⟩ := D.ex
  have G : FnOk P w K mg base CX0 (k + 1) f fd ["block", "around"] sp := F.ok sc_parts_in_order len (fun cdv A outer s H vs Q E hr h => by
    obtain ⟨t, h1, h2⟩ := hbody f cdv A outer s H vs Q E hr h
    exact ⟨t, h1.nox, h2⟩)
  obtain ⟨ds0, v0, b0⟩ := F.binds1 (ps := ["block", "around"]) 2 1 (by simp) rfl (fun T kV doc pm an cdv ct us its hu hi => match us, its, hu, hi with
    | [u, u'], [i], _, _ => ⟨_, rfl, rfl⟩)
  obtain ⟨ds1, v1, b1⟩ := F.binds1 (ps := ["block", "around"]) 1 0 (by simp) rfl (fun T kV doc pm an cdv ct us its hu hi => match us, its, hu, hi with
    | [u], [i], _, _ => ⟨_, rfl, rfl⟩)
  cases v0
  exact ⟨⟨f, fd, _, G, hm, F.kp, b0⟩, ⟨f, fd, _, ds1, G, hm, F.kp, b1, v1⟩⟩
theorem pio_no (D : DefP K mg) : Cal P w K mg base 1 "parts_in_order" spNo := (D.cal (k := 0) (sp := spNo) (fun _ _ _ _ h => h.elim) (fun _ _ _ _ _ _ _ _ _ _ h => h.elim)).1
theorem fm_take {bs : List (List Tr)} {b : List Tr} {j n : Nat} (h : bs[j]? = some b) : (bs.take (j + 1)).flatMap (pio · n) = (bs.take j).flatMap (pio · n) ++ pio b n := by
  rw [List.take_succ, h, List.flatMap_append]
  simp
theorem fm_le {bs : List (List Tr)} {j n : Nat} : ((bs.take j).flatMap (pio · n)).length ≤ (bs.flatMap (pio · n)).length := by
  conv => rhs; rw [← List.take_append_drop j bs, List.flatMap_append, List.length_append]
  omega
theorem blocks_no {t : Tr} (h : holdsT t = false) : blocks t = [] := by
  cases t <;> first | rfl | cases h
theorem pio_step {k m : Nat} {spS : Sp} (hk : 1 ≤ k) (T : Txt K mg) (D : DefP K mg) (c_holds_blocks : Cal P w K mg base 1 "holds_blocks" (spHolds K)) (c_parts_in_order : Cal P w K mg base k "parts_in_order" spS)
    (hS : m = 0 ∨ spS = spPio K (m - 1)) : Cal P w K mg base (k + 1) "parts_in_order" (spPio K m) ∧ CalD P w K mg base (k + 1) "parts_in_order" (spPio K m) [.int 0] := by
  refine D.cal (fun vs H Q E h => ?_) (fun f cdv A outer s H vs Q E hr h => ?_)
  · obtain ⟨a, n, b, xs, rfl, _⟩ := h
    rfl
  · obtain ⟨a, n, b, xs, rfl, hnm, tv, rb, hl, q⟩ := h
    have hr1 : Room 1 (A.deeper (envOfC "parts_in_order" (defScope s_parts_in_order) s.heap.objs.size f cdv)) := hr.mono hk
    refine ⟨_, (pss_cons (ps_set (i := 2) sc_parts_in_order.nd rfl (Or.inl rfl) (pe_lst pa_nil))
      (pss_cons (ps_for PassesOwn.never rfl (pi_tup (pv 0)) (pg_name (i := 3) sc_parts_in_order.nd rfl (Or.inl rfl)) (pss_cons (ps_expr (pe_bm PySem.F.plainAttrs_list PySem.F.slot_list_append PySem.F.type_list_append mt_append (pv 2) (pa_cons (pe_tup (pa_cons (pv 3) (pa_cons (pv 1) pa_nil))) pa_nil)))
      (pss_one (ps_if (PW.pt (pw_and (pt_cmpR op_le (pv 1) (pe_gx rfl T.g_MOST_AROUND) (nomark _)) (pw_and1 (pt_val (pe_f c_holds_blocks hr1 (by decide) (by rfl) (pa_cons (pv 3) pa_nil)))))) (pss_one (ps_for PassesOwn.never rfl (pi_tup (pe_slice sl_tup (pv 3) (po_some pe_int) po_none)) (pg_name (i := 4) sc_parts_in_order.nd rfl (Or.inl rfl)) (pss_one (ps_aug (i := 2) sc_parts_in_order.nd rfl (Or.inl rfl) (pe_f c_parts_in_order hr (Nat.le_refl _) (by rfl) (pa_cons (pv 4) (pa_cons (pe_op op_add (pv 1) pe_int) pa_nil))) iop_ext)))) pss_nil))))
      (pss_one (ps_ret (pv 2))))), ?_⟩
    walk_at "rd"
    refine ⟨(by show 0 ≤ sizeLine; decide), fun L hL => ?_⟩
    walk_at "rd"
    have S0 : Same H (upd H L (.lst [])) := same_new hL
    refine g_for (g_itup ?_)
    walk_at "rd"
    refine ⟨a, rfl, ⟨xs, TupV.sq (TupV.ext S0 tv)⟩, ?_⟩
    refine for_tup (K := K) (a := a) (xs := xs) (fun i σ H' => ∃ o3 o4 : Option V, ∃ ys, σ = [some (.ref a), some (.int n), some (.ref L), o3, o4] ∧ Same H H' ∧ H' L = some (.lst ys) ∧ Prs K H' (pio (b.take i) n) ys) ⟨_, _, [], rfl, S0, upd_same, by rw [List.take_zero, pio_nil]; rfl⟩ (fun i σ H' _ ⟨_, _, _, _, e, _⟩ => (TupV.ext e tv).sq) ?_ ?_
    · rintro i x σ H1 hx ⟨o3, o4, ys, rfl, S1, hL1, pr⟩
      obtain ⟨t, ht, rt⟩ := rb.get hx
      have hlen : (pio (b.take (i + 1)) n).length ≤ 1000 := by
        refine Nat.le_trans ?_ hl
        conv => rhs; rw [← List.take_append_drop (i + 1) b, pio_app, List.length_append]
        omega
      rw [pio_take ht, List.length_append] at hlen
      have hys := pr.len
      walk_at "rd"
      refine ⟨.inl ⟨rfl, _, SqL.of hL1⟩, ?_⟩
      walk_at "rd"
      refine ⟨(by show 2 ≤ sizeLine; decide), fun p hp => ?_⟩
      walk_at "rd"
      have npL : p ≠ L := fun e => by rw [e, hL1] at hp; cases hp
      have hL2 : (upd H1 p (.tup [x, .int n])) L = some (.lst ys) := by rw [upd_ne (Ne.symm npL)]; exact hL1
      refine ⟨L, ys, .ref p, rfl, rfl, hL2, small1000 (by omega), ?_⟩
      obtain ⟨H3, eH3⟩ : ∃ H3, H3 = upd (upd H1 p (.tup [x, .int n])) L (.lst (ys ++ [.ref p])) := ⟨_, rfl⟩
      have K3 : Kp H1 H3 := by rw [eH3]; exact (Kp.of (same_new hp)).trans (Kp.upd hL2)
      have S3 : Same H H3 := fun c o hc => by
        rw [eH3, upd_ne (fun e => by rw [e, hL] at hc; cases hc)]
        exact same_new hp _ _ (S1 _ _ hc)
      have hL3 : H3 L = some (.lst (ys ++ [.ref p])) := by rw [eH3]; exact upd_same
      have tp3 : TupV K H3 p [x, .int n] := by
        have : H3 p = some (.tup [x, .int n]) := by rw [eH3, upd_ne npL]; exact upd_same
        exact ⟨.tup this, SqT.of this⟩
      have rt3 : RepT K H3 t x := RepT.kp ((Kp.of S1).trans K3) t x rt
      have pr3 : Prs K H3 (pio (b.take i) n ++ [(t, n)]) (ys ++ [.ref p]) := (pr.kp K3).app ⟨p, x, [], rfl, tp3, rt3, rfl⟩
      rw [← eH3]
      clear eH3
      walk_at "rd"
      refine g_ite (fun e => ?_) (fun e => ?_)
      · have hn : n ≤ 1 := by have := of_decide_eq_true e; omega
        have em : spS = spPio K (m - 1) := hS.resolve_left (by omega)
        have e1 : one t n = (t, n) :: (blocks t).flatMap (pio · (n + 1)) := by
          unfold one
          rw [if_pos hn, kids_blocks]
        walk_at "rd"
        have no : holdsT t = false → ∃ u3 u4 : Option V, ∃ zs : List V, [some (V.ref a), some (V.int n), some (V.ref L), o3, o4].set 3 (some x) = [some (V.ref a), some (V.int n), some (V.ref L), u3, u4] ∧ Same H H3 ∧ H3 L = some (.lst zs) ∧ Prs K H3 (pio (b.take (i + 1)) n) zs := fun hf =>
          ⟨_, _, _, rfl, S3, hL3, by rw [pio_take ht, e1, blocks_no hf]; exact pr3⟩
        rcases rt3.desc with ⟨nn, ty, hne, _, hb⟩ | ⟨pa, l, rfl, tvl, kl, sh, _, hb⟩
        · refine ⟨x, rfl, .inl ⟨nn, ty, hne, ?_⟩⟩
          walk_at "rd"
          exact no hb
        · refine ⟨_, rfl, .inr ⟨pa, l, rfl, tvl, kl, ?_⟩⟩
          rw [hb]
          cases eb : holdsT t
          · walk_at "rd"
            exact no eb
          · walk_at "rd"
            obtain ⟨a', wd, cs, ea, tva, _, hcl, hcs⟩ := rt3.held eb
            cases ea
            have hc0 : cs ≠ [] := fun z => by
              subst z
              cases t <;> first | (cases eb; done) | exact absurd hcl (by simp [blocks])
            refine g_for (g_itup ?_)
            walk_at "rd"
            refine g_sl1 ?_
            walk_at "rd"
            refine ⟨pa, _, rfl, tva.sq, ?_, fun u hu => ?_⟩
            · intro z
              have z1 := z.1
              rw [show (V.str wd :: cs.map V.ref).length = (cs.map V.ref).length + 1 from rfl, six1] at z1
              cases z1
            refine ⟨u, rfl, ⟨cs.map V.ref, SqT.of (by rw [upd_same, cut1])⟩, ?_⟩
            obtain ⟨H4, eH4⟩ : ∃ H4, H4 = upd H3 u (.tup (cutV (.str wd :: cs.map V.ref) (some 1) none)) := ⟨_, rfl⟩
            rw [← eH4]
            have S4 : Same H3 H4 := by rw [eH4]; exact same_new hu
            have hu4 : H4 u = some (.tup (cs.map V.ref)) := by rw [eH4, upd_same, cut1]
            refine for_tup (K := K) (a := u) (xs := cs.map V.ref) (fun j σ H' => ∃ o4 : Option V, ∃ zs, σ = [some (.ref a), some (.int n), some (.ref L), some (.ref pa), o4] ∧ Same H H' ∧ Kp H4 H' ∧ H' L = some (.lst zs) ∧ Prs K H' (pio (b.take i) n ++ (t, n) :: ((blocks t).take j).flatMap (pio · (n + 1))) zs)
              ⟨_, _, rfl, Same.trans S3 S4, Kp.refl _, S4 _ _ hL3, pr3.kp (Kp.of S4)⟩ (fun i σ H' _ ⟨_, _, _, _, e, _⟩ => (SqT.of (e.get hu4 (fun _ z => by cases z)))) ?_ ?_
            · rintro j y σ H5 hy ⟨u4, zs, rfl, S5, K5, hL5, pr5⟩
              rw [List.getElem?_map] at hy
              obtain ⟨c, hc, rfl⟩ := Option.map_eq_some_iff.mp hy
              obtain ⟨b', xs', hb', tc, rc⟩ := hcs j c hc
              have K35 := (Kp.of S4).trans K5
              have hz := pr5.len
              rw [e1] at hlen
              have hle := fm_le (bs := blocks t) (j := j + 1) (n := n + 1)
              rw [fm_take hb'] at hle
              simp only [List.length_append, List.length_cons] at hle hlen hz
              walk_at "rd"
              rw [em]
              refine g_aug rfl ?_
              walk_at "rd"
              refine ⟨c, n + 1, b', xs', rfl, by omega, tc.kp K35, RepB.kp K35 _ _ rc, by omega, fun l2 zs2 H6 S6 hl2 hz2 pr6 => ?_⟩
              have hz3 := pr6.len
              have hL6 := S6 _ _ hL5
              refine ⟨L, l2, zs, zs2, rfl, rfl, hL6, hz2, sz_le (by omega), ?_⟩
              refine ⟨_, _, rfl, fun d o hd => ?_, (K5.trans (Kp.of S6)).trans (Kp.upd hL6), upd_same, ?_⟩
              · rw [upd_ne (fun z => by rw [z, hL] at hd; cases hd)]
                exact S6 _ _ (S5 _ _ hd)
              · rw [fm_take hb']
                have := (pr5.kp ((Kp.of S6).trans (Kp.upd hL6))).app (pr6.kp (Kp.upd (ys := zs ++ zs2) hL6))
                rw [List.append_assoc, List.cons_append] at this
                exact this
            · rintro σ H5 ⟨u4, zs, rfl, S5, K5, hL5, pr5⟩
              rw [List.length_map, hcl, List.take_length] at pr5
              exact ⟨_, _, _, rfl, S5, hL5, by rw [pio_take ht, e1]; exact pr5⟩
      · have hn : ¬ n ≤ 1 := by have := of_decide_eq_false e; omega
        walk_at "rd"
        have e1 : one t n = [(t, n)] := by unfold one; rw [if_neg hn]
        exact ⟨_, _, _, rfl, S3, hL3, by rw [pio_take ht, e1]; exact pr3⟩
    · rintro σ H1 ⟨o3, o4, ys, rfl, S1, hL1, pr⟩
      walk_at "rd"
      rw [← rb.len, List.take_length] at pr
      exact q L ys H1 S1 hL hL1 pr
end
end K2

namespace K2
open PySem PySem.Spec PyProof.Rows L2 Mc
/-! ### sum(..) of a tuple of whole numbers -/
theorem sum_tupG {prog : Program} {w : World} {A : Around} {E : Value → Shared → Prop} {s : Shared} {l : Addr} {xs : Array (Int × Tok)} {Q : Value → Shared → Prop} (hh : A.handled = none)
    (hl : IsTup s.heap l (intItems xs)) (h : ∀ (h' : Heap) (tk : Nat) (t' : Tok), (∀ (b : Addr) (o : Obj), s.heap.get? b = some o → h'.get? b = some o) → Q (.int (preSum (numAt xs) xs.size) t') { heap := h', gens := s.gens, drawn := s.drawn, toks := tk, os := s.os }) :
    wpAny (model prog w) A (call (.builtin "sum") [.ref l]) Q E s := by
  have hlt : l < s.heap.objs.size := by
    obtain ⟨o, ho, _⟩ := hl
    exact PySem.Heap.lt_size ho
  have hne : l ≠ s.heap.objs.size := Nat.ne_of_lt hlt
  refine PySem.call_sum_walkG (PyProof.Rows.iter_tuple hl ⟨s.heap.objs.size, [s.heap.objs.size, l], [s.heap.objs.size], (intItems xs).size, fun i v => (intItems xs)[i]? = some v, fun i h => h.IsTupleIter s.heap.objs.size l i ∧ h.IsTuple l (intItems xs), numAt xs, rfl, (PySem.Walks.tuple (A := A.in1) hh s.heap.objs.size l hne (intItems xs) : _), ⟨?_, ?_⟩, ?_, fun _ _ => PySem.intItems_at, fun h' tk t' hk => ?_⟩)
  · exact ⟨_, PySem.Heap.get?_push_size _ rfl, rfl, rfl⟩
  · exact PySem.Heap.IsTuple.push hl _
  · intro b hb
    simp only [List.mem_cons, List.not_mem_nil, or_false] at hb
    rw [PySem.Heap.size_push]
    rcases hb with rfl | rfl
    · exact Nat.lt_succ_self _
    · exact Nat.lt_succ_of_lt hlt
  · have e : (intItems xs).size = xs.size := Array.size_map ..
    rw [e]
    refine h h' tk t' (fun b o hb => hk b o ?_ ?_)
    · intro hm
      simp only [List.mem_cons, List.not_mem_nil, or_false] at hm
      exact absurd hm (Nat.ne_of_lt (PySem.Heap.lt_size hb))
    · exact PySem.Heap.get?_push_of_some _ hb
theorem sum_rawT {prog : Program} {w : World} {A : Around} {E : Value → Shared → Prop} {s : Shared} {l : Addr} {its : List Value} {ns : List Int} {Q : Value → Shared → Prop} (hh : A.handled = none)
    (hl : IsTup s.heap l its.toArray) (hi : IntsAre its ns) (h : ∀ (h' : Heap) (tk : Nat) (t' : Tok), (∀ (b : Addr) (o : Obj), s.heap.get? b = some o → h'.get? b = some o) → Q (.int ns.sum t') { heap := h', gens := s.gens, drawn := s.drawn, toks := tk, os := s.os }) :
    wpAny (model prog w) A (call (.builtin "sum") [.ref l]) Q E s := by
  obtain ⟨xs, e⟩ := PySem.AllInts.items (IntsAre.allInts hi)
  have hn : PySem.numsOf (intItems xs).toList = ns := by rw [← e]; exact IntsAre.numsOf hi
  rw [e] at hl
  refine sum_tupG hh hl (fun h' tk t' hk => ?_)
  have := h h' tk t' hk
  rw [PySem.preSum_eq xs xs.size, List.take_of_length_le (by simp)]
  rw [PySem.nums_intItems] at hn
  rw [hn]
  exact this
def rSumT (K : PySem.W.Frag) : List V → Hp → VK → Prop := fun vs H Q => ∃ (a : Addr) (ns : List Int), vs = [V.ref a] ∧ SqT K H a (ns.map V.int) ∧ Q (.int ns.sum) H
theorem cr_sumT {X : Cx} (hc : X.calm = true) : CallR X (.builtin "sum") (rSumT X.K) := by
  intro pins s σ H vs us Q I r h
  obtain ⟨a, ns, rfl, hs, q⟩ := h
  obtain ⟨its, rv, hl, _⟩ := Inv.tuple I hs
  rw [Vals.ref1 r]
  exact sum_rawT (I.ok.hd hc) hl (Vals.ints rv) fun h' tk t' hk => ⟨V.int ns.sum, H, Inv.kept I hk, ⟨t', rfl⟩, q⟩
end K2

namespace K2
open PySem PySem.Spec PyProof.Rows L2 Mc
section
variable {P : Program} {w : World} {K : PySem.W.Frag} {mg : Str → Option Value} {base : Heap}
local macro_rules | `(tactic| walk_at "rd1") => `(tactic| first
  | with_reducible refine g_seq ?_
  | with_reducible refine g_asg ?_
  | with_reducible refine g_name ?_
  | with_reducible refine g_c ?_
  | with_reducible refine g_op ?_
  | with_reducible refine g_ifS ?_
  | with_reducible refine g_if ?_
  | with_reducible refine g_test ?_
  | with_reducible refine g_B ?_
  | with_reducible refine g_bl ?_
  | with_reducible refine g_blV ?_
  | with_reducible refine g_not ?_
  | with_reducible refine g_and ?_
  | with_reducible refine g_or ?_
  | with_reducible refine g_notV ?_
  | with_reducible refine g_andV ?_
  | with_reducible refine g_orV ?_
  | with_reducible refine g_ret ?_
  | with_reducible refine g_drop ?_
  | with_reducible refine g_next ?_
  | with_reducible refine g_retN ?_
  | with_reducible refine g_call ?_
  | with_reducible refine g_cb ?_
  | with_reducible refine g_cons ?_
  | with_reducible refine g_nil ?_
  | with_reducible refine g_tup ?_
  | with_reducible refine g_lst ?_
  | with_reducible refine g_prop ?_
  | with_reducible refine g_fld ?_
  | with_reducible refine g_meth ?_
  | with_reducible refine g_chain ?_
  | with_reducible refine g_yes ?_
  | with_reducible refine g_make ?_
  | with_reducible refine g_makeK ?_
  | with_reducible refine g_gsub ?_
  | with_reducible refine g_sfld ?_
  | with_reducible refine g_un ?_
  | with_reducible refine g_bm ?_
  | with_reducible refine g_iteT ?_
  | with_reducible refine g_iteF ?_
  | with_reducible refine g_I0 ?_
  | with_reducible refine g_add ?_
  | with_reducible refine g_sub ?_
  | ((with_reducible refine' g_var ?hv ?_); (case hv => rfl))
  | ((with_reducible refine g_eq ?hv ?_); (case hv => rfl))
  | ((with_reducible refine g_ne ?hv ?_); (case hv => rfl)))
local macro_rules | `(tactic| walk_at "rd") => `(tactic| repeat (walk_at "rd1"))

local macro_rules | `(tactic| walk_at "ty") => `(tactic| first | exact .non | exact .bl _ | exact .int _ | exact .str _ | exact .lst (by assumption) | exact .tup (by assumption) | exact .dK (by assumption) | exact .kTup (by assumption) (by assumption))
local macro_rules | `(tactic| walk_at "isiF") => `(tactic| refine g_isi (by walk_at "ty") (b := false) (by decide +kernel) ?_)
local macro_rules | `(tactic| walk_at "isiT") => `(tactic| refine g_isi (by walk_at "ty") (b := true) (by decide +kernel) ?_)

def LcW (g : TG) (tt : TT) (te : TE) (vs : List Nat) (σ : L2.St) (Q : VK) (J : It) (H1 : Hp) : Prop := ∀ D, H1 D = none → ∃ W : Nat → Nat → Hp → Prop, (∃ m, W 0 m (upd H1 D (.lst []))) ∧ ∀ i m H, W i m H →
  (J.stop i H ∧ Q (.ref D) H) ∨ (J.go i H ∧ ∃ Nx : Hp → Prop, (∀ H', Nx H' → ∃ m', m' < m ∧ W (i + 1) m' H') ∧ ∀ x H', J.yld i H x H' → g x (wipe σ vs) H' fun σ2 H2 => wipe σ2 vs = wipe σ vs ∧ tt σ2 H2 fun b H3 => if b = true then te σ2 H3 fun y H4 => ∃ acc, H4 D = some (.lst acc) ∧ acc.length < sizeLine ∧ Nx (upd H4 D (.lst (acc ++ [y]))) else Nx H3)
theorem g_lc {wi : TI} {g : TG} {tt : TT} {te : TE} {vs : List Nat} {σ : L2.St} {H : Hp} {Q : VK} (q : wi σ H fun J H1 => LcW g tt te vs σ Q J H1) : tLc wi g tt te vs σ H Q := q
theorem g_ilist {te : TE} {σ : L2.St} {H : Hp} {R : It → Hp → Prop} (q : te σ H fun v H1 => ∃ a, v = .ref a ∧ (∃ xs, SqL K H1 a xs) ∧ R (Itl K a) H1) : iList K te σ H R := q
theorem same_upd {H H' : Hp} {L : Addr} {o : HO} (hL : H L = none) (S : Same H H') : Same H (upd H' L o) := fun b u hb => by
  rw [upd_ne (ne_of_none hb hL)]
  exact S _ _ hb
theorem g_tup2 {i j : Nat} {a : Addr} {x y : V} {σ : L2.St} {H : Hp} {Q : L2.St → Hp → Prop} (sq : SqT K H a [x, y]) (q : Q ((σ.set i (some x)).set j (some y)) H) : gTup K 2 (gCons (gName i) (gCons (gName j) gNil)) (.ref a) σ H Q :=
  ⟨a, [x, y], rfl, sq, rfl, x, [y], rfl, y, [], rfl, rfl, q⟩
theorem cr_sumA {X : Cx} (hc : X.calm = true) : CallR X (.builtin "sum") (fun vs H Q => rSum X.K vs H Q ∨ rSumT X.K vs H Q) := by
  intro pins s σ H vs us Q I r h
  rcases h with h | h
  · exact cr_sum hc _ _ _ _ _ _ _ I r h
  · exact cr_sumT hc _ _ _ _ _ _ _ I r h
def isCallT : Tr → Bool
  | .leaf 2 => true
  | .leaf (_ + 4) => true
  | _ => false
def csOf (l : List (Tr × Nat)) : List Tr := (l.filter fun p => isCallT p.1).map (·.1)
theorem csOf_snoc {l : List (Tr × Nat)} {t : Tr} {n i : Nat} (h : l[i]? = some (t, n)) : csOf (l.take (i + 1)) = csOf (l.take i) ++ (if isCallT t = true then [t] else []) := by
  unfold csOf
  rw [List.take_succ, h, List.filter_append, List.map_append]
  cases e : isCallT t <;> simp [e]
/-- a right part's tuple: its word -/
theorem RepT.head {H : Hp} {t : Tr} {v : V} (h : RepT K H t v) (hp : isPartT t = true) : ∃ a z xs, v = .ref a ∧ TupV K H a (.str z :: xs) ∧ callW z = isCallT t := by
  cases t with
  | odd => cases hp
  | leaf i =>
    unfold RepT at h
    obtain ⟨a, ev, tv⟩ := h
    match i, tv with
    | 0, tv => exact ⟨a, sRun, _, ev, tv, by decide +kernel⟩
    | 1, tv => exact ⟨a, sRisk, _, ev, tv, by decide +kernel⟩
    | 2, tv => exact ⟨a, sWant, _, ev, tv, by decide +kernel⟩
    | 3, tv => exact ⟨a, sRun, _, ev, tv, by decide +kernel⟩
    | i + 4, tv => exact ⟨a, sCall, _, ev, tv, by show callW sCall = true; decide +kernel⟩
  | may b =>
    unfold RepT at h
    obtain ⟨a, c, xs, ev, tv, tc, rb⟩ := h
    exact ⟨a, sMaybe, _, ev, tv, by show callW sMaybe = false; decide +kernel⟩
  | both b c =>
    unfold RepT at h
    obtain ⟨a, p, q, xs, ys, ev, tv, tp, rb, tq, rc⟩ := h
    exact ⟨a, sBoth, _, ev, tv, by show callW sBoth = false; decide +kernel⟩
def spCalls (K : PySem.W.Frag) : Sp := fun vs H Q _ => ∃ (a : Addr) (b : List Tr) (xs : List V), vs = [.ref a] ∧ TupV K H a xs ∧ RepB K H b xs ∧ (pio b 0).length ≤ 1000 ∧ (∀ p ∈ pio b 0, isPartT p.1 = true) ∧
  ∀ l ys H', Same H H' → H' l = some (.lst ys) → RepB K H' (csOf (pio b 0)) ys → Q (.ref l) H'
theorem ok_calls (T : Txt K mg) (D : Def K mg "calls_in_order" s_calls_in_order ["block"]) (c_parts_in_order : CalD P w K mg base 4 "parts_in_order" (spPio K 2) [.int 0]) (c_is_call : Cal P w K mg base 1 "is_call" (spIsCall K)) : Cal P w K mg base 5 "calls_in_order" (spCalls K) := by
  refine cal_of D sc_calls_in_order (fun vs H Q E h => ?_) (fun f cdv A outer s H vs Q E hr h => ?_)
  · obtain ⟨a, b, xs, rfl, _⟩ := h
    rfl
  · obtain ⟨a, b, xs, rfl, tv, rb, hl, hp, q⟩ := h
    refine ⟨_, (pss_one (ps_ret (pe_lc (own := [("part", 1), ("_", 2)]) (g := gTup _ 2 (gCons (gName 1) (gCons (gName 2) (gNil)))) (by rfl) sc_calls_in_order.nd (pi_list (pe_fD c_parts_in_order hr (by decide) (by rfl) (pa_cons (pv 0) pa_nil))) (blkOk_by (own := [("part", 1), ("_", 2)]) (N := N_calls_in_order) (sc := defScope s_calls_in_order) (by decide +kernel)) (fun _ _ _ _ _ => pg_tup rfl (pgs_cons (pg_name (i := 1) sc_calls_in_order.nd rfl (Or.inl rfl)) (pgs_cons (pg_name (i := 2) sc_calls_in_order.nd rfl (Or.inl rfl)) (pgs_nil)))) (fun _ _ _ _ _ => (pts_one (pt_val (pe_f c_is_call hr (by decide) (by rfl) (pa_cons (pv 1) pa_nil))))) (fun _ _ _ _ _ => (pv 1))))), ?_⟩
    walk_at "rd"
    refine g_lc (g_ilist ?_)
    walk_at "rd"
    refine ⟨a, 0, b, xs, rfl, by omega, tv, rb, hl, fun l ys H1 S1 hl0 hl1 pr => ?_⟩
    have hlen := pr.len
    refine ⟨l, rfl, ⟨ys, SqL.of hl1⟩, fun L hL => ?_⟩
    refine lc_list (K := K) (a := l) (xs := ys) (fun i H' => ∃ acc, Same H1 H' ∧ H' L = some (.lst acc) ∧ acc.length ≤ i ∧ RepB K H1 (csOf ((pio b 0).take i)) acc) ⟨[], same_new hL, upd_same, Nat.le_refl _, by rw [List.take_zero]; unfold csOf; unfold RepB; rfl⟩ (fun i H' _ ⟨_, e, _⟩ => SqL.of (e _ _ hl1)) ?_ ?_
    · rintro i x H2 hx ⟨acc, S2, hL2, hac, ra⟩
      obtain ⟨t, n, p, v, ht, rfl, tp, rt⟩ := pr.get hx
      have hi : i < (pio b 0).length := (List.getElem?_eq_some_iff.mp ht).1
      have hpt := hp (t, n) (List.mem_of_getElem? ht)
      obtain ⟨pa, z, zs, rfl, tz, ez⟩ := rt.head hpt
      refine g_tup2 (TupV.ext S2 tp).sq ?_
      refine ⟨rfl, ?_⟩
      walk_at "rd"
      refine ⟨pa, z, zs, rfl, TupV.ext S2 tz, fun H3 S3 => ?_⟩
      walk_at "rd"
      have hL3 := S3 _ _ hL2
      have S13 := Same.trans S2 S3
      rw [ez, csOf_snoc ht]
      cases ec : isCallT t
      · walk_at "rd"
        exact ⟨acc, S13, hL3, Nat.le_succ_of_le hac, by simpa using ra⟩
      · walk_at "rd"
        exact ⟨acc, hL3, small1000 (by omega), _, same_upd hL S13, upd_same, by simp; omega, by rw [if_pos rfl]; exact ra.app (RepB.one rt)⟩
    · rintro H2 ⟨acc, S2, hL2, hac, ra⟩
      rw [hlen, List.take_length] at ra
      exact q L acc H2 (Same.trans S1 S2) hL2 (RepB.kp (Kp.of S2) _ _ ra)
end
end K2

namespace K2
open PySem PySem.Spec PyProof.Rows L2 Mc
section
variable {P : Program} {w : World} {K : PySem.W.Frag} {mg : Str → Option Value} {base : Heap}
local macro_rules | `(tactic| walk_at "rd1") => `(tactic| first
  | with_reducible refine g_seq ?_
  | with_reducible refine g_asg ?_
  | with_reducible refine g_name ?_
  | with_reducible refine g_c ?_
  | with_reducible refine g_op ?_
  | with_reducible refine g_ifS ?_
  | with_reducible refine g_if ?_
  | with_reducible refine g_test ?_
  | with_reducible refine g_B ?_
  | with_reducible refine g_bl ?_
  | with_reducible refine g_blV ?_
  | with_reducible refine g_not ?_
  | with_reducible refine g_and ?_
  | with_reducible refine g_or ?_
  | with_reducible refine g_notV ?_
  | with_reducible refine g_andV ?_
  | with_reducible refine g_orV ?_
  | with_reducible refine g_ret ?_
  | with_reducible refine g_drop ?_
  | with_reducible refine g_next ?_
  | with_reducible refine g_retN ?_
  | with_reducible refine g_call ?_
  | with_reducible refine g_cb ?_
  | with_reducible refine g_cons ?_
  | with_reducible refine g_nil ?_
  | with_reducible refine g_tup ?_
  | with_reducible refine g_lst ?_
  | with_reducible refine g_prop ?_
  | with_reducible refine g_fld ?_
  | with_reducible refine g_meth ?_
  | with_reducible refine g_chain ?_
  | with_reducible refine g_yes ?_
  | with_reducible refine g_make ?_
  | with_reducible refine g_makeK ?_
  | with_reducible refine g_gsub ?_
  | with_reducible refine g_sfld ?_
  | with_reducible refine g_un ?_
  | with_reducible refine g_bm ?_
  | with_reducible refine g_iteT ?_
  | with_reducible refine g_iteF ?_
  | with_reducible refine g_I0 ?_
  | with_reducible refine g_add ?_
  | with_reducible refine g_sub ?_
  | ((with_reducible refine' g_var ?hv ?_); (case hv => rfl))
  | ((with_reducible refine g_eq ?hv ?_); (case hv => rfl))
  | ((with_reducible refine g_ne ?hv ?_); (case hv => rfl)))
local macro_rules | `(tactic| walk_at "rd") => `(tactic| repeat (walk_at "rd1"))

local macro_rules | `(tactic| walk_at "ty") => `(tactic| first | exact .non | exact .bl _ | exact .int _ | exact .str _ | exact .lst (by assumption) | exact .tup (by assumption) | exact .dK (by assumption) | exact .kTup (by assumption) (by assumption))
local macro_rules | `(tactic| walk_at "isiF") => `(tactic| refine g_isi (by walk_at "ty") (b := false) (by decide +kernel) ?_)
local macro_rules | `(tactic| walk_at "isiT") => `(tactic| refine g_isi (by walk_at "ty") (b := true) (by decide +kernel) ?_)

structure Prps (P : Program) (w : World) (K : PySem.W.Frag) (mg : Str → Option Value) (base : Heap) (C : Addr) : Prop where
  name : Prp P w K mg base 1 C "name" (getSp C "_name")
  limit : Prp P w K mg base 1 C "limit" (getSp C "_limit")
  tries : Prp P w K mg base 1 C "tries" (getSp C "_tries")
  pauses : Prp P w K mg base 1 C "pauses" (getSp C "_pauses")
  early : Prp P w K mg base 1 C "early" (getSp C "_early")
def spanQ (q : Pol) : Int := match q.e with
  | none => q.t * q.l + q.ps.sum
  | some i => (q.t - 1) * i + q.l
theorem lk5' {q : Pol} {pp ga : Addr} {i : Int} (he : q.e = some i) : (q.fs pp ga).lookup ("_early" : Str) = some (.int i) := by
  show (pfs _ _ _ _ (eV q.e) _ _).lookup ("_early" : Str) = _
  rw [he]; rfl
def spCallSpan (K : PySem.W.Frag) (C : Addr) : Sp := fun vs H Q _ => ∃ (a : Addr) (q : Pol), vs = [.ref a] ∧ PolAt K C H a q ∧ q.ok ∧ Q (.int (spanQ q)) H
theorem ok_call_span {C : Addr} (T : Txt K mg) (D : Def K mg "call_span" s_call_span ["policy"]) (PR : Prps P w K mg base C) : Cal P w K mg base 3 "call_span" (spCallSpan K C) := by
  have pr_early := PR.early
  have pr_limit := PR.limit
  have pr_tries := PR.tries
  have pr_pauses := PR.pauses
  refine cal_of D sc_call_span (fun vs H Q E h => ?_) (fun f cdv A outer s H vs Q E hr h => ?_)
  · obtain ⟨a, q, rfl, _⟩ := h
    rfl
  · obtain ⟨a, q, rfl, pa, ok, k⟩ := h
    obtain ⟨dx, pp, ga, ha, ht⟩ := pa
    refine ⟨_, (pss_cons (ps_if (pt_cmpR op_notN (pe_pr pr_early hr (by decide) (pv 0)) pe_non (nomark _)) (pss_one (ps_ret (pe_op op_add (pe_op op_mul (pe_op op_sub (pe_pr pr_tries hr (by decide) (pv 0)) pe_int) (pe_pr pr_early hr (by decide) (pv 0))) (pe_pr pr_limit hr (by decide) (pv 0))))) pss_nil)
      (pss_one (ps_ret (pe_op op_add (pe_op op_mul (pe_pr pr_tries hr (by decide) (pv 0)) (pe_pr pr_limit hr (by decide) (pv 0))) (pe_callB (cr_sumA (by rfl)) (by rfl) T.n_sum (by decide +kernel) (pa_cons (pe_pr pr_pauses hr (by decide) (pv 0)) pa_nil)))))), ?_⟩
    walk_at "rd"
    refine ⟨a, dx, _, rfl, ha, a, dx, _, _, rfl, ha, lk5, ?_⟩
    walk_at "rd"
    refine ⟨rfl, ?_⟩
    walk_at "rd"
    cases he : q.e with
    | none =>
      show (if false = true then _ else _)
      walk_at "rd"
      refine ⟨a, dx, _, rfl, ha, a, dx, _, _, rfl, ha, lk3, ?_⟩
      walk_at "rd"
      refine ⟨a, dx, _, rfl, ha, a, dx, _, _, rfl, ha, lk2, ?_⟩
      walk_at "rd"
      refine g_I (.inl ⟨by have := ok.t1; omega, by have := ok.t2; omega⟩) ?_
      walk_at "rd"
      refine ⟨a, dx, _, rfl, ha, a, dx, _, _, rfl, ha, lk4, ?_⟩
      walk_at "rd"
      refine .inr ⟨pp, q.ps, rfl, ht.p.sq, ?_⟩
      walk_at "rd"
      have e : spanQ q = q.t * q.l + q.ps.sum := by unfold spanQ; rw [he]
      rw [← e]
      exact k
    | some i =>
      show (if true = true then _ else _)
      walk_at "rd"
      refine ⟨a, dx, _, rfl, ha, a, dx, _, _, rfl, ha, lk3, ?_⟩
      walk_at "rd"
      refine ⟨a, dx, _, rfl, ha, a, dx, _, _, rfl, ha, (by rw [lk5' he]), ?_⟩
      walk_at "rd"
      refine g_I (.inl ⟨by have := ok.t1; omega, by have := ok.t2; omega⟩) ?_
      walk_at "rd"
      refine ⟨a, dx, _, rfl, ha, a, dx, _, _, rfl, ha, lk2, ?_⟩
      walk_at "rd"
      have e : spanQ q = (q.t - 1) * i + q.l := by unfold spanQ; rw [he]
      rw [← e]
      exact k
end
end K2

namespace K2
open PySem PySem.Spec PyProof.Rows L2 Mc
section
variable {P : Program} {w : World} {K : PySem.W.Frag} {mg : Str → Option Value} {base : Heap}
local macro_rules | `(tactic| walk_at "rd1") => `(tactic| first
  | with_reducible refine g_seq ?_
  | with_reducible refine g_asg ?_
  | with_reducible refine g_name ?_
  | with_reducible refine g_c ?_
  | with_reducible refine g_op ?_
  | with_reducible refine g_ifS ?_
  | with_reducible refine g_if ?_
  | with_reducible refine g_test ?_
  | with_reducible refine g_B ?_
  | with_reducible refine g_bl ?_
  | with_reducible refine g_blV ?_
  | with_reducible refine g_not ?_
  | with_reducible refine g_and ?_
  | with_reducible refine g_or ?_
  | with_reducible refine g_notV ?_
  | with_reducible refine g_andV ?_
  | with_reducible refine g_orV ?_
  | with_reducible refine g_ret ?_
  | with_reducible refine g_drop ?_
  | with_reducible refine g_next ?_
  | with_reducible refine g_retN ?_
  | with_reducible refine g_call ?_
  | with_reducible refine g_cb ?_
  | with_reducible refine g_cons ?_
  | with_reducible refine g_nil ?_
  | with_reducible refine g_tup ?_
  | with_reducible refine g_lst ?_
  | with_reducible refine g_prop ?_
  | with_reducible refine g_fld ?_
  | with_reducible refine g_meth ?_
  | with_reducible refine g_chain ?_
  | with_reducible refine g_yes ?_
  | with_reducible refine g_make ?_
  | with_reducible refine g_makeK ?_
  | with_reducible refine g_gsub ?_
  | with_reducible refine g_sfld ?_
  | with_reducible refine g_un ?_
  | with_reducible refine g_bm ?_
  | with_reducible refine g_iteT ?_
  | with_reducible refine g_iteF ?_
  | with_reducible refine g_I0 ?_
  | with_reducible refine g_add ?_
  | with_reducible refine g_sub ?_
  | ((with_reducible refine' g_var ?hv ?_); (case hv => rfl))
  | ((with_reducible refine g_eq ?hv ?_); (case hv => rfl))
  | ((with_reducible refine g_ne ?hv ?_); (case hv => rfl)))
local macro_rules | `(tactic| walk_at "rd") => `(tactic| repeat (walk_at "rd1"))

local macro_rules | `(tactic| walk_at "ty") => `(tactic| first | exact .non | exact .bl _ | exact .int _ | exact .str _ | exact .lst (by assumption) | exact .tup (by assumption) | exact .dK (by assumption) | exact .kTup (by assumption) (by assumption))
local macro_rules | `(tactic| walk_at "isiF") => `(tactic| refine g_isi (by walk_at "ty") (b := false) (by decide +kernel) ?_)
local macro_rules | `(tactic| walk_at "isiT") => `(tactic| refine g_isi (by walk_at "ty") (b := true) (by decide +kernel) ?_)

def polP : Pol := ⟨sP, 2, 1, [], none, false, .go⟩
theorem polP_ok : polP.ok := ⟨by decide +kernel, by decide, by decide, by decide, by decide, by decide, (fun _ z => nomatch z), (fun _ => ⟨rfl, fun _ z => nomatch z⟩), trivial⟩
def PD (K : PySem.W.Frag) (C : Addr) (H : Hp) (d : Addr) : Prop := ∃ a, H d = some (.dK [(Sum.inr sP, .ref a)]) ∧ PolAt K C H a polP
theorem PD.ext {C d : Addr} {H H' : Hp} (e : Same H H') (h : PD K C H d) : PD K C H' d := by
  obtain ⟨a, h1, h2⟩ := h
  exact ⟨a, e _ _ h1, h2.ext e⟩
mutual
def spanT : Tr → Int
  | .leaf 0 => 20
  | .leaf 2 => 2
  | .leaf 3 => 3
  | .leaf _ => 0
  | .odd => 0
  | .may b => spanB b
  | .both b c => if spanB b ≤ spanB c then spanB c else spanB b
def spanB : List Tr → Int
  | [] => 0
  | t :: b => spanT t + spanB b
end
theorem g_dget {td ty : TE} {σ : L2.St} {H : Hp} {Q : VK} (q : td σ H fun x H1 => ty σ H1 fun y H2 => ∃ a v, x = .ref a ∧ DGet H2 a y (some v) ∧ Q v H2) : tDGet td ty σ H Q := q
theorem spanB_sum : ∀ b : List Tr, (b.map spanT).sum = spanB b
  | [] => by simp [spanB]
  | t :: b => by simp [spanB, spanB_sum b]
def goodT : Tr → Bool
  | .leaf i => decide (i < 4)
  | .odd => false
  | _ => true
def FineP (l : List (Tr × Nat)) : Prop := ∀ p ∈ l, goodT p.1 = true ∧ (1 < p.2 → holdsT p.1 = false)
theorem FineP.mem {b : List Tr} {t : Tr} {i n : Nat} (h : b[i]? = some t) (f : FineP (pio b n)) : FineP (one t n) := fun p hp => by
  refine f p ?_
  have e : pio b n = pio (b.take (i + 1)) n ++ pio (b.drop (i + 1)) n := by rw [← pio_app, List.take_append_drop]
  rw [e, pio_take h]
  exact List.mem_append_left _ (List.mem_append_right _ hp)
theorem FineP.in {t : Tr} {b : List Tr} {n j : Nat} (f : FineP (one t n)) (h : (blocks t)[j]? = some b) : n ≤ 1 ∧ FineP (pio b (n + 1)) := by
  have ht : holdsT t = true := by cases t <;> first | rfl | simp [blocks] at h
  have hn : n ≤ 1 := by
    refine Nat.not_lt.mp fun z => ?_
    have := (f (t, n) (by unfold one; exact List.mem_cons_self ..)).2 z
    rw [ht] at this
    cases this
  refine ⟨hn, fun p hp => f p ?_⟩
  unfold one
  rw [if_pos hn, kids_blocks]
  exact List.mem_cons_of_mem _ (List.mem_flatMap.mpr ⟨b, List.mem_of_getElem? h, hp⟩)
theorem len_pio : ∀ (b : List Tr) (n : Nat), b.length ≤ (pio b n).length
  | [], n => Nat.zero_le _
  | t :: b, n => by
    rw [pio_cons, List.length_append]
    have := len_pio b n
    unfold one
    simp only [List.length_cons]
    omega
def spPS (K : PySem.W.Frag) (C : Addr) (m : Nat) : Sp := fun vs H Q _ => ∃ (v : V) (d : Addr) (t : Tr) (n : Nat), vs = [v, .ref d] ∧ RepT K H t v ∧ 2 ≤ n + m ∧ FineP (one t n) ∧ (one t n).length ≤ 1000 ∧ PD K C H d ∧ ∀ H', Same H H' → Q (.int (spanT t)) H'
def spBS (K : PySem.W.Frag) (C : Addr) (m : Nat) : Sp := fun vs H Q _ => ∃ (a d : Addr) (b : List Tr) (xs : List V) (n : Nat), vs = [.ref a, .ref d] ∧ TupV K H a xs ∧ RepB K H b xs ∧ 2 ≤ n + m ∧ FineP (pio b n) ∧ (pio b n).length ≤ 1000 ∧ PD K C H d ∧ ∀ H', Same H H' → Q (.int (spanB b)) H'
theorem ok_bs {C : Addr} {k m : Nat} (T : Txt K mg) (D : Def K mg "block_span" s_block_span ["block", "policies"]) (c_part_span : Cal P w K mg base k "part_span" (spPS K C m)) : Cal P w K mg base (k + 1) "block_span" (spBS K C m) := by
  refine cal_of D sc_block_span (fun vs H Q E h => ?_) (fun f cdv A outer s H vs Q E hr h => ?_)
  · obtain ⟨a, d, b, xs, n, rfl, _⟩ := h
    rfl
  · obtain ⟨a, d, b, xs, n, rfl, tv, rb, hn, fp, hl, pd, q⟩ := h
    refine ⟨_, (pss_one (ps_ret (pe_callB (cr_sumA (by rfl)) (by rfl) T.n_sum (by decide +kernel) (pa_cons (pe_lc (own := [("part", 2)]) (g := gName 2) (by rfl) sc_block_span.nd (pi_tup (pv 0)) (blkOk_by (own := [("part", 2)]) (N := N_block_span) (sc := defScope s_block_span) (by decide +kernel)) (fun _ _ _ _ _ => pg_name (i := 2) sc_block_span.nd rfl (Or.inl rfl)) (fun _ _ _ _ _ => pts_nil) (fun _ _ _ _ _ => (pe_f c_part_span hr (Nat.le_refl _) (by rfl) (pa_cons (pv 2) (pa_cons (pv 1) pa_nil))))) pa_nil)))), ?_⟩
    walk_at "rd"
    refine g_lc (g_itup ?_)
    walk_at "rd"
    refine ⟨a, rfl, ⟨xs, tv.sq⟩, fun L hL => ?_⟩
    have hbl := len_pio b n
    refine lc_tup (K := K) (a := a) (xs := xs) (fun i H' => Same H H' ∧ H' L = some (.lst ((b.take i).map fun t => V.int (spanT t)))) ⟨same_new hL, by rw [upd_same]; rfl⟩ (fun i H' _ e => (TupV.ext e.1 tv).sq) ?_ ?_
    · rintro i x H1 hx ⟨S1, h1⟩
      obtain ⟨t, ht, rt⟩ := rb.get hx
      have hi : i < b.length := (List.getElem?_eq_some_iff.mp ht).1
      walk_at "rd"
      refine ⟨rfl, ?_⟩
      walk_at "rd"
      have hlen : (one t n).length ≤ 1000 := by
        refine Nat.le_trans ?_ hl
        have e : pio b n = pio (b.take (i + 1)) n ++ pio (b.drop (i + 1)) n := by rw [← pio_app, List.take_append_drop]
        rw [e, pio_take ht, List.length_append, List.length_append]
        omega
      refine ⟨x, d, t, n, rfl, RepT.kp (Kp.of S1) _ _ rt, hn, fp.mem ht, hlen, pd.ext S1, fun H2 S2 => ?_⟩
      refine ⟨_, S2 _ _ h1, small1000 (by rw [List.length_map, List.length_take]; omega), same_upd hL (Same.trans S1 S2), ?_⟩
      rw [upd_same]
      exact congrArg (fun l => some (HO.lst l)) (take_map (fun t => V.int (spanT t)) ht)
    · rintro H1 ⟨S1, h1⟩
      refine .inl ⟨L, b.map spanT, rfl, SqL.of ?_, ?_⟩
      · rw [h1, ← rb.len, List.take_length, List.map_map]
        rfl
      · rw [spanB_sum]
        exact q _ S1
theorem spanT_max (t : Tr) (hd : holdsT t = true) : ∀ i : Int, i ∈ (blocks t).map spanB → (∀ y ∈ (blocks t).map spanB, y ≤ i) → i = spanT t := fun i hi hy => by
  cases t with
  | leaf i => cases hd
  | odd => cases hd
  | may b =>
    simp only [blocks, List.map_cons, List.map_nil, List.mem_cons, List.not_mem_nil, or_false] at hi
    rw [hi]; unfold spanT; rfl
  | both b c =>
    simp only [blocks, List.map_cons, List.map_nil, List.mem_cons, List.not_mem_nil, or_false, forall_eq_or_imp, forall_eq] at hi hy
    unfold spanT
    split <;> omega

theorem ok_ps {C : Addr} {k m : Nat} {sb : Sp} (T : Txt K mg) (D : Def K mg "part_span" s_part_span ["part", "policies"]) (hk : 3 ≤ k) (c_block_span : Cal P w K mg base k "block_span" sb) (hS : m = 0 ∨ sb = spBS K C (m - 1))
    (c_is_call : Cal P w K mg base 1 "is_call" (spIsCall K)) (c_call_span : Cal P w K mg base 3 "call_span" (spCallSpan K C)) : Cal P w K mg base (k + 1) "part_span" (spPS K C m) := by
  refine cal_of D sc_part_span (fun vs H Q E h => ?_) (fun f cdv A outer s H vs Q E hr h => ?_)
  · obtain ⟨v, d, t, n, rfl, _⟩ := h
    rfl
  · obtain ⟨v, d, t, n, rfl, rt, hn, fp, hl, pd, q⟩ := h
    have hr1 := hr.mono (show 1 ≤ k by omega)
    have hr3 := hr.mono hk
    have gt := (fp (t, n) (by unfold one; exact List.mem_cons_self ..)).1
    have hpt : isPartT t = true := by cases t <;> first | rfl | cases gt
    refine ⟨_, (pss_cons (ps_if (pt_cmpR op_eq (pe_ix ix_tup (pv 0) pe_int (fun _ _ => rfl)) pe_str (nomark _)) (pss_one (ps_ret (pe_ix ix_tup (pv 0) pe_int (fun _ _ => rfl)))) pss_nil)
      (pss_cons (ps_if (pt_cmpR op_eq (pe_ix ix_tup (pv 0) pe_int (fun _ _ => rfl)) pe_str (nomark _)) (pss_one (ps_ret pe_int)) pss_nil)
      (pss_cons (ps_if (pt_val (pe_f c_is_call hr1 (by decide) (by rfl) (pa_cons (pv 0) pa_nil))) (pss_one (ps_ret (pe_f c_call_span hr3 (by decide) (by rfl) (pa_cons (pe_dget (Nat.lt_of_le_of_lt (Nat.add_le_add_left (by decide : 1 ≤ 64) _) hr.units) (pv 1) (pe_ix ix_tup (pv 0) pe_int (fun _ _ => rfl)) (fun _ _ => rfl)) pa_nil)))) pss_nil)
      (pss_one (ps_ret (pe_callB (cr_max (by rfl)) (by rfl) T.n_max (by decide +kernel) (pa_cons (pe_lc (own := [("inner", 2)]) (g := gName 2) (by rfl) sc_part_span.nd (pi_tup (pe_slice sl_tup (pv 0) (po_some pe_int) po_none)) (blkOk_by (own := [("inner", 2)]) (N := N_part_span) (sc := defScope s_part_span) (by decide +kernel)) (fun _ _ _ _ _ => pg_name (i := 2) sc_part_span.nd rfl (Or.inl rfl)) (fun _ _ _ _ _ => pts_nil) (fun _ _ _ _ _ => (pe_f c_block_span hr (Nat.le_refl _) (by rfl) (pa_cons (pv 2) (pa_cons (pv 1) pa_nil))))) pa_nil))))))), ?_⟩
    by_cases hd : holdsT t = true
    · have hs := spanT_max t hd
      have h2 : 0 < (blocks t).length ∧ (blocks t).length ≤ 2 := by cases t <;> first | (cases hd; done) | simp [blocks]
      obtain ⟨a, z, cs, rfl, tv, hz, hcl, hcs⟩ := rt.held hd
      have hz1 : decide (V.str z = V.str sRun) = false := by rcases hz with rfl | rfl <;> decide +kernel
      have hz2 : decide (V.str z = V.str sRisk) = false := by rcases hz with rfl | rfl <;> decide +kernel
      have hz3 : callW z = false := by rcases hz with rfl | rfl <;> decide +kernel
      walk_at "rd"
      refine g_ixT tv.sq (v := .str z) (atI_nat (j := 0) rfl) ?_
      walk_at "rd"
      refine g_andC0 hz1 ?_
      walk_at "rd"
      refine g_ixT tv.sq (v := .str z) (atI_nat (j := 0) rfl) ?_
      walk_at "rd"
      refine g_andC0 hz2 ?_
      walk_at "rd"
      refine ⟨a, z, _, rfl, tv, fun H1 S1 => ?_⟩
      rw [hz3]
      walk_at "rd"
      refine g_lc (g_itup (g_sl1 ?_))
      walk_at "rd"
      have tv1 := TupV.ext S1 tv
      refine ⟨a, _, rfl, tv1.sq, ?_, fun u hu => ?_⟩
      · intro z
        have z1 := z.1
        rw [show (V.str _ :: cs.map V.ref).length = (cs.map V.ref).length + 1 from rfl, six1] at z1
        cases z1
      rw [cut1]
      have tu : SqT K (upd H1 u (.tup (cs.map V.ref))) u (cs.map V.ref) := SqT.of upd_same
      have S2 : Same H (upd H1 u (.tup (cs.map V.ref))) := Same.trans S1 (same_new hu)
      generalize (upd H1 u (.tup (cs.map V.ref))) = H2 at tu S2 ⊢
      refine ⟨u, rfl, ⟨_, tu⟩, fun L hL => ?_⟩
      refine lc_tup (K := K) (a := u) (xs := cs.map V.ref) (fun j H' => Same H2 H' ∧ H' L = some (.lst (((blocks t).take j).map fun b => V.int (spanB b)))) ⟨same_new hL, by rw [upd_same]; rfl⟩ (fun i H' _ e => sqT_ext e.1 tu) ?_ ?_
      · rintro j y H3 hy ⟨S3, h3⟩
        rw [List.getElem?_map] at hy
        obtain ⟨c, hc, rfl⟩ := Option.map_eq_some_iff.mp hy
        obtain ⟨b', xs', hb', tc, rc⟩ := hcs j c hc
        obtain ⟨hn1, fp'⟩ := fp.in hb'
        have em := hS.resolve_left (by omega)
        have SH := Same.trans S2 S3
        have hlen : (pio b' (n + 1)).length ≤ 1000 := by
          have hle := fm_le (bs := blocks t) (j := j + 1) (n := n + 1)
          rw [fm_take hb', List.length_append] at hle
          unfold one at hl
          rw [if_pos hn1, kids_blocks, List.length_cons] at hl
          omega
        have hj : j < 2 := by
          have := (List.getElem?_eq_some_iff.mp hb').1
          omega
        walk_at "rd"
        refine ⟨rfl, ?_⟩
        walk_at "rd"
        rw [em]
        refine ⟨c, d, b', xs', n + 1, rfl, TupV.ext SH tc, RepB.kp (Kp.of SH) _ _ rc, by omega, fp', hlen, pd.ext SH, fun H4 S4 => ?_⟩
        refine ⟨_, S4 _ _ h3, small1000 (by rw [List.length_map, List.length_take]; omega), same_upd hL (Same.trans S3 S4), ?_⟩
        rw [upd_same]
        exact congrArg (fun l => some (HO.lst l)) (take_map (fun t => V.int (spanB t)) hb')
      · rintro H3 ⟨S3, h3⟩
        rw [List.length_map, hcl, List.take_length] at h3
        walk_at "rd"
        refine ⟨L, (blocks t).map spanB, rfl, SqL.of (by rw [h3, List.map_map]; rfl), by rw [List.length_map]; exact h2.1, fun i hi hy => ?_⟩
        rw [hs i hi hy]
        exact q _ (Same.trans S2 S3)
    clear hpt
    match t, rt, fp, hl, gt, q, hd with
    | .odd, rt, fp, hl, gt, q, hd => cases gt
    | .leaf 0, rt, fp, hl, gt, q, hd =>
      unfold RepT at rt
      obtain ⟨a, rfl, tv⟩ := rt
      walk_at "rd"
      refine g_ixT tv.sq (v := .str sRun) (atI_nat (j := 0) rfl) ?_
      walk_at "rd"
      refine g_andC (by decide +kernel) ?_
      walk_at "rd"
      refine g_ixT tv.sq (v := .int 20) (atI_nat (j := 2) rfl) ?_
      have q := q H (Same.refl H)
      unfold spanT at q
      exact q
    | .leaf 1, rt, fp, hl, gt, q, hd =>
      unfold RepT at rt
      obtain ⟨a, rfl, tv⟩ := rt
      walk_at "rd"
      refine g_ixT tv.sq (v := .str sRisk) (atI_nat (j := 0) rfl) ?_
      walk_at "rd"
      refine g_andC0 (by decide +kernel) ?_
      walk_at "rd"
      refine g_ixT tv.sq (v := .str sRisk) (atI_nat (j := 0) rfl) ?_
      walk_at "rd"
      refine g_andC (by decide +kernel) ?_
      walk_at "rd"
      have q := q H (Same.refl H)
      unfold spanT at q
      exact q
    | .leaf 2, rt, fp, hl, gt, q, hd =>
      unfold RepT at rt
      obtain ⟨a, rfl, tv⟩ := rt
      walk_at "rd"
      refine g_ixT tv.sq (v := .str sWant) (atI_nat (j := 0) rfl) ?_
      walk_at "rd"
      refine g_andC0 (by decide +kernel) ?_
      walk_at "rd"
      refine g_ixT tv.sq (v := .str sWant) (atI_nat (j := 0) rfl) ?_
      walk_at "rd"
      refine g_andC0 (by decide +kernel) ?_
      walk_at "rd"
      refine ⟨a, sWant, _, rfl, tv, fun H1 S1 => ?_⟩
      rw [show callW sWant = true by decide +kernel]
      walk_at "rd"
      refine g_dget ?_
      walk_at "rd"
      refine g_ixT (TupV.ext S1 tv).sq (v := .str sP) (atI_nat (j := 2) rfl) ?_
      obtain ⟨pa, hpd, hpa⟩ := pd.ext S1
      refine ⟨d, _, rfl, DGet.k (k := Sum.inr sP) hpd, ?_⟩
      walk_at "rd"
      refine ⟨pa, polP, rfl, hpa, polP_ok, ?_⟩
      have q := q H1 S1
      unfold spanT at q
      exact q
    | .leaf 3, rt, fp, hl, gt, q, hd =>
      unfold RepT at rt
      obtain ⟨a, rfl, tv⟩ := rt
      walk_at "rd"
      refine g_ixT tv.sq (v := .str sRun) (atI_nat (j := 0) rfl) ?_
      walk_at "rd"
      refine g_andC (by decide +kernel) ?_
      walk_at "rd"
      refine g_ixT tv.sq (v := .int 3) (atI_nat (j := 2) rfl) ?_
      have q := q H (Same.refl H)
      unfold spanT at q
      exact q
    | .leaf (i + 4), rt, fp, hl, gt, q, hd =>
      exact absurd (of_decide_eq_true (show decide (i + 4 < 4) = true from gt)) (by omega)
    | .may b, rt, fp, hl, gt, q, hd => exact absurd rfl hd
    | .both b c, rt, fp, hl, gt, q, hd => exact absurd rfl hd
end
end K2

namespace K2
open PySem PySem.Spec PyProof.Rows L2 Mc
/-! ### the law's own walk, and the program's -/
mutual
def bT (at_ : Int) : Tr → Nat → Tr × Nat
  | .may b, c => (if (c : Int) = at_ then .odd else .may (bB at_ b (c + 1)).1, (bB at_ b (c + 1)).2)
  | .both b e, c => (if (c : Int) = at_ then .odd else .both (bB at_ b (c + 1)).1 (bB at_ e (bB at_ b (c + 1)).2).1, (bB at_ e (bB at_ b (c + 1)).2).2)
  | .leaf i, c => (if (c : Int) = at_ then .odd else .leaf i, c + 1)
  | .odd, c => (.odd, c + 1)
def bB (at_ : Int) : List Tr → Nat → List Tr × Nat
  | [], c => ([], c)
  | t :: b, c => ((bT at_ t c).1 :: (bB at_ b (bT at_ t c).2).1, (bB at_ b (bT at_ t c).2).2)
end
mutual
def fT (at_ : Int) : Tr → Nat → Nat → Option Nat × Nat
  | .may b, d, c => if (c : Int) = at_ ∨ c = 12 ∨ d = 2 then (some c, c + 1) else fB at_ b (d + 1) (c + 1)
  | .both b e, d, c => if (c : Int) = at_ ∨ c = 12 ∨ d = 2 then (some c, c + 1) else if (fB at_ b (d + 1) (c + 1)).1.isSome then fB at_ b (d + 1) (c + 1) else fB at_ e (d + 1) (fB at_ b (d + 1) (c + 1)).2
  | _, d, c => if (c : Int) = at_ ∨ c = 12 then (some c, c + 1) else (none, c + 1)
def fB (at_ : Int) : List Tr → Nat → Nat → Option Nat × Nat
  | [], d, c => (none, c)
  | t :: b, d, c => if (fT at_ t d c).1.isSome then fT at_ t d c else fB at_ b d (fT at_ t d c).2
end
mutual
def mT : Tr → Nat
  | .may b => 1 + mB b
  | .both b e => 1 + (mB b + mB e)
  | _ => 1
def mB : List Tr → Nat
  | [] => 0
  | t :: b => mT t + mB b
end
mutual
def okT : Tr → Prop
  | .leaf i => i < 4
  | .odd => False
  | .may b => okB b
  | .both b e => okB b ∧ okB e
def okB : List Tr → Prop
  | [] => True
  | t :: b => okT t ∧ okB b
end
/-- the first pair that is wrong -/
def wr : List (Tr × Nat) → Nat → Option Nat
  | [], _ => none
  | p :: l, c => if c = 12 ∨ (1 < p.2 ∧ holdsT p.1 = true) ∨ isPartT p.1 = false then some c else wr l (c + 1)
theorem wr_app : ∀ (l m : List (Tr × Nat)) (c : Nat), wr (l ++ m) c = if (wr l c).isSome then wr l c else wr m (c + l.length)
  | [], m, c => by simp [wr]
  | p :: l, m, c => by
    have e : c + (p :: l).length = c + 1 + l.length := by simp only [List.length_cons]; omega
    rw [e]
    by_cases h : c = 12 ∨ (1 < p.2 ∧ holdsT p.1 = true) ∨ isPartT p.1 = false
    · have e1 : wr (p :: l) c = some c := by simp only [wr]; rw [if_pos h]
      have e2 : wr (p :: l ++ m) c = some c := by show wr (p :: (l ++ m)) c = _; simp only [wr]; rw [if_pos h]
      rw [e1, e2]; rfl
    · have e1 : wr (p :: l) c = wr l (c + 1) := by simp only [wr]; rw [if_neg h]
      have e2 : wr (p :: l ++ m) c = wr (l ++ m) (c + 1) := by show wr (p :: (l ++ m)) c = _; simp only [wr]; rw [if_neg h]
      rw [e1, e2]
      exact wr_app l m (c + 1)
theorem wr_le : ∀ (l : List (Tr × Nat)) (c : Nat), wr l c = none → c ≤ 12 → c + l.length ≤ 12
  | [], c, h, hc => by simpa using hc
  | p :: l, c, h, hc => by
    simp only [wr] at h
    split at h
    · cases h
    · rename_i g
      have := wr_le l (c + 1) h (by have : c ≠ 12 := fun e => g (.inl e); omega)
      simp only [List.length_cons]; omega
mutual
theorem bT_many (a : Int) : ∀ (t : Tr) (c : Nat), (bT a t c).2 = c + mT t
  | .leaf i, c => by simp [bT, mT]
  | .odd, c => by simp [bT, mT]
  | .may b, c => by simp only [bT, mT]; rw [bB_many a b]; omega
  | .both b e, c => by simp only [bT, mT]; rw [bB_many a e, bB_many a b]; omega
theorem bB_many (a : Int) : ∀ (b : List Tr) (c : Nat), (bB a b c).2 = c + mB b
  | [], c => by simp [bB, mB]
  | t :: b, c => by simp only [bB, mB]; rw [bB_many a b, bT_many a t]; omega
end
mutual
theorem bT_neg : ∀ (t : Tr) (c : Nat), (bT (-1) t c).1 = t
  | .leaf i, c => by simp only [bT]; rw [if_neg (by omega)]
  | .odd, c => by simp [bT]
  | .may b, c => by simp only [bT]; rw [if_neg (by omega), bB_neg b]
  | .both b e, c => by simp only [bT]; rw [if_neg (by omega), bB_neg b, bB_neg e]
theorem bB_neg : ∀ (b : List Tr) (c : Nat), (bB (-1) b c).1 = b
  | [], c => by simp [bB]
  | t :: b, c => by simp only [bB]; rw [bB_neg b, bT_neg t]
end
theorem wr_some {l : List (Tr × Nat)} {c k : Nat} (h : wr l c = some k) : (wr l c).isSome = true := by rw [h]; rfl
def kd (t : Tr) (n : Nat) : List (Tr × Nat) := if n ≤ 1 then kids t (n + 1) else []
theorem pio_cons' {t : Tr} {b : List Tr} {n : Nat} : pio (t :: b) n = ((t, n) :: kd t n) ++ pio b n := by (conv => lhs; unfold pio); rfl
def Agr (l : List (Tr × Nat)) (f : Option Nat × Nat) (c : Nat) (c' : Nat) : Prop := wr l c = f.1 ∧ (f.1 = none → f.2 = c' ∧ c' = c + l.length)
theorem Agr.app {l m : List (Tr × Nat)} {f g : Option Nat × Nat} {c c1 c2 : Nat} (h : Agr l f c c1) (h' : f.1 = none → Agr m g c1 c2) : Agr (l ++ m) (if f.1.isSome then f else g) c c2 := by
  obtain ⟨h1, h2⟩ := h
  unfold Agr
  rw [wr_app, h1]
  cases e : f.1 with
  | some k => simp [e]
  | none =>
    obtain ⟨e1, e2⟩ := h2 e
    obtain ⟨g1, g2⟩ := h' e
    simp only [Option.isSome_none, Bool.false_eq_true, if_false]
    rw [← e2]
    refine ⟨g1, fun k => ?_⟩
    obtain ⟨k1, k2⟩ := g2 k
    refine ⟨k1, ?_⟩
    rw [k2, e2, List.length_append]
    omega
theorem Agr.now {t : Tr} {n : Nat} {l : List (Tr × Nat)} {c c' : Nat} {k : Nat} (h : c = 12 ∨ (1 < n ∧ holdsT t = true) ∨ isPartT t = false) : Agr ((t, n) :: l) (some c, k) c c' := ⟨by simp only [wr]; rw [if_pos h], fun z => nomatch z⟩
theorem Agr.next {t : Tr} {n : Nat} {l : List (Tr × Nat)} {f : Option Nat × Nat} {c c' : Nat} (h : ¬ (c = 12 ∨ (1 < n ∧ holdsT t = true) ∨ isPartT t = false)) (g : Agr l f (c + 1) c') : Agr ((t, n) :: l) f c c' := by
  refine ⟨?_, fun z => ?_⟩
  · simp only [wr]
    rw [if_neg h]
    exact g.1
  · obtain ⟨g1, g2⟩ := g.2 z
    exact ⟨g1, by rw [g2, List.length_cons]; omega⟩
mutual
theorem agrT (a : Int) : ∀ (t : Tr) (d c : Nat), okT t → d ≤ 2 → Agr (((bT a t c).1, d) :: kd (bT a t c).1 d) (fT a t d c) c (bT a t c).2
  | .leaf i, d, c, ho, hd => by
    simp only [bT, fT]
    by_cases h1 : (c : Int) = a
    · rw [if_pos h1, if_pos (.inl h1)]
      exact Agr.now (.inr (.inr rfl))
    · rw [if_neg h1]
      by_cases h2 : c = 12
      · rw [if_pos (.inr h2)]
        exact Agr.now (.inl h2)
      · rw [if_neg (by rintro (h | h) <;> simp_all)]
        refine Agr.next (fun z => by rcases z with h | ⟨_, h⟩ | h <;> first | exact absurd h h2 | cases h) ?_
        have e : kd (.leaf i) d = [] := by unfold kd; simp only [kids, ite_self]
        rw [e]
        exact ⟨rfl, fun _ => ⟨rfl, by simp⟩⟩
  | .odd, d, c, ho, hd => by
    unfold okT at ho
    exact ho.elim
  | .may b, d, c, ho, hd => by
    unfold okT at ho
    simp only [bT, fT]
    by_cases h1 : (c : Int) = a
    · rw [if_pos h1, if_pos (.inl h1)]
      exact Agr.now (.inr (.inr rfl))
    · rw [if_neg h1]
      by_cases h2 : c = 12
      · rw [if_pos (.inr (.inl h2))]
        exact Agr.now (.inl h2)
      · by_cases h3 : d = 2
        · rw [if_pos (.inr (.inr h3))]
          exact Agr.now (.inr (.inl ⟨by omega, rfl⟩))
        · rw [if_neg (by rintro (h | h | h) <;> simp_all)]
          refine Agr.next (fun z => by rcases z with h | ⟨h, _⟩ | h <;> first | exact absurd h h2 | omega | cases h) ?_
          have e : kd (.may (bB a b (c + 1)).1) d = pio (bB a b (c + 1)).1 (d + 1) := by unfold kd; rw [if_pos (by omega)]; simp only [kids]
          rw [e]
          exact agrB a b (d + 1) (c + 1) ho (by omega)
  | .both b e, d, c, ho, hd => by
    unfold okT at ho
    simp only [bT, fT]
    by_cases h1 : (c : Int) = a
    · rw [if_pos h1, if_pos (.inl h1)]
      exact Agr.now (.inr (.inr rfl))
    · rw [if_neg h1]
      by_cases h2 : c = 12
      · rw [if_pos (.inr (.inl h2))]
        exact Agr.now (.inl h2)
      · by_cases h3 : d = 2
        · rw [if_pos (.inr (.inr h3))]
          exact Agr.now (.inr (.inl ⟨by omega, rfl⟩))
        · rw [if_neg (by rintro (h | h | h) <;> simp_all)]
          refine Agr.next (fun z => by rcases z with h | ⟨h, _⟩ | h <;> first | exact absurd h h2 | omega | cases h) ?_
          have e' : kd (.both (bB a b (c + 1)).1 (bB a e (bB a b (c + 1)).2).1) d = pio (bB a b (c + 1)).1 (d + 1) ++ pio (bB a e (bB a b (c + 1)).2).1 (d + 1) := by unfold kd; rw [if_pos (by omega)]; simp only [kids]
          rw [e']
          have g1 := agrB a b (d + 1) (c + 1) ho.1 (by omega)
          refine Agr.app g1 (fun z => ?_)
          have g2 := agrB a e (d + 1) (bB a b (c + 1)).2 ho.2 (by omega)
          rw [(g1.2 z).1]
          exact g2
theorem agrB (a : Int) : ∀ (b : List Tr) (d c : Nat), okB b → d ≤ 2 → Agr (pio (bB a b c).1 d) (fB a b d c) c (bB a b c).2
  | [], d, c, ho, hd => by
    simp only [bB, fB, pio]
    exact ⟨rfl, fun _ => ⟨rfl, by simp⟩⟩
  | t :: b, d, c, ho, hd => by
    unfold okB at ho
    simp only [bB, fB]
    rw [pio_cons']
    have g1 := agrT a t d c ho.1 hd
    refine Agr.app g1 (fun z => ?_)
    rw [(g1.2 z).1]
    exact agrB a b d (bT a t c).2 ho.2 hd
end
theorem first_bent {b : List Tr} (ho : okB b) (a : Int) : wr (pio (bB a b 0).1 0) 0 = (fB a b 0 0).1 := (agrB a b 0 0 ho (by omega)).1
theorem first_many {b : List Tr} (ho : okB b) : wr (pio b 0) 0 = (fB (-1) b 0 0).1 ∧ ((fB (-1) b 0 0).1 = none → (pio b 0).length = mB b) := by
  have h := agrB (-1) b 0 0 ho (by omega)
  rw [bB_neg] at h
  refine ⟨h.1, fun z => ?_⟩
  have := (h.2 z).2
  rw [bB_many] at this
  omega

mutual
def wkT : Tr → Prop
  | .leaf i => i < 4
  | .odd => True
  | .may b => wkB b
  | .both b e => wkB b ∧ wkB e
def wkB : List Tr → Prop
  | [] => True
  | t :: b => wkT t ∧ wkB b
end
mutual
theorem wkT_bent (a : Int) : ∀ (t : Tr) (c : Nat), okT t → wkT (bT a t c).1
  | .leaf i, c, h => by
    unfold okT at h
    simp only [bT]
    split
    · unfold wkT; trivial
    · unfold wkT; exact h
  | .odd, c, h => by unfold okT at h; exact h.elim
  | .may b, c, h => by
    unfold okT at h
    simp only [bT]
    split
    · unfold wkT; trivial
    · unfold wkT; exact wkB_bent a b _ h
  | .both b e, c, h => by
    unfold okT at h
    simp only [bT]
    split
    · unfold wkT; trivial
    · unfold wkT; exact ⟨wkB_bent a b _ h.1, wkB_bent a e _ h.2⟩
theorem wkB_bent (a : Int) : ∀ (b : List Tr) (c : Nat), okB b → wkB (bB a b c).1
  | [], c, h => by simp only [bB]; unfold wkB; trivial
  | t :: b, c, h => by
    unfold okB at h
    simp only [bB]
    unfold wkB
    exact ⟨wkT_bent a t c h.1, wkB_bent a b _ h.2⟩
end
mutual
theorem wkT_good : ∀ (t : Tr) (n : Nat), wkT t → ∀ p ∈ one t n, isPartT p.1 = true → goodT p.1 = true
  | .leaf i, n, h, p, hp, hg => by
    unfold wkT at h
    unfold one at hp
    simp only [kids, ite_self, List.mem_cons, List.not_mem_nil, or_false] at hp
    rw [hp]
    exact decide_eq_true h
  | .odd, n, h, p, hp, hg => by
    unfold one at hp
    simp only [kids, ite_self, List.mem_cons, List.not_mem_nil, or_false] at hp
    rw [hp] at hg
    cases hg
  | .may b, n, h, p, hp, hg => by
    unfold wkT at h
    unfold one at hp
    rcases List.mem_cons.mp hp with e | e
    · rw [e]; rfl
    · split at e
      · simp only [kids] at e
        exact wkB_good b _ h p e hg
      · cases e
  | .both b c, n, h, p, hp, hg => by
    unfold wkT at h
    unfold one at hp
    rcases List.mem_cons.mp hp with e | e
    · rw [e]; rfl
    · split at e
      · simp only [kids, List.mem_append] at e
        rcases e with e | e
        · exact wkB_good b _ h.1 p e hg
        · exact wkB_good c _ h.2 p e hg
      · cases e
theorem wkB_good : ∀ (b : List Tr) (n : Nat), wkB b → ∀ p ∈ pio b n, isPartT p.1 = true → goodT p.1 = true
  | [], n, h, p, hp, hg => by rw [pio_nil] at hp; cases hp
  | t :: b, n, h, p, hp, hg => by
    unfold wkB at h
    rw [pio_cons, List.mem_append] at hp
    rcases hp with e | e
    · exact wkT_good t n h.1 p e hg
    · exact wkB_good b n h.2 p e hg
end
theorem wr_none : ∀ (l : List (Tr × Nat)) (c : Nat), wr l c = none → ∀ p ∈ l, isPartT p.1 = true ∧ (1 < p.2 → holdsT p.1 = false)
  | [], c, h, p, hp => by cases hp
  | q :: l, c, h, p, hp => by
    simp only [wr] at h
    split at h
    · cases h
    · rename_i g
      rcases List.mem_cons.mp hp with e | e
      · rw [e]
        refine ⟨?_, fun hn => ?_⟩
        · cases hq : isPartT q.1
          · exact absurd (.inr (.inr hq)) g
          · rfl
        · cases hq : holdsT q.1
          · rfl
          · exact absurd (.inr (.inl ⟨hn, hq⟩)) g
      · exact wr_none l (c + 1) h p e
theorem wr_fine {b : List Tr} {n : Nat} (h : wr (pio b n) 0 = none) (hw : wkB b) : FineP (pio b n) ∧ (pio b n).length ≤ 12 := by
  refine ⟨fun p hp => ?_, ?_⟩
  · obtain ⟨h1, h2⟩ := wr_none _ _ h p hp
    exact ⟨wkB_good b n hw p hp h1, h2⟩
  · have := wr_le _ _ h (by omega)
    omega
mutual
theorem spT_le : ∀ (t : Tr) (n : Nat), FineP (one t n) → spanT t ≤ 20 * ((one t n).length : Int) ∧ 0 ≤ spanT t
  | .leaf i, n, f => by
    have e : (one (.leaf i) n).length = 1 := by unfold one; simp only [kids, ite_self, List.length_cons, List.length_nil]
    rw [e]
    match i with
    | 0 => rw [show spanT (.leaf 0) = 20 from by unfold spanT; rfl]; omega
    | 1 => rw [show spanT (.leaf 1) = 0 from by unfold spanT; rfl]; omega
    | 2 => rw [show spanT (.leaf 2) = 2 from by unfold spanT; rfl]; omega
    | 3 => rw [show spanT (.leaf 3) = 3 from by unfold spanT; rfl]; omega
    | i + 4 => rw [show spanT (.leaf (i + 4)) = 0 from by unfold spanT; rfl]; omega
  | .odd, n, f => by unfold spanT; omega
  | .may b, n, f => by
    obtain ⟨hn, f'⟩ := f.in (j := 0) (b := b) rfl
    have := spB_le b (n + 1) f'
    have e : (one (.may b) n).length = (pio b (n + 1)).length + 1 := by unfold one; rw [if_pos hn]; simp only [kids, List.length_cons]
    unfold spanT
    rw [e]
    omega
  | .both b c, n, f => by
    obtain ⟨hn, f'⟩ := f.in (j := 0) (b := b) rfl
    obtain ⟨_, f2⟩ := f.in (j := 1) (b := c) rfl
    have h1 := spB_le b (n + 1) f'
    have h2 := spB_le c (n + 1) f2
    have e : (one (.both b c) n).length = (pio b (n + 1)).length + (pio c (n + 1)).length + 1 := by unfold one; rw [if_pos hn]; simp only [kids, List.length_cons, List.length_append]
    unfold spanT
    rw [e]
    split <;> omega
theorem spB_le : ∀ (b : List Tr) (n : Nat), FineP (pio b n) → spanB b ≤ 20 * ((pio b n).length : Int) ∧ 0 ≤ spanB b
  | [], n, f => by unfold spanB; rw [pio_nil]; simp
  | t :: b, n, f => by
    have h1 := spT_le t n (fun p hp => f p (by rw [pio_cons]; exact List.mem_append_left _ hp))
    have h2 := spB_le b n (fun p hp => f p (by rw [pio_cons]; exact List.mem_append_right _ hp))
    unfold spanB
    rw [pio_cons, List.length_append]
    omega
end
section
variable {P : Program} {w : World} {K : PySem.W.Frag} {mg : Str → Option Value} {base : Heap}
theorem ok_pio (T : Txt K mg) (D : DefP K mg) (c_holds_blocks : Cal P w K mg base 1 "holds_blocks" (spHolds K)) : CalD P w K mg base 4 "parts_in_order" (spPio K 2) [.int 0] := by
  have s0 := (pio_step (m := 0) (by decide) T D c_holds_blocks (pio_no (P := P) (w := w) (base := base) D) (.inl rfl)).1
  have s1 := (pio_step (m := 1) (by decide) T D c_holds_blocks s0 (.inr rfl)).1
  exact (pio_step (m := 2) (by decide) T D c_holds_blocks s1 (.inr rfl)).2
theorem ok_block_span {C : Addr} (T : Txt K mg) (D : Def K mg "block_span" s_block_span ["block", "policies"]) (D' : Def K mg "part_span" s_part_span ["part", "policies"]) (c_is_call : Cal P w K mg base 1 "is_call" (spIsCall K)) (c_call_span : Cal P w K mg base 3 "call_span" (spCallSpan K C)) :
    Cal P w K mg base 9 "block_span" (spBS K C 2) := by
  have b : Cal P w K mg base 3 "block_span" spNo := cal_of D sc_block_span (fun vs H Q E h => h.elim) (fun f cdv A outer s H vs Q E hr h => h.elim)
  have p0 := ok_ps (C := C) (m := 0) T D' (by decide) b (.inl rfl) c_is_call c_call_span
  have b0 := ok_bs T D p0
  have p1 := ok_ps (C := C) (m := 1) T D' (by decide) b0 (.inr rfl) c_is_call c_call_span
  have b1 := ok_bs T D p1
  have p2 := ok_ps (C := C) (m := 2) T D' (by decide) b1 (.inr rfl) c_is_call c_call_span
  exact ok_bs T D p2
end
end K2

namespace Mx
open PySem PySem.Spec PyProof.Rows L2
open PySem.W (KxsFacts kxs_mw ks_superIn)
/-! own error classes directly over any of the built-in ones -/
structure BaseK (B nI iI : String) (tl : List Value) : Prop where
  eb : ExcBaseFacts B nI iI tl
  kx : KxsFacts B iI
  st : StoreFacts B tl "object.__setattr__" "object"
theorem base_VE : BaseK "ValueError" "ValueError.__new__" "ValueError.__init__" [.type "ValueError", .type "Exception", .type "BaseException", .type "object"] := ⟨F.excBase_ValueError, PySem.W.kxs_ValueError, F.store_ValueError⟩
theorem base_LE : BaseK "LookupError" "LookupError.__new__" "LookupError.__init__" [.type "LookupError", .type "Exception", .type "BaseException", .type "object"] := ⟨F.excBase_LookupError, PySem.W.kxs_LookupError, F.store_LookupError⟩
theorem base_RE : BaseK "RuntimeError" "RuntimeError.__new__" "RuntimeError.__init__" [.type "RuntimeError", .type "Exception", .type "BaseException", .type "object"] := ⟨F.excBase_RuntimeError, PySem.W.kxs_RuntimeError, F.store_RuntimeError⟩
theorem base_OE : BaseK "OverflowError" "OverflowError.__new__" "OverflowError.__init__" [.type "OverflowError", .type "ArithmeticError", .type "Exception", .type "BaseException", .type "object"] := ⟨F.excBase_OverflowError, PySem.W.kxs_OverflowError, F.store_OverflowError⟩
structure OexB (nI : String) (tl : List Value) (K : PySem.W.Frag) (C : Addr) : Prop where
  cls : ∃ nm q N bs sn sub ab col dd k0 k1 k2 k3 k5, K.lookup C = some (excClassObj nm q C N bs tl true sn sub ab col dd k0 k1 k2 k3 k5 nI)
  sa : PySem.W.findIn K (.ref C) "__setattr__" = some (some (.builtin "object.__setattr__"))
  exC : PySem.W.subIn K (.ref C) (.type "BaseException") = some true
  tyC : PySem.W.typeIn K (.ref C) = some (.type "type")
  kC : PySem.W.keepIn K (.ref C) = true
section
variable {X : Cx} {pins : List (Addr × Obj)} {σ : L2.St} {H : Hp} {s : Shared}
/-- super().__init__("..") in an own exception's __init__, as the first statement of the body -/
theorem super_atB {B nI iI : String} {tl : List Value} (FB : BaseK B nI iI tl) {body : List Stmt} {qual file z : Str} {scope : Scope} {L f cda cc x C : Addr} {fd : FuncData} {ar : Arg} {vs : Array Value} {tf : Tok} {oc ccl cl : Value} {od cdd cld : Option Addr} {osl ccs csl : Array (Option Value)} {j : Nat} {p0 p1 p2 p3 p4 p5 : Pos} {pl : Sem Bool} {Q : Flow → Shared → Prop} {E : Value → Shared → Prop}
    (I : Inv X pins σ H s) (hE : X.env = PySem.W.ksEnv qual scope L f (.ref cda) cc) (lf : X.K.lookup f = some ⟨oc, od, .func fd, osl⟩) (hp : (fd.params.posonlyargs ++ fd.params.args).head? = some ar)
    (hN : X.N[0]? = some ar.arg) (hσ : σ[0]? = some (some (.ref x))) (hcode : X.K.lookup cda = some ⟨ccl, cdd, .fields vs, ccs⟩) (hvs : vs[2]? = some (.str file tf)) (hfile : ((X.prog.main.file : Str) == file) = true)
    (hcell : X.K.lookup cc = some ⟨cl, cld, .cell (some (.ref C)), csl⟩) (T : OexB nI tl X.K C) (hs : ks_superIn X.K C C "__init__" = some (some (.builtin iI))) (hB : PySem.W.subIn X.K (.ref C) (.type B) = some true)
    (ho : PySem.W.nsIn X.K cStatics "thirdparty.any" = some none) (hsup : X.mg "super" = none) (hks : scope.names.lookup ("super" : Str) = some .globalImplicit) (hkc : scope.names.lookup ("__class__" : Str) = some .free) (hka : scope.names.lookup ar.arg = some .local) (hk : scope.kind = .function)
    (htop : (X.prog.main.scope.names.lookup ("super" : Str)).isSome = false) (hboot : bootBuiltins "super" = some (.type "super")) (ea : H x = some (exo x C none)) (q : ∀ s', Inv X pins σ H s' → Q .next s')
    (hc : eval (.Call (.Attribute (.Call (.Name "super" p0) [] [] p1) "__init__" p2) [.Constant (.str z) j p3] [] p4) (PySem.W.ksEnv qual scope L f (.ref cda) cc) = (do
      let ov ← attributeBase (.Call (.Name "super" p0) [] [] p1) "__init__" (PySem.W.ksEnv qual scope L f (.ref cda) cc) (eval (.Call (.Name "super" p0) [] [] p1) (PySem.W.ksEnv qual scope L f (.ref cda) cc))
      standAt p2.atName
      let (fv, first) ← holding [ov] (getMethod ov "__init__" pl)
      callWith p4 fv first (backTo p4 (starEach [.Constant (.str z) j p3] (PySem.W.ksEnv qual scope L f (.ref cda) cc))) []) := by rfl) :
    _root_.PySem.wpAt (model X.prog X.w) X.A (.func body X.env) (exec (.Expr (.Call (.Attribute (.Call (.Name "super" p0) [] [] p1) "__init__" p2) [.Constant (.str z) j p3] [] p4) p5) X.env) Q E s := by
  obtain ⟨nm, qn, N', bs, sn, sub, ab, col, dd, k0, k1, k2, k3, k5, hC⟩ := T.cls
  have hcl : PySem.W.clsIn X.K C = some { name := nm, bases := bs, mro := .ref C ::  tl, ns := N', qualname := qn, hasDict := true, slotNames := sn, subclasses := sub, abstract := ab, collection := col, hasDel := false } := by unfold PySem.W.clsIn; rw [hC] <;> rfl
  have KX := I.kIn
  obtain ⟨m, hns, hloc⟩ := id I.loc
  have hv : m ar.arg = some (.ref x) := by
    obtain ⟨u, ru, lk⟩ := hloc 0 ar.arg (.ref x) hN hσ (.inl (by rw [hE]; exact hka))
    obtain rfl : u = Value.ref x := ru
    rcases lk with ⟨_, h⟩ | ⟨h, _⟩
    · exact h
    · exfalso
      have e : X.env.kindOf ar.arg = some .local := by rw [hE]; exact hka
      rw [e] at h
      rcases h with h | h <;> cases h
  obtain ⟨t1, hx⟩ := exo_at I.hok ea
  have hmro : PySem.W.mroIn X.K C (.ref C) = some true := by
    unfold PySem.W.mroIn
    rw [hcl, Option.bind_some, if_neg (show ¬ (List.isEmpty (Value.ref C ::  tl) = true) from Bool.false_ne_true), show ((Value.ref C ::  tl).contains (.ref C)) = true by rw [List.contains_cons]; simp]
  have hglob := I.mod.glob
  obtain ⟨mb, hblt, hmb⟩ := I.mod.blt
  have bk := I.bk
  have IA : PySem.W.InstAt s.heap x { cls := .ref C, dict := none, data := .fields #[.ref t1, .none, .none, .none, .bool false, .none] } C none := ⟨hx, rfl, rfl, trivial⟩
  have hxC : x ≠ C := PySem.W.ks_ne KX IA hcl
  have hkk : X.env.scope.kind = .function := I.ok.kind
  obtain ⟨hh, g, d, t, os⟩ := s
  rw [hE]
  have hi : interactive (PySem.W.ksEnv qual scope L f (.ref cda) cc) = false := by
    unfold interactive
    rw [show (PySem.W.ksEnv qual scope L f (.ref cda) cc).scope.kind = .function from hk]
    rfl
  refine PySem.ks_wpAt_Expr_any (PySem.ks_wpAt_MethodCall ?_ hc) hi
  refine PySem.ks_wpAt_super_base (env := PySem.W.ksEnv qual scope L f (.ref cda) cc) hks hkc (by decide) rfl (KX _ _ lf) rfl hp rfl (KX _ _ hcode) rfl hvs hfile htop ?_
  refine PySem.W.ks_loadName_global hk hks (PySem.Calls.loadGlobal_builtin (env := PySem.W.ksEnv qual scope L f (.ref cda) cc) (hglob.keeps bk) hsup (hblt.keeps bk) ((hmb _ (by decide +kernel)).trans hboot) ⟨rfl, ?_⟩)
  refine wpAny_loadName_free hk hkc rfl ⟨_, KX _ _ hcell, rfl⟩ ?_
  refine wpAny_loadName_local hk hka (by have e : X.env.locals = L := by rw [hE]
                                         rw [← e]; exact hns) hv ?_
  refine ks_wpAny_isType_cls (KX _ _ hC) rfl ⟨rfl, ?_⟩
  refine ks_wpAny_call_super (KX _ _ hC) rfl hx rfl (fun c e => by cases e) (PySem.W.looks_mroIn KX hmro) (fun h1 e1 k1 => ?_)
  have I1 : Inv X pins σ H ⟨h1, g, d, t, os⟩ := I.kept (t' := t) k1
  have KX1 := I1.kIn
  have IA1 : PySem.W.InstAt h1 x { cls := .ref C, dict := none, data := .fields #[.ref t1, .none, .none, .none, .bool false, .none] } C none := ⟨k1 _ _ hx, rfl, rfl, trivial⟩
  have hs' : PySem.W.alongIn X.K "__init__" (((Value.ref C ::  tl).dropWhile (· != .ref C)).drop 1) = some (some (.builtin iI)) := by
    unfold ks_superIn at hs
    rw [hcl] at hs
    exact hs
  refine PySem.W.kxs_getMethod FB.kx e1 (PySem.W.looks_opaque KX1 ho) (l₀ := .ref C ::  tl) (fun A Q E s k q => wpAny_bind ((PySem.W.looks_clsIn KX1 hcl) A _ E s k (wpAny_pure q))) rfl KX1 hs' (IA1.type.andThen (PySem.W.looks_subIn KX1 hB)) hxC (by decide) ?_
  have I2 : Inv X pins σ H ⟨h1.push (kxs_mw iI x), g, d, t + 1, os⟩ := I1.kept (t' := t + 1) fun b o e => Heap.get?_push_of_some _ e
  refine PySem.W.kxs_callWith (i := iI) (x := x) rfl (PySem.Calls.evalArgs_plain ?_)
  refine Calls.spliced_cons (Calls.Constant_str (k := j) (pos := p3) ?_)
  refine Calls.spliced_nil ?_
  have hmw : (h1.push (kxs_mw iI x)).get? h1.objs.size = some (kxs_mw iI x) := Heap.get?_push_size _ rfl
  refine ⟨hmw, ?_⟩
  refine call_mw FB.eb (I2.kIn _ _ hC) (Heap.get?_push_of_some _ (k1 _ _ hx)) hmw (by show 1 ≤ sizeLine; decide) fun h' t2 k hx' => ?_
  have J := I2.write (t' := t + 1 + 1) (x := x) (e := x) (o := exo x C none) (by rw [ea]; exact True.intro) (.inl rfl) k ⟨_, hx'⟩ (exo_ok hx')
  have eu : upd H x (exo x C none) = H := by
    funext b
    by_cases hb : b = x
    · rw [hb, upd_same, ea]
    · rw [upd_ne hb]
  rw [eu] at J
  exact q _ J
end
section
open Builtin Builtin.ObjectAttr HandSPX
variable {prog : Program} {w : World} {A : Around} {R : Result → Shared → Prop} {hp : Heap} {g : Array GenState} {d : Drawn} {t : Nat} {os : OsState}
/-- the first field that an error of such a class is given: its dict is made -/
theorem first_field {B nI iI : String} {tl : List Value} (FB : BaseK B nI iI tl) {K : PySem.W.Frag} {fld : Str} {tk : Tok} {v : Value} {x C : Addr} {fv : Array Value} {cd : ClassData} (inK : K.In hp) (atX : hp.get? x = some { cls := .ref C, data := .fields fv })
    (isC : PySem.W.clsIn K C = some cd) (mro : cd.mro = .ref C :: tl) (dct : cd.hasDict = true) (noF : PySem.W.findIn K (.ref C) fld = some none)
    (done : ∀ h' tk' dx, (∀ b o, b ≠ x → hp.get? b = some o → h'.get? b = some o) → hp.objs.size ≤ dx → dx ≠ x → h'.get? x = some { cls := .ref C, dict := some dx, data := .fields fv } → h'.Ns1 dx (fun y => if y = fld then some v else none) →
      R (.ok (.ret .none)) ⟨h', g, d, tk', os⟩) : codeAny (model prog w) A (.call (.builtin "object.__setattr__") ⟨[.ref x, .str fld tk, v], []⟩) R ⟨hp, g, d, t, os⟩ := by
  have inst : PySem.W.InstAt hp x { cls := .ref C, data := .fields fv } C none := ⟨atX, rfl, rfl, trivial⟩
  have below : x ≠ hp.objs.size := Nat.ne_of_lt (Heap.lt_size atX)
  have obj : cd.mro.contains (.type "object") = true := by rw [mro, List.contains_cons, FB.st.hasOwner, Bool.or_true]
  have isObj : PySem.W.Looks (model prog w) hp (isInstance (.ref x) (.type "object")) true := inst.type.andThen (PySem.W.looks_mroIn inK (by unfold PySem.W.mroIn; rw [isC, Option.bind_some, if_neg (by rw [mro]; exact Bool.false_ne_true), obj]))
  have ST := F.store_object
  refine codeAny_call_builtin ST.slot.plain ST.entry (@PySem.W.check_slot (model prog w) _ _ ⟨hp, g, d, t, os⟩ "object.__setattr__" "object" "__setattr__" (.ref x) [.str fld tk, v] [] _ ST.kind ST.split isObj (ST.args (.ref x) (.str fld tk) v) ?_)
  have lMro : PySem.W.Looks (model prog w) hp (mroOf (.ref C)) cd.mro := (PySem.W.looks_clsIn inK isC).andThen .now
  have lCls : PySem.W.Looks (model prog w) hp (classData C) cd := PySem.W.looks_clsIn inK isC
  have lTak : PySem.W.Looks (model prog w) hp (storeTaker? none) none := .now
  have pass : refuseLoop (.ref x) "__setattr__" cd.mro = pure () := by
    rw [mro, refuseLoop_ref]
    exact FB.st.passes _
  rw [PySem.W.osa_eq, refuse_eq]
  refine wpAny_bind (wpAny_bind (inst.type.at (wpAny_bind (lMro.at ?_))))
  rw [pass]
  refine wpAny_pure (wpAny_bind (inst.type.at (wpAny_bind ((PySem.W.looks_findIn inK noF).at (wpAny_bind (lTak.at ?_))))))
  show wpAny _ _ (storeInOwnDict (.ref x) (.ref C) (.str fld tk) fld v false) _ _ _
  obtain ⟨c1, c2, c3, c4, c5, c6, c7, c8, c9, c10, c11⟩ := cd
  dsimp only at dct
  subst dct
  unfold storeInOwnDict ownDictForStores
  repeat (first | with_reducible refine HandSPX.store_in_new ?_ ?_ | with_reducible refine wpAny_loadPart_at atX ?_ | with_reducible refine lCls.at ?_ | wp_step)
  · exact ⟨_, #[], _, (Heap.get?_update_ne _ _ _ _ below.symm).trans (Heap.get?_push_at rfl rfl), rfl, fun e he => absurd he (by simp), fun _ => rfl⟩
  · intro h' tk' ns1 but
    refine done h' tk' hp.objs.size (fun b o hb ho => ?_) (Nat.le_refl _) below.symm ?_ ns1
    · exact (but.2 b (Nat.ne_of_lt (Heap.lt_size ho))).trans ((Heap.get?_update_ne _ _ _ _ hb).trans (Heap.get?_push_of_some _ ho))
    · exact (but.2 x below).trans (Heap.get?_update_self _ (show (hp.push { cls := .type "dict", data := .dict #[] }).get? x = some { cls := .ref C, data := .fields fv } from Heap.get?_push_of_some _ atX) rfl)
end
section
variable {X : Cx} {pins : List (Addr × Obj)} {σ : L2.St} {H : Hp} {s : Shared} {B nI iI : String} {tl : List Value}
/-- self.f = y, the first one -/
theorem ost_newB {a C : Addr} {f : Str} {y : V} {u : Value} {Q : Unit → Shared → Prop} {E : Value → Shared → Prop} {A : Around} (FB : BaseK B nI iI tl) (T : OexB nI tl X.K C) (I : Inv X pins σ H s) (atA : H a = some (exo a C none)) (noF : PySem.W.findIn X.K (.ref C) f = some none) (ry : RelV y u)
    (then_ : ∀ dx s', H dx = none → dx ≠ a → Inv X pins σ (upd (upd H dx (exd dx [(f, y)])) a (exo a C (some dx))) s' → Q () s') : wpAny (model X.prog X.w) A (setAttr (.ref a) f u) Q E s := by
  obtain ⟨nm, q, N, bs, sn, sub, ab, col, dd, k0, k1, k2, k3, k5, hC⟩ := T.cls
  have isC : PySem.W.clsIn X.K C = some { name := nm, bases := bs, mro := .ref C :: tl, ns := N, qualname := q, hasDict := true, slotNames := sn, subclasses := sub, abstract := ab, collection := col, hasDel := false } := by unfold PySem.W.clsIn; rw [hC] <;> rfl
  obtain ⟨t1, atH⟩ := exo_at I.hok atA
  obtain ⟨hp, g, d, t, os⟩ := s
  refine PySem.W.set_plain I.kIn (ox := { cls := .ref C, dict := none, data := .fields #[.ref t1, .none, .none, .none, .bool false, .none] }) (od := none) ⟨atH, rfl, rfl, trivial⟩ T.sa (first_field FB I.kIn atH isC rfl rfl noF fun h' tk' dx keep above ne atX ns1 => ?_)
  have freeD : H dx = none := I.hok.fresh above
  have offD : ∀ {b : Addr} {o : Obj}, hp.get? b = some o → b ≠ dx := fun {b o} z => Nat.ne_of_lt (Nat.lt_of_lt_of_le (Heap.lt_size z) above)
  have offA : ∀ {b : Addr}, H b = none → b ≠ a := fun {b} z e => by rw [e, atA] at z; cases z
  have both : ∀ {b : Addr}, b ≠ a → b ≠ dx → (upd (upd H dx (exd dx [(f, y)])) a (exo a C (some dx))) b = H b := fun h1 h2 => (upd_ne h1).trans (upd_ne h2)
  have un : Un X.fs [] H (upd (upd H dx (exd dx [(f, y)])) a (exo a C (some dx))) hp h' := by
    constructor
    · exact fun b o z n _ _ => keep b o (offA n) z
    · exact fun b o z n _ _ => ⟨o.slots, keep b o (offA n) z⟩
    · exact fun b o z n _ => (both (offA n) (offD z)).trans n
    · intro b o z _
      by_cases e : b = a
      · exact ⟨_, e ▸ atX⟩
      · exact ⟨o, keep b o e z⟩
    · exact fun b xs z => (both (at_ne atA z exo_tup) (ne_of_none z freeD)).trans z
    · exact fun b o v z => (both (at_ne atA z exo_frz) (ne_of_none z freeD)).trans z
    · exact fun b ps z => ⟨#[], by rw [both (at_ne atA z exo_tbl) (ne_of_none z freeD), z]; simp⟩
  refine then_ dx _ freeD ne (I.un (t' := tk') un fun b o z => ?_)
  by_cases e1 : b = a
  · subst e1
    rw [upd_same] at z
    cases z
    exact exo_ok atX
  by_cases e2 : b = dx
  · subst e2
    rw [upd_ne e1, upd_same] at z
    cases z
    exact exd_ok ns1 (relO_put (fs := []) ry fun _ => True.intro)
  rw [both e1 e2] at z
  refine (I.hok b o z).stay (fun c v hc k => keep c v ?_ k) (fun c hc => (both (at_ne atA hc exo_own) (ne_of_none hc freeD)).trans hc) (fun c xs hc => (both (at_ne atA hc exo_tup) (ne_of_none hc freeD)).trans hc)
  rcases hc with hc | hc
  · exact hc ▸ e1
  · exact at_ne atA hc exo_own
def tOstB (nI : String) (tl : List Value) (K : PySem.W.Frag) (f : Str) (to te : TE) : TS := fun D σ H => te σ H fun y H1 => to σ H1 fun x H2 => ∃ a C : Addr, x = .ref a ∧ OexB nI tl K C ∧ PySem.W.findIn K (.ref C) f = some none ∧
  H2 a = some (exo a C none) ∧ ∀ dx, H2 dx = none → dx ≠ a → D.nx σ (upd (upd H2 dx (exd dx [(f, y)])) a (exo a C (some dx)))
theorem ps_ostB {o e : Expr} {to te : TE} {f : Str} {p' pos : Pos} (FB : BaseK B nI iI tl) (ho : PE X o to) (he : PE X e te) (hs : swapsWith e (some (.Attribute o f p')) pos.line X.env = pure false := by rfl) : PS X (.Assign [.Attribute o f p'] e pos) (tOstB nI tl X.K f to te) :=
  ⟨fun pins s σ H D I h => plainObj_wpAny_Assign_Attribute (thn (he.run pins s σ H _ I h) fun v s1 ⟨y, H1, I1, r1, q1⟩ => thn (ho.run pins s1 σ H1 _ I1 q1) fun u s2 ⟨x, H2, I2, r2, a, C, ex, T, noF, atA, q⟩ => by
    subst ex
    obtain rfl : u = Value.ref a := r2
    exact ost_newB FB T I2 atA noF r1 fun dx s' n ne J => ⟨σ, _, J, q dx n ne⟩) hs⟩
/-- C(e, ..) in a raise -/
theorem pmk_oexB {CX : CXT} {x : Str} {C fI : Addr} {k : Nat} {fd : FuncData} {ps : List Str} {sp : Sp} {ds : List Value} {dvs : List V} {e : Expr} {es : List Expr} {ta : TA} {p pos : Pos} (FB : BaseK B nI iI tl) (T : OexB nI tl X.K C) (iC : PySem.W.findIn X.K (.ref C) "__init__" = some (some (.ref fI))) (tI : PySem.W.typeIn X.K (.ref fI) = some (.type "function"))
    (F1 : FnOk X.prog X.w X.K X.mg X.base CX k fI fd ps sp) (room : Room (k + 1) X.A) (hb : Binds X.K fd ps ds) (hd : Vals dvs ds) (pass : Passes CX X (fun _ _ _ => False)) (hg : Gl X x) (hm : X.mg x = some (.ref C)) (ha : PA X (e :: es) ta)
    (h1 : (x == ("__debug__" : Str)) = false := by decide) (h2 : starEach (e :: es) X.env = (false, eval e X.env) :: starEach es X.env := by rfl) (h3 : (backTo pos (starEach es X.env)).any (·.1) = false := by rfl) : PMk X (.Call (.Name x p) (e :: es) [] pos) (tMkO C sp dvs ta) := by
  intro pins s σ H Q I h
  obtain ⟨nm, q, N, bs, sn, sub, ab, col, dd, k0, k1, k2, k3, k5, hC⟩ := T.cls
  refine wpAny_Call_Name_kw (ld_glob I hg hm (PySem.W.callWith_K (h₀ := X.base) I.ok.mod.kin T.kC (thn (ha.run pos pins s σ H _ I h) fun us s1 ⟨vs, H1, I1, r1, hz, q1⟩ => ⟨I1.kIn, ?_⟩) h2 h3) h1)
  obtain ⟨hp, g, dr, tk, os⟩ := s1
  have free : H1 (hp.objs.size + 1) = none := I1.hok.fresh (Nat.le_succ _)
  have want := q1 (hp.objs.size + 1) free
  have stays : ∀ b o, hp.get? b = some o → ((hp.push (PySem.W.kdv_tup us)).push (PySem.HandSPX.excO C hp.objs.size)).get? b = some o := fun b o z => Heap.get?_push_of_some _ (Heap.get?_push_of_some _ z)
  have atE : ((hp.push (PySem.W.kdv_tup us)).push (PySem.HandSPX.excO C hp.objs.size)).get? (hp.objs.size + 1) = some (PySem.HandSPX.excO C hp.objs.size) := by heap_get
  have I2 : Inv X pins σ (upd H1 (hp.objs.size + 1) (exo (hp.objs.size + 1) C none)) ⟨(hp.push (PySem.W.kdv_tup us)).push (PySem.HandSPX.excO C hp.objs.size), g, dr, tk, os⟩ := I1.laid (t' := tk) stays (Nat.le_succ _) (exo_ok atE)
  have args : Vals (V.ref (hp.objs.size + 1) :: (vs ++ dvs)) (Value.ref (hp.objs.size + 1) :: (us ++ ds)) := .cons rfl (r1.append hd)
  have len1 : (Value.ref (hp.objs.size + 1) :: us ++ ds).length = ps.length := args.length.symm.trans (F1.len _ _ _ _ want)
  have len2 : us.length ≤ sizeLine := by rw [← Paired.length r1, sizeLine_eq]; omega
  have runs := F1.run _ X.stack _ _ ⟨Value.ref (hp.objs.size + 1) :: us, []⟩ _ _ _ (fun _ _ _ => False) (room.make C us []) (I2.env0.make C us []) (hb _ (Value.ref (hp.objs.size + 1) :: us) I2.kIn len1) args want
  refine wpAny_call (PySem.HandSPX.call_own FB.eb (fun _ => rfl) (I1.kIn _ _ hC) (PySem.W.looks_findIn I1.kIn iC) (fun self => PySem.W.bind_fn I1.kIn self tI) len2 (codeAny_mono runs fun res z hz => ?_))
  match res, hz with
  | .error er, hz => exact pass pins σ _ _ er z I2 hz
  | .ok (.ret u), hz =>
    obtain ⟨v, H2, os2, bare2, un2, hok2, rv, ev, d, fs, ea, ed, hd1, q2⟩ := hz
    rw [ev] at rv
    obtain ⟨h2, g2, d2, t2, os'⟩ := z
    exact ⟨rv, mk_end (raises_own T.exC T.tyC) I1 (Nat.le_succ _) stays un2 hok2 os2 bare2 ea ed hd1 q2⟩
end
open NdefX (NF ncx envF startF NScope CellsAt inv_startN)
structure SupCB (B nI iI : String) (tl : List Value) (P : Program) (K : PySem.W.Frag) (mg : Str → Option Value) (C : Addr) : Prop where
  ox : OexB nI tl K C
  su : ks_superIn K C C "__init__" = some (some (.builtin iI))
  ve : PySem.W.subIn K (.ref C) (.type B) = some true
  tp : PySem.W.nsIn K cStatics "thirdparty.any" = some none
  sm : mg "super" = none
  top : (P.main.scope.names.lookup ("super" : Str)).isSome = false
theorem fn_supB {B nI iI : String} {tl : List Value} (FB : BaseK B nI iI tl) {CX : CXT} {P : Program} {w : World} {K : PySem.W.Frag} {mg : Str → Option Value} {base : Heap} {k : Nat} {C f cda cc : Addr} {fd : FuncData} {x qual z : Str} {params : Arguments} {rest : List Stmt} {scope : Scope} {N ps : List Str} {sp : Sp} {ar : Arg} {j : Nat} {p0 p1 p2 p3 p4 p5 : Pos}
    (D : SupD P K x qual params (.Expr (.Call (.Attribute (.Call (.Name "super" p0) [] [] p1) "__init__" p2) [.Constant (.str z) j p3] [] p4) p5 :: rest) scope C f fd cda cc) (T : SupCB B nI iI tl P K mg C) (S : NScope N ps ["__class__"] scope)
    (hp : (params.posonlyargs ++ params.args).head? = some ar) (hN : N[0]? = some ar.arg) (hks : scope.names.lookup ("super" : Str) = some .globalImplicit) (hka : scope.names.lookup ar.arg = some .local)
    (len : ∀ vs H Q E, sp vs H Q E → vs.length = ps.length)
    (hc : ∀ L : Addr, ∃ pl : Sem Bool, eval (.Call (.Attribute (.Call (.Name "super" p0) [] [] p1) "__init__" p2) [.Constant (.str z) j p3] [] p4) (PySem.W.ksEnv qual scope L f (.ref cda) cc) = (do
      let ov ← attributeBase (.Call (.Name "super" p0) [] [] p1) "__init__" (PySem.W.ksEnv qual scope L f (.ref cda) cc) (eval (.Call (.Name "super" p0) [] [] p1) (PySem.W.ksEnv qual scope L f (.ref cda) cc))
      standAt p2.atName
      let (fv, first) ← holding [ov] (getMethod ov "__init__" pl)
      callWith p4 fv first (backTo p4 (starEach [.Constant (.str z) j p3] (PySem.W.ksEnv qual scope L f (.ref cda) cc))) []))
    (hbody : ∀ (A : Around) (outer : List Env) (s : Shared) (H : Hp) (vs : List V) (Q : VK) (E : XK), sp vs H Q E →
      ∃ a, vs[0]? = some (.ref a) ∧ H a = some (exo a C none) ∧ ∃ t, PSs (ncx CX P w K mg base N ⟨x, qual, params, .Expr (.Call (.Attribute (.Call (.Name "super" p0) [] [] p1) "__init__" p2) [.Constant (.str z) j p3] [] p4) p5 :: rest, scope, [("__class__", cc)], cda⟩ f A outer s H E) rest t ∧
        t { nx := fun _ H' => Q .non H', rt := Q } (startF N vs [none]) H) : FnOk P w K mg base CX (k + 1) f fd ps sp := by
  obtain ⟨oc, od, dV, kV, doc, pm, an, ct, osl, ccl, cdd, vs', ccs, cl, cld, csl, file, tf, rfl, lf, hcd, hcode, hvs, hfile, hcell⟩ := D.ex
  refine ⟨len, fun A outer s H args us vs Q E hr e0 hb r hsp => ?_⟩
  have hl := len _ _ _ _ hsp
  have lim : s.heap.NoLimit := e0.mod.nolimit.keeps fun b o e => (e0.bs b o e).1
  have KX : K.In s.heap := e0.mod.kin.keeps fun b o e => (e0.bs b o e).1
  obtain ⟨FF, hFF⟩ : ∃ FF : NF, FF = ⟨x, qual, params, .Expr (.Call (.Attribute (.Call (.Name "super" p0) [] [] p1) "__init__" p2) [.Constant (.str z) j p3] [] p4) p5 :: rest, scope, [("__class__", cc)], cda⟩ := ⟨_, rfl⟩
  have hcl : FF.cl = [(("__class__" : Str), cc)] := by rw [hFF]
  have CA : CellsAt FF.cl ["__class__"] [none] s.heap H := by
    have key : ∀ y c, FF.cl.lookup y = some c → y = "__class__" ∧ c = cc := fun y c e => by
      rw [hcl, look_one] at e
      by_cases h : y = "__class__"
      · rw [if_pos h] at e
        cases e
        exact ⟨h, rfl⟩
      · rw [if_neg h] at e
        cases e
    refine ⟨rfl, fun y c e => ?_, fun y1 y2 c e1 e2 => (key _ _ e1).1.trans (key _ _ e2).1.symm, fun i y e => ?_⟩
    · obtain ⟨_, rfl⟩ := key _ _ e
      exact ⟨(e0.bs _ _ (e0.mod.kin _ _ hcell)).2, some (.ref C), _, KX _ _ hcell, rfl⟩
    · cases i with
      | zero =>
        have e : some ("__class__" : Str) = some y := e
        cases e
        exact ⟨cc, by rw [hcl, look_one, if_pos rfl], fun v hv => by
          have hv : some (none : Option V) = some (some v) := hv
          cases hv⟩
      | succ i =>
        have e : (none : Option Str) = some y := e
        cases e
  have hscope : FF.scope = scope := by rw [hFF]
  refine codeAny_call_function hr.depth (KX _ _ lf) rfl S.co S.gen rfl (PySem.W.codeRec_of KX hcd) (hb _ _ _ _ ?_)
  refine wpAny_newFunctionEnv S.nocell (fun ⟨n, _⟩ hy => S.par n (List.of_mem_zip hy).1) (fun h₁ hns hsb => ⟨lim.fresh _ hsb, ?_⟩) S.kind
  have kp : ∀ b o, s.heap.get? b = some o → h₁.get? b = some o := fun b o e => hsb.extBut b o (Nat.ne_of_lt (Heap.lt_size e)) (Heap.get?_push_of_some _ e)
  obtain ⟨a, ha, hea, t, ht, hq⟩ := hbody A outer s H vs Q E hsp
  rw [← hFF] at ht
  have I : Inv (ncx CX P w K mg base N FF f A outer s H E) [] (startF N vs [none]) H { s with heap := h₁, toks := s.toks + (ps.zip us).length } := inv_startN (hscope ▸ S) hr.hd e0 hl r CA hns kp
  subst hFF
  show codeAny _ _ (.func (.Expr (.Call (.Attribute (.Call (.Name "super" p0) [] [] p1) "__init__" p2) [.Constant (.str z) j p3] [] p4) p5 :: rest) (PySem.W.ksEnv qual scope s.heap.objs.size f (.ref cda) cc)) _ _
  refine ks_codeAny_funcAt (ks_wpAt_execs_cons ?_)
  obtain ⟨pl, hpl⟩ := hc s.heap.objs.size
  have hσ : (startF N vs [none])[0]? = some (some (.ref a)) := by
    unfold startF
    cases vs with
    | nil => cases ha
    | cons v vs =>
      have ha : some v = some (V.ref a) := ha
      cases ha
      rfl
  refine super_atB FB (X := ncx CX P w K mg base N ⟨x, qual, params, .Expr (.Call (.Attribute (.Call (.Name "super" p0) [] [] p1) "__init__" p2) [.Constant (.str z) j p3] [] p4) p5 :: rest, scope, [("__class__", cc)], cda⟩ f A outer s H E) (pl := pl) I rfl lf hp hN hσ hcode hvs hfile hcell T.ox T.su T.ve T.tp T.sm hks (S.frk _ (List.mem_singleton.mpr rfl)) hka S.kind T.top boot_super hea (fun s2 I2 => ?_) hpl
  refine wpAt_of_wpAny ?_
  refine wpAny_mono (ht.run [] _ (startF N vs [none]) H _ I2 hq) (fun fl s' hs => ?_) fun e s' hs => hs
  have fin : ∀ {σ' : L2.St} {H' : Hp} {v : V} {u : Value}, Inv (ncx CX P w K mg base N ⟨x, qual, params, .Expr (.Call (.Attribute (.Call (.Name "super" p0) [] [] p1) "__init__" p2) [.Constant (.str z) j p3] [] p4) p5 :: rest, scope, [("__class__", cc)], cda⟩ f A outer s H E) [] σ' H' s' → L2.RelV v u → Q v H' → CE outer P w H s Q u s' :=
    fun {σ' H' v u} J rv q => ⟨v, H', J.os, J.bare, J.base, J.hok, rv, q⟩
  cases fl with
  | ret u =>
    obtain ⟨v, σ', H', J, rv, q⟩ := hs
    exact fin J rv q
  | next =>
    obtain ⟨σ', H', J, q⟩ := hs
    exact fin (v := V.non) (u := Value.none) J rfl q
  | brk =>
    obtain ⟨_, _, _, q⟩ := hs
    exact False.elim q
  | cont =>
    obtain ⟨_, _, _, q⟩ := hs
    exact False.elim q
end Mx

namespace K2
open PySem PySem.Spec PyProof.Rows L2 Mc Mx
section
variable {P : Program} {w : World} {K : PySem.W.Frag} {mg : Str → Option Value} {base : Heap}
local macro_rules | `(tactic| walk_at "rd1") => `(tactic| first
  | with_reducible refine g_seq ?_
  | with_reducible refine g_asg ?_
  | with_reducible refine g_name ?_
  | with_reducible refine g_c ?_
  | with_reducible refine g_op ?_
  | with_reducible refine g_ifS ?_
  | with_reducible refine g_if ?_
  | with_reducible refine g_test ?_
  | with_reducible refine g_B ?_
  | with_reducible refine g_bl ?_
  | with_reducible refine g_blV ?_
  | with_reducible refine g_not ?_
  | with_reducible refine g_and ?_
  | with_reducible refine g_or ?_
  | with_reducible refine g_notV ?_
  | with_reducible refine g_andV ?_
  | with_reducible refine g_orV ?_
  | with_reducible refine g_ret ?_
  | with_reducible refine g_drop ?_
  | with_reducible refine g_next ?_
  | with_reducible refine g_retN ?_
  | with_reducible refine g_call ?_
  | with_reducible refine g_cb ?_
  | with_reducible refine g_cons ?_
  | with_reducible refine g_nil ?_
  | with_reducible refine g_tup ?_
  | with_reducible refine g_lst ?_
  | with_reducible refine g_prop ?_
  | with_reducible refine g_fld ?_
  | with_reducible refine g_meth ?_
  | with_reducible refine g_chain ?_
  | with_reducible refine g_yes ?_
  | with_reducible refine g_make ?_
  | with_reducible refine g_makeK ?_
  | with_reducible refine g_gsub ?_
  | with_reducible refine g_sfld ?_
  | with_reducible refine g_un ?_
  | with_reducible refine g_bm ?_
  | with_reducible refine g_iteT ?_
  | with_reducible refine g_iteF ?_
  | with_reducible refine g_I0 ?_
  | with_reducible refine g_add ?_
  | with_reducible refine g_sub ?_
  | ((with_reducible refine' g_var ?hv ?_); (case hv => rfl))
  | ((with_reducible refine g_eq ?hv ?_); (case hv => rfl))
  | ((with_reducible refine g_ne ?hv ?_); (case hv => rfl)))
local macro_rules | `(tactic| walk_at "rd") => `(tactic| repeat (walk_at "rd1"))

local macro_rules | `(tactic| walk_at "ty") => `(tactic| first | exact .non | exact .bl _ | exact .int _ | exact .str _ | exact .lst (by assumption) | exact .tup (by assumption) | exact .dK (by assumption) | exact .kTup (by assumption) (by assumption))
local macro_rules | `(tactic| walk_at "isiF") => `(tactic| refine g_isi (by walk_at "ty") (b := false) (by decide +kernel) ?_)
local macro_rules | `(tactic| walk_at "isiT") => `(tactic| refine g_isi (by walk_at "ty") (b := true) (by decide +kernel) ?_)

/-! ### errors -/
abbrev tlLE : List Value := [.type "LookupError", .type "Exception", .type "BaseException", .type "object"]
theorem g_ost {σ : L2.St} {H : Hp} {D : Ends} {f : Str} {to te : TE} (q : te σ H fun y H1 => to σ H1 fun x H2 => ∃ a C : Addr, x = .ref a ∧ OexC K C ∧ PySem.W.findIn K (.ref C) f = some none ∧
  ((H2 a = some (exo a C none) ∧ ∀ dx, H2 dx = none → dx ≠ a → D.nx σ (upd (upd H2 dx (exd dx [(f, y)])) a (exo a C (some dx)))) ∨
    ∃ (dx : Addr) (fs : List (Str × V)), H2 a = some (exo a C (some dx)) ∧ H2 dx = some (exd dx fs) ∧ fs.length ≤ 900 ∧ D.nx σ (upd H2 dx (exd dx ((f, y) :: fs))))) : tOst K f to te D σ H := q
theorem g_ostB {nI : String} {tl : List Value} {σ : L2.St} {H : Hp} {D : Ends} {f : Str} {to te : TE} (q : te σ H fun y H1 => to σ H1 fun x H2 => ∃ a C : Addr, x = .ref a ∧ OexB nI tl K C ∧ PySem.W.findIn K (.ref C) f = some none ∧
  H2 a = some (exo a C none) ∧ ∀ dx, H2 dx = none → dx ≠ a → D.nx σ (upd (upd H2 dx (exd dx [(f, y)])) a (exo a C (some dx)))) : tOstB nI tl K f to te D σ H := q
def spEx2 (C : Addr) : Sp := fun vs H Q _ => ∃ a s p, vs = [.ref a, s, p] ∧ H a = some (exo a C none) ∧ ∀ dx, H dx = none → dx ≠ a → Q .non (upd (upd (upd H dx (exd dx [("service", s)])) a (exo a C (some dx))) dx (exd dx [("place", p), ("service", s)]))
theorem ok_InvalidPart {C f cda cc : Addr} {fd : FuncData} (D : SupD P K "__init__" "InvalidPart.__init__" (defArgs s_InvalidPartinit) (defBody s_InvalidPartinit) (defScope s_InvalidPartinit) C f fd cda cc) (T : SupC P K mg C) (nf : PySem.W.findIn K (.ref C) "service" = some none) (nf2 : PySem.W.findIn K (.ref C) "place" = some none) :
    FnOk P w K mg base CX0 1 f fd ["self", "service", "place"] (spEx2 C) := by
  refine fn_sup D T sc_InvalidPartinit rfl rfl (by decide +kernel) (by decide +kernel) (fun vs H Q E h => ?_) (fun L => ⟨_, rfl⟩) (fun A outer s H vs Q E h => ?_)
  · obtain ⟨a, s, p, rfl, _⟩ := h
    rfl
  · obtain ⟨a, s', p, rfl, ha, q⟩ := h
    refine ⟨a, rfl, ha, _, pss_cons (ps_ost (pv 0) (pv 1)) (pss_one (ps_ost (pv 0) (pv 2))), ?_⟩
    refine g_seq ?_
    refine g_ost ?_
    walk_at "rd"
    refine ⟨a, C, rfl, T.ox, nf, .inl ⟨ha, fun dx nd ne => ?_⟩⟩
    dsimp only
    refine g_ost ?_
    walk_at "rd"
    refine ⟨a, C, rfl, T.ox, nf2, .inr ⟨dx, _, upd_same, by rw [upd_ne ne]; exact upd_same, by show 1 ≤ 900; decide, q dx nd ne⟩⟩
theorem ok_UnknownName {C f cda cc : Addr} {fd : FuncData} (D : SupD P K "__init__" "UnknownName.__init__" (defArgs s_UnknownNameinit) (defBody s_UnknownNameinit) (defScope s_UnknownNameinit) C f fd cda cc) (T : SupCB "LookupError" "LookupError.__new__" "LookupError.__init__" tlLE P K mg C) (nf : PySem.W.findIn K (.ref C) "value" = some none) :
    FnOk P w K mg base CX0 1 f fd ["self", "value"] (spEx C "value") := by
  refine fn_supB base_LE D T sc_UnknownNameinit rfl rfl (by decide +kernel) (by decide +kernel) (fun vs H Q E h => ?_) (fun L => ⟨_, rfl⟩) (fun A outer s H vs Q E h => ?_)
  · obtain ⟨a, v, rfl, _⟩ := h
    rfl
  · obtain ⟨a, v, rfl, ha, q⟩ := h
    refine ⟨a, rfl, ha, _, pss_one (ps_ostB base_LE (pv 0) (pv 1)), ?_⟩
    refine g_ostB ?_
    walk_at "rd"
    exact ⟨a, C, rfl, T.ox, nf, ha, q⟩
def ExAs2 (C : Addr) (W : XK) (vs : List V) (H1 : Hp) : Prop := vs.length ≤ 1000 ∧ ∀ a, H1 a = none → spEx2 C (.ref a :: (vs ++ [])) (upd H1 a (exo a C none))
  (fun v H2 => v = .non ∧ ∃ (d : Addr) (fs : List (Str × V)), H2 a = some (exo a C (some d)) ∧ H2 d = some (exd d fs) ∧ H1 d = none ∧ W (.ref C) (some d) (upd (del H2 a) d (.xd fs))) (fun _ _ _ => False)
theorem g_mko2 {C : Addr} {ta : TA} {σ : L2.St} {H : Hp} {W : XK} (q : ta σ H fun vs H1 => ExAs2 C W vs H1) : tMkO C (spEx2 C) [] ta σ H W := q
theorem ex_as2 {C : Addr} {H1 : Hp} {W : XK} {s p : V} (h : ∀ d H', Same H1 H' → H' d = some (.xd [("place", p), ("service", s)]) → W (.ref C) (some d) H') : ExAs2 C W [s, p] H1 := by
  refine ⟨by show 2 ≤ 1000; decide, fun a ha => ⟨a, s, p, rfl, upd_same, fun dx hdx hne => ⟨rfl, dx, _, ?_, upd_same, ?_, ?_⟩⟩⟩
  · rw [upd_ne hne.symm, upd_same]
  · rw [upd_ne hne] at hdx
    exact hdx
  · rw [upd_ne hne] at hdx
    refine h dx _ (fun b o hb => ?_) upd_same
    have b1 : b ≠ a := fun z => by rw [z, ha] at hb; cases hb
    have b2 : b ≠ dx := fun z => by rw [z, hdx] at hb; cases hb
    rw [upd_ne b2, del_ne b1, upd_ne b2, upd_ne b1, upd_ne b2, upd_ne b1]
    exact hb
/-! ### defs that may raise -/
structure CalX (P : Program) (w : World) (K : PySem.W.Frag) (mg : Str → Option Value) (base : Heap) (k : Nat) (x : Str) (sp : Sp) : Prop where
  ex : ∃ (f : Addr) (fd : FuncData) (ps : List Str), FnOk P w K mg base (CX P w) k f fd ps sp ∧ mg x = some (.ref f) ∧ PySem.W.keepIn K (.ref f) = true ∧ Binds K fd ps []
theorem calX_of {x : Str} {st : Stmt} {N ps : List Str} {k : Nat} {sp : Sp} (D : Def K mg x st ps) (S : FnScope N ps (defScope st)) (len : ∀ vs H Q E, sp vs H Q E → vs.length = ps.length)
    (hbody : ∀ (f : Addr) (cdv : Value) (A : Around) (outer : List Env) (s : Shared) (H : Hp) (vs : List V) (Q : VK) (E : XK), Room k (A.deeper (envOfC x (defScope st) s.heap.objs.size f cdv)) → sp vs H Q E →
      ∃ t, PSs (cxOf (CX P w) P w K mg base N x (defScope st) f cdv A outer s H E) (defBody st) t ∧ t { nx := fun _ H' => Q .non H', rt := Q } (start N vs) H) : CalX P w K mg base (k + 1) x sp := by
  obtain ⟨f, fd, F, hm, b⟩ := D.ex
  exact ⟨f, fd, ps, F.okX S len (hbody f), hm, F.kp, b⟩
theorem pe_fX {X : Cx} {W : WX} {k j : Nat} {x : Str} {sp : Sp} {p pos : Pos} {e : Expr} {es : List Expr} {t : TA} (c : CalX X.prog X.w X.K X.mg X.base k x sp) (tk : Takes X W) (hr : Room j X.A) (hk : k ≤ j) (hg : Gl X x) (ha : PA X (e :: es) t)
    (hdb : (x == ("__debug__" : Str)) = false := by decide) (he : starEach (e :: es) X.env = (false, eval e X.env) :: starEach es X.env := by rfl) (hpl : (backTo pos (starEach es X.env)).any (·.1) = false := by rfl) :
    PE X (.Call (.Name x p) (e :: es) [] pos) (tCallS sp (WE W) t) := by
  obtain ⟨f, fd, ps, G, hm, kp, b⟩ := c.ex
  exact pe_callS G (hr.mono hk) hg hm kp b (fun σ => passAt tk σ) ha hdb he hpl
theorem g_callS {sp : Sp} {E : L2.St → XK} {t : TA} {σ : L2.St} {H : Hp} {Q : VK} (q : t σ H fun vs H1 => sp vs H1 Q (E σ)) : tCallS sp E t σ H Q := q
theorem for_enum {K : PySem.W.Frag} {a : Addr} {xs : List V} {g : TG} {tb : TS} {D : Ends} {σ : L2.St} {H : Hp} (Pv : Nat → L2.St → Hp → Prop) (h0 : Pv 0 σ H) (hl : ∀ i σ H, i ≤ xs.length → Pv i σ H → SqL K H a xs)
    (hs : ∀ i x σ H T, xs[i]? = some x → Pv i σ H → H T = none → g (.ref T) σ (upd H T (.tup [.int (i : Nat), x])) fun σ2 H2 => tb { D with nx := Pv (i + 1), ct := Pv (i + 1), bk := D.nx } σ2 H2) (hd : ∀ σ H, Pv xs.length σ H → D.nx σ H) :
    ∃ W : Nat → Nat → L2.St → Hp → Prop, (∃ m, W 0 m σ H) ∧ ∀ i m σ H, W i m σ H →
      ((Ite K a).stop i H ∧ D.nx σ H) ∨ ((Ite K a).go i H ∧ ∃ N : L2.St → Hp → Prop, (∀ σ' H', N σ' H' → ∃ m', m' < m ∧ W (i + 1) m' σ' H') ∧ ∀ x H', (Ite K a).yld i H x H' → g x σ H' fun σ2 H2 => tb { D with nx := N, ct := N, bk := D.nx } σ2 H2) := by
  refine ⟨fun i m σ H => m = xs.length - i ∧ i ≤ xs.length ∧ Pv i σ H, ⟨_, rfl, Nat.zero_le _, h0⟩, fun i m σ H ⟨em, le, pv⟩ => ?_⟩
  have sq := hl i σ H le pv
  rcases Nat.lt_or_ge i xs.length with lt | ge
  · refine .inr ⟨⟨xs, xs[i], sq, List.getElem?_eq_getElem lt⟩, Pv (i + 1), fun σ' H' p => ⟨_, ?_, rfl, lt, p⟩, fun x H' y => ?_⟩
    · omega
    · obtain ⟨T, z, e1, nT, e2, ez⟩ := y
      rw [e1, e2]
      exact hs i z σ H T (ez xs sq) pv nT
  · obtain rfl : i = xs.length := Nat.le_antisymm le ge
    exact .inl ⟨⟨xs, sq, Nat.le_refl _⟩, hd σ H pv⟩
theorem holds_at {H : Hp} {t : Tr} {v : V} {Q : VK} {E : XK} (rt : RepT K H t v) (q : ∀ H', Same H H' → Q (.bl (holdsT t)) H') : spHolds K [v] H Q E := by
  rcases rt.desc with ⟨nn, ty, hne, _, hb⟩ | ⟨pa, l, rfl, tvl, kl, sh, _, hb⟩
  · exact ⟨v, rfl, .inl ⟨nn, ty, hne, by have := q H (Same.refl H); rw [hb] at this; exact this⟩⟩
  · exact ⟨_, rfl, .inr ⟨pa, l, rfl, tvl, kl, by have := q H (Same.refl H); rw [← hb] at this; exact this⟩⟩
theorem part_at {H : Hp} {t : Tr} {v : V} {Q : VK} {E : XK} (rt : RepT K H t v) (q : ∀ H', Same H H' → Q (.bl (isPartT t)) H') : spPart K [v] H Q E := by
  rcases rt.desc with ⟨nn, ty, hne, hb, _⟩ | ⟨pa, l, rfl, tvl, kl, sh, hb, _⟩
  · exact ⟨v, rfl, .inl ⟨nn, ty, hne, by have := q H (Same.refl H); rw [hb] at this; exact this⟩⟩
  · exact ⟨_, rfl, .inr ⟨pa, l, rfl, tvl, kl, sh, fun H' S => by have := q H' S; rw [← hb] at this; exact this⟩⟩
def spChkParts (K : PySem.W.Frag) (CI : Addr) : Sp := fun vs H Q E => ∃ (z : Str) (a : Addr) (b : List Tr) (xs : List V), vs = [.str z, .ref a] ∧ TupV K H a xs ∧ RepB K H b xs ∧ (pio b 0).length ≤ 1000 ∧
  ((wr (pio b 0) 0 = none ∧ ∀ H', Same H H' → Q .non H') ∨ ∃ i, wr (pio b 0) 0 = some i ∧ ∀ d H', Same H H' → H' d = some (.xd [("place", .int (i : Nat)), ("service", .str z)]) → E (.ref CI) (some d) H')
theorem wr_yes {t : Tr} {n i : Nat} {l : List (Tr × Nat)} (h : i = 12 ∨ (1 < n ∧ holdsT t = true) ∨ isPartT t = false) : wr ((t, n) :: l) i = some i := by simp only [wr]; rw [if_pos h]
theorem wr_no {t : Tr} {n i : Nat} {l : List (Tr × Nat)} (h : ¬ (i = 12 ∨ (1 < n ∧ holdsT t = true) ∨ isPartT t = false)) : wr ((t, n) :: l) i = wr l (i + 1) := by simp only [wr]; rw [if_neg h]

theorem ok_chk_parts {CI fI : Addr} {fdI : FuncData} (T : Txt K mg) (D : Def K mg "_check_parts" s_check_parts ["service", "block"]) (c_parts_in_order : CalD P w K mg base 4 "parts_in_order" (spPio K 2) [.int 0])
    (c_holds_blocks : Cal P w K mg base 1 "holds_blocks" (spHolds K)) (c_is_part : Cal P w K mg base 3 "is_part" (spPart K)) (TI : SupC P K mg CI) (EI : ExK P w K mg base "InvalidPart" CI fI fdI ["self", "service", "place"] (spEx2 CI)) :
    CalX P w K mg base 5 "_check_parts" (spChkParts K CI) := by
  refine calX_of D sc_check_parts (fun vs H Q E h => ?_) (fun f cdv A outer s H vs Q E hr h => ?_)
  · obtain ⟨z, a, b, xs, rfl, _⟩ := h
    rfl
  · obtain ⟨z, a, b, xs, rfl, tv, rb, hl, h⟩ := h
    refine ⟨_, (pss_one (ps_for (passes_of rfl) rfl (pi_enum (by rfl) T.n_enumerate (pa_cons (pe_fD c_parts_in_order hr (by decide) (by rfl) (pa_cons (pv 1) pa_nil)) pa_nil)) (pg_tup rfl (pgs_cons (pg_name (i := 2) sc_check_parts.nd rfl (Or.inl rfl)) (pgs_cons (pg_tup rfl (pgs_cons (pg_name (i := 3) sc_check_parts.nd rfl (Or.inl rfl)) (pgs_cons (pg_name (i := 4) sc_check_parts.nd rfl (Or.inl rfl)) pgs_nil))) pgs_nil))) (pss_cons (ps_set (i := 5) sc_check_parts.nd rfl (Or.inl rfl) (pe_and (pe_cmpR op_gt (pv 4) (pe_gx rfl T.g_MOST_AROUND) (nomark _)) (pe_one (pe_f c_holds_blocks hr (by decide) (by rfl) (pa_cons (pv 3) pa_nil)))))
      (pss_one (ps_if (PW.pt (pw_or (pt_cmpR op_eq (pv 2) (pe_gx rfl T.g_MOST_PARTS) (nomark _)) (pw_or (pt_val (pv 5)) (pw_or1 (pt_not (pt_val (pe_f c_is_part hr (by decide) (by rfl) (pa_cons (pv 3) pa_nil)))))))) (pss_one (ps_raise rfl (takes_of rfl rfl rfl rfl) (pmk_oex TI.ox EI.iC EI.tI EI.ok (hr.mono (by decide)) EI.bi .nil pass0 (by rfl) EI.gl (pa_cons (pv 0) (pa_cons (pv 2) pa_nil))))) pss_nil))))), ?_⟩
    walk_at "rd"
    refine g_for (g_ienum ?_)
    walk_at "rd"
    refine ⟨a, 0, b, xs, rfl, by omega, tv, rb, hl, fun l ys H1 S1 hl0 hl1 pr => ?_⟩
    have hlen := pr.len
    refine ⟨l, ys, rfl, SqL.of hl1, ?_⟩
    refine for_enum (K := K) (a := l) (xs := ys) (fun i σ H' => ∃ o2 o3 o4 o5 : Option V, σ = [some (.str z), some (.ref a), o2, o3, o4, o5] ∧ Same H1 H' ∧ wr (pio b 0) 0 = wr ((pio b 0).drop i) i) ⟨_, _, _, _, rfl, Same.refl _, rfl⟩ (fun i σ H' _ ⟨_, _, _, _, _, e, _⟩ => SqL.of (e _ _ hl1)) ?_ ?_
    · rintro i x σ H2 U hx ⟨o2, o3, o4, o5, rfl, S2, hw⟩ hU
      obtain ⟨t, n, p, v, ht, rfl, tp, rt⟩ := pr.get hx
      obtain ⟨hi, ht'⟩ := List.getElem?_eq_some_iff.mp ht
      rw [List.drop_eq_getElem_cons hi, ht'] at hw
      have S3 : Same H1 (upd H2 U (.tup [.int (i : Nat), .ref p])) := Same.trans S2 (same_new hU)
      have tU : SqT K (upd H2 U (.tup [.int (i : Nat), .ref p])) U [.int (i : Nat), .ref p] := SqT.of upd_same
      generalize upd H2 U (.tup [.int (i : Nat), .ref p]) = H3 at S3 tU ⊢
      refine ⟨U, _, rfl, tU, rfl, _, _, rfl, _, _, rfl, p, _, rfl, (TupV.ext S3 tp).sq, rfl, _, _, rfl, _, _, rfl, rfl, rfl, ?_⟩
      have rt3 := RepT.kp (Kp.of S3) _ _ rt
      walk_at "rd"
      refine g_ite (fun e0 => ?_) (fun e0 => ?_)
      · have hn : 1 < n := by have := of_decide_eq_true e0; omega
        walk_at "rd"
        refine holds_at rt3 (fun H4 S4 => ?_)
        have rt4 := RepT.kp (Kp.of S4) _ _ rt3
        have S14 := Same.trans S3 S4
        walk_at "rd"
        refine g_ite (fun e1 => ?_) (fun e1 => ?_)
        · have hy := wr_yes (l := (pio b 0).drop (i + 1)) (.inl (show i = 12 by have := V.int.inj (of_decide_eq_true e1); omega) : i = 12 ∨ (1 < n ∧ holdsT t = true) ∨ isPartT t = false)
          walk_at "rd"
          refine g_mko2 ?_
          walk_at "rd"
          refine ex_as2 fun d H' S hd => ?_
          rw [hy] at hw
          rcases h with ⟨e, _⟩ | ⟨j, e, q⟩
          · rw [hw] at e
            cases e
          · rw [hw] at e
            cases e
            exact q d H' (Same.trans (Same.trans S1 S14) S) hd
        have h12 : i ≠ 12 := fun z => absurd e1 (by rw [z]; decide)
        walk_at "rd"
        refine g_ite (fun e2 => ?_) (fun e2 => ?_)
        · have hy := wr_yes (l := (pio b 0).drop (i + 1)) (.inr (.inl ⟨hn, e2⟩) : i = 12 ∨ (1 < n ∧ holdsT t = true) ∨ isPartT t = false)
          walk_at "rd"
          refine g_mko2 ?_
          walk_at "rd"
          refine ex_as2 fun d H' S hd => ?_
          rw [hy] at hw
          rcases h with ⟨e, _⟩ | ⟨j, e, q⟩
          · rw [hw] at e
            cases e
          · rw [hw] at e
            cases e
            exact q d H' (Same.trans (Same.trans S1 S14) S) hd
        walk_at "rd"
        refine part_at rt4 (fun H5 S5 => ?_)
        have S14 := Same.trans S14 S5
        cases e3 : isPartT t
        · have hy := wr_yes (l := (pio b 0).drop (i + 1)) (.inr (.inr e3) : i = 12 ∨ (1 < n ∧ holdsT t = true) ∨ isPartT t = false)
          walk_at "rd"
          show (if true = true then _ else _)
          walk_at "rd"
          refine g_mko2 ?_
          walk_at "rd"
          refine ex_as2 fun d H' S hd => ?_
          rw [hy] at hw
          rcases h with ⟨e, _⟩ | ⟨j, e, q⟩
          · rw [hw] at e
            cases e
          · rw [hw] at e
            cases e
            exact q d H' (Same.trans (Same.trans S1 S14) S) hd
        · have hy := wr_no (l := (pio b 0).drop (i + 1)) (fun z => by rcases z with z | ⟨_, z⟩ | z <;> first | exact h12 z | (rw [e2] at z; cases z) | (rw [e3] at z; cases z) : ¬ (i = 12 ∨ (1 < n ∧ holdsT t = true) ∨ isPartT t = false))
          walk_at "rd"
          show (if false = true then _ else _)
          walk_at "rd"
          exact ⟨_, _, _, _, rfl, S14, by rw [hw, hy]⟩
      · have hn : ¬ 1 < n := by have := of_decide_eq_false e0; omega
        have S14 := S3
        walk_at "rd"
        refine g_ite (fun e1 => ?_) (fun e1 => ?_)
        · have hy := wr_yes (l := (pio b 0).drop (i + 1)) (.inl (show i = 12 by have := V.int.inj (of_decide_eq_true e1); omega) : i = 12 ∨ (1 < n ∧ holdsT t = true) ∨ isPartT t = false)
          walk_at "rd"
          refine g_mko2 ?_
          walk_at "rd"
          refine ex_as2 fun d H' S hd => ?_
          rw [hy] at hw
          rcases h with ⟨e, _⟩ | ⟨j, e, q⟩
          · rw [hw] at e
            cases e
          · rw [hw] at e
            cases e
            exact q d H' (Same.trans (Same.trans S1 S14) S) hd
        have h12 : i ≠ 12 := fun z => absurd e1 (by rw [z]; decide)
        walk_at "rd"
        refine part_at rt3 (fun H5 S5 => ?_)
        have S14 := Same.trans S14 S5
        cases e3 : isPartT t
        · have hy := wr_yes (l := (pio b 0).drop (i + 1)) (.inr (.inr e3) : i = 12 ∨ (1 < n ∧ holdsT t = true) ∨ isPartT t = false)
          walk_at "rd"
          show (if true = true then _ else _)
          walk_at "rd"
          refine g_mko2 ?_
          walk_at "rd"
          refine ex_as2 fun d H' S hd => ?_
          rw [hy] at hw
          rcases h with ⟨e, _⟩ | ⟨j, e, q⟩
          · rw [hw] at e
            cases e
          · rw [hw] at e
            cases e
            exact q d H' (Same.trans (Same.trans S1 S14) S) hd
        · have hy := wr_no (l := (pio b 0).drop (i + 1)) (fun z => by rcases z with z | ⟨z, _⟩ | z <;> first | exact h12 z | exact hn z | (rw [e3] at z; cases z) : ¬ (i = 12 ∨ (1 < n ∧ holdsT t = true) ∨ isPartT t = false))
          walk_at "rd"
          show (if false = true then _ else _)
          walk_at "rd"
          exact ⟨_, _, _, _, rfl, S14, by rw [hw, hy]⟩
    · rintro σ H2 ⟨o2, o3, o4, o5, rfl, S2, hw⟩
      walk_at "rd"
      rw [hlen, List.drop_length] at hw
      rcases h with ⟨_, q⟩ | ⟨i, e, _⟩
      · exact q _ (Same.trans S1 S2)
      · rw [hw] at e
        cases e
end
end K2

namespace K2
open PySem PySem.Spec PyProof.Rows L2 Mc Mx
section
variable {P : Program} {w : World} {K : PySem.W.Frag} {mg : Str → Option Value} {base : Heap}
local macro_rules | `(tactic| walk_at "rd1") => `(tactic| first
  | with_reducible refine g_seq ?_
  | with_reducible refine g_asg ?_
  | with_reducible refine g_name ?_
  | with_reducible refine g_c ?_
  | with_reducible refine g_op ?_
  | with_reducible refine g_ifS ?_
  | with_reducible refine g_if ?_
  | with_reducible refine g_test ?_
  | with_reducible refine g_B ?_
  | with_reducible refine g_bl ?_
  | with_reducible refine g_blV ?_
  | with_reducible refine g_not ?_
  | with_reducible refine g_and ?_
  | with_reducible refine g_or ?_
  | with_reducible refine g_notV ?_
  | with_reducible refine g_andV ?_
  | with_reducible refine g_orV ?_
  | with_reducible refine g_ret ?_
  | with_reducible refine g_drop ?_
  | with_reducible refine g_next ?_
  | with_reducible refine g_retN ?_
  | with_reducible refine g_call ?_
  | with_reducible refine g_cb ?_
  | with_reducible refine g_cons ?_
  | with_reducible refine g_nil ?_
  | with_reducible refine g_tup ?_
  | with_reducible refine g_lst ?_
  | with_reducible refine g_prop ?_
  | with_reducible refine g_fld ?_
  | with_reducible refine g_meth ?_
  | with_reducible refine g_chain ?_
  | with_reducible refine g_yes ?_
  | with_reducible refine g_make ?_
  | with_reducible refine g_makeK ?_
  | with_reducible refine g_gsub ?_
  | with_reducible refine g_sfld ?_
  | with_reducible refine g_un ?_
  | with_reducible refine g_bm ?_
  | with_reducible refine g_iteT ?_
  | with_reducible refine g_iteF ?_
  | with_reducible refine g_I0 ?_
  | with_reducible refine g_add ?_
  | with_reducible refine g_sub ?_
  | ((with_reducible refine' g_var ?hv ?_); (case hv => rfl))
  | ((with_reducible refine g_eq ?hv ?_); (case hv => rfl))
  | ((with_reducible refine g_ne ?hv ?_); (case hv => rfl)))
local macro_rules | `(tactic| walk_at "rd") => `(tactic| repeat (walk_at "rd1"))

local macro_rules | `(tactic| walk_at "ty") => `(tactic| first | exact .non | exact .bl _ | exact .int _ | exact .str _ | exact .lst (by assumption) | exact .tup (by assumption) | exact .dK (by assumption) | exact .kTup (by assumption) (by assumption))
local macro_rules | `(tactic| walk_at "isiF") => `(tactic| refine g_isi (by walk_at "ty") (b := false) (by decide +kernel) ?_)
local macro_rules | `(tactic| walk_at "isiT") => `(tactic| refine g_isi (by walk_at "ty") (b := true) (by decide +kernel) ?_)

theorem g_tup3 {i j k : Nat} {a : Addr} {x y z : V} {σ : L2.St} {H : Hp} {Q : L2.St → Hp → Prop} {m : Nat} (hm : m = 3) (sq : SqT K H a [x, y, z]) (q : Q (((σ.set i (some x)).set j (some y)).set k (some z)) H) : gTup K m (gCons (gName i) (gCons (gName j) (gCons (gName k) gNil))) (.ref a) σ H Q :=
  ⟨a, [x, y, z], rfl, sq, hm.symm, x, _, rfl, y, _, rfl, z, _, rfl, rfl, q⟩
theorem g_dnotin {ty td : TE} {σ : L2.St} {H : Hp} {Q : VK} (q : ty σ H fun y H1 => td σ H1 fun x H2 => ∃ a o, x = .ref a ∧ DGet H2 a y o ∧ Q (.bl !o.isSome) H2) : tDNotIn ty td σ H Q := q
def callT (t : Tr) : Prop := t = .leaf 2 ∨ ∃ i, t = .leaf (i + 4)
theorem csOf_call {l : List (Tr × Nat)} : ∀ t ∈ csOf l, callT t := fun t ht => by
  unfold csOf at ht
  obtain ⟨p, hp, rfl⟩ := List.mem_map.mp ht
  have h := (List.mem_filter.mp hp).2
  cases e : p.1 with
  | leaf i =>
    rw [e] at h
    match i, h with
    | 0, h => cases h
    | 1, h => cases h
    | 2, h => exact .inl rfl
    | 3, h => cases h
    | i + 4, h => exact .inr ⟨i, rfl⟩
  | odd => rw [e] at h; cases h
  | may b => rw [e] at h; cases h
  | both b c => rw [e] at h; cases h
def spChkNames (K : PySem.W.Frag) (CU : Addr) : Sp := fun vs H Q E => ∃ (a da dp : Addr) (kA kP : List (Key × V)) (b : List Tr) (xs : List V), vs = [.ref a, .ref da, .ref dp] ∧ TupV K H a xs ∧ RepB K H b xs ∧ (pio b 0).length ≤ 1000 ∧ (∀ p ∈ pio b 0, isPartT p.1 = true) ∧
  H da = some (.dK kA) ∧ H dp = some (.dK kP) ∧ (valV kP (Sum.inr sP)).isSome = true ∧ valV kA (Sum.inr sNone) = none ∧ (.leaf 2 ∈ csOf (pio b 0) → (valV kA (Sum.inr sA)).isSome = true) ∧
  (((∀ t ∈ csOf (pio b 0), t = .leaf 2) ∧ ∀ H', Same H H' → Q .non H') ∨ ((∃ i, .leaf (i + 4) ∈ csOf (pio b 0)) ∧ ∀ d H', Same H H' → H' d = some (.xd [("value", .str sNone)]) → E (.ref CU) (some d) H'))
theorem ok_chk_names {CU fU : Addr} {fdU : FuncData} (T : Txt K mg) (D : Def K mg "_check_names" s_check_names ["block", "ahead", "policies"]) (c_calls_in_order : Cal P w K mg base 5 "calls_in_order" (spCalls K))
    (TU : SupCB "LookupError" "LookupError.__new__" "LookupError.__init__" tlLE P K mg CU) (EU : ExK P w K mg base "UnknownName" CU fU fdU ["self", "value"] (spEx CU "value")) :
    CalX P w K mg base 6 "_check_names" (spChkNames K CU) := by
  refine calX_of D sc_check_names (fun vs H Q E h => ?_) (fun f cdv A outer s H vs Q E hr h => ?_)
  · obtain ⟨a, da, dp, kA, kP, b, xs, rfl, _⟩ := h
    rfl
  · obtain ⟨a, da, dp, kA, kP, b, xs, rfl, tv, rb, hl, hp, hda, hdp, vp, vn, va, h⟩ := h
    refine ⟨_, (pss_one (ps_for (passes_of rfl) rfl (pi_list (pe_f c_calls_in_order hr (by decide) (by rfl) (pa_cons (pv 0) pa_nil))) (pg_tup rfl (pgs_cons (pg_name (i := 3) sc_check_names.nd rfl (Or.inl rfl)) (pgs_cons (pg_name (i := 4) sc_check_names.nd rfl (Or.inl rfl)) (pgs_cons (pg_name (i := 5) sc_check_names.nd rfl (Or.inl rfl)) pgs_nil)))) (pss_cons (ps_if (pt_cmp (pc_dnotin (Nat.lt_of_le_of_lt (Nat.add_le_add_left (by decide : 1 ≤ 64) _) hr.units) (pv 4) (pv 1)) (by rfl)) (pss_one (ps_raise rfl (takes_of rfl rfl rfl rfl) (pmk_oexB base_LE TU.ox EU.iC EU.tI EU.ok (hr.mono (by decide)) EU.bi .nil pass0 (by rfl) EU.gl (pa_cons (pv 4) pa_nil)))) pss_nil)
      (pss_one (ps_if (pt_cmp (pc_dnotin (Nat.lt_of_le_of_lt (Nat.add_le_add_left (by decide : 1 ≤ 64) _) hr.units) (pv 5) (pv 2)) (by rfl)) (pss_one ps_never) pss_nil))))), ?_⟩
    walk_at "rd"
    refine g_for (g_ilist ?_)
    walk_at "rd"
    refine ⟨a, b, xs, rfl, tv, rb, hl, hp, fun l ys H1 S1 hl1 ra => ?_⟩
    refine ⟨l, rfl, ⟨ys, SqL.of hl1⟩, ?_⟩
    refine for_list (K := K) (a := l) (xs := ys) (fun i σ H' => ∃ o3 o4 o5 : Option V, σ = [some (.ref a), some (.ref da), some (.ref dp), o3, o4, o5] ∧ Same H1 H' ∧ ∀ t ∈ (csOf (pio b 0)).take i, t = .leaf 2) ⟨_, _, _, rfl, Same.refl _, (fun t ht => by rw [List.take_zero] at ht; cases ht)⟩ (fun i σ H' _ ⟨_, _, _, _, e, _⟩ => SqL.of (e _ _ hl1)) ?_ ?_
    · rintro i x σ H2 hx ⟨o3, o4, o5, rfl, S2, hw⟩
      obtain ⟨t, ht, rt⟩ := ra.get hx
      have hm : t ∈ csOf (pio b 0) := List.mem_of_getElem? ht
      have rt := RepT.kp (Kp.of S2) _ _ rt
      have S := Same.trans S1 S2
      rcases csOf_call t hm with rfl | ⟨j, rfl⟩
      · unfold RepT at rt
        obtain ⟨pa, rfl, tp⟩ := rt
        refine g_tup3 rfl tp.sq ?_
        walk_at "rd"
        refine g_dnotin ?_
        walk_at "rd"
        refine ⟨da, _, rfl, DGet.k (k := Sum.inr sA) (S _ _ hda), ?_⟩
        rw [va hm]
        walk_at "rd"
        show (if false = true then _ else _)
        walk_at "rd"
        refine g_dnotin ?_
        walk_at "rd"
        refine ⟨dp, _, rfl, DGet.k (k := Sum.inr sP) (S _ _ hdp), ?_⟩
        rw [vp]
        walk_at "rd"
        show (if false = true then _ else _)
        walk_at "rd"
        refine ⟨_, _, _, rfl, S2, fun u hu => ?_⟩
        rw [List.take_succ, ht] at hu
        rcases List.mem_append.mp hu with hu | hu
        · exact hw u hu
        · simpa using hu
      · unfold RepT at rt
        obtain ⟨pa, rfl, tp⟩ := rt
        refine g_tup3 rfl tp.sq ?_
        walk_at "rd"
        refine g_dnotin ?_
        walk_at "rd"
        refine ⟨da, _, rfl, DGet.k (k := Sum.inr sNone) (S _ _ hda), ?_⟩
        rw [vn]
        walk_at "rd"
        show (if true = true then _ else _)
        walk_at "rd"
        refine g_mko ?_
        walk_at "rd"
        refine ex_as fun d H' S3 hd => ?_
        rcases h with ⟨e, _⟩ | ⟨_, q⟩
        · have := e _ hm
          cases this
        · exact q d H' (Same.trans S S3) hd
    · rintro σ H2 ⟨o3, o4, o5, rfl, S2, hw⟩
      rw [← ra.len, List.take_length] at hw
      rcases h with ⟨_, q⟩ | ⟨⟨j, hj⟩, _⟩
      · exact q _ (Same.trans S1 S2)
      · have := hw _ hj
        cases this
end
end K2

namespace K2
open PySem PySem.Spec PyProof.Rows L2 Mc Mx
section
variable {P : Program} {w : World} {K : PySem.W.Frag} {mg : Str → Option Value} {base : Heap}
local macro_rules | `(tactic| walk_at "rd1") => `(tactic| first
  | with_reducible refine g_seq ?_
  | with_reducible refine g_asg ?_
  | with_reducible refine g_name ?_
  | with_reducible refine g_c ?_
  | with_reducible refine g_op ?_
  | with_reducible refine g_ifS ?_
  | with_reducible refine g_if ?_
  | with_reducible refine g_test ?_
  | with_reducible refine g_B ?_
  | with_reducible refine g_bl ?_
  | with_reducible refine g_blV ?_
  | with_reducible refine g_not ?_
  | with_reducible refine g_and ?_
  | with_reducible refine g_or ?_
  | with_reducible refine g_notV ?_
  | with_reducible refine g_andV ?_
  | with_reducible refine g_orV ?_
  | with_reducible refine g_ret ?_
  | with_reducible refine g_drop ?_
  | with_reducible refine g_next ?_
  | with_reducible refine g_retN ?_
  | with_reducible refine g_call ?_
  | with_reducible refine g_cb ?_
  | with_reducible refine g_cons ?_
  | with_reducible refine g_nil ?_
  | with_reducible refine g_tup ?_
  | with_reducible refine g_lst ?_
  | with_reducible refine g_prop ?_
  | with_reducible refine g_fld ?_
  | with_reducible refine g_meth ?_
  | with_reducible refine g_chain ?_
  | with_reducible refine g_yes ?_
  | with_reducible refine g_make ?_
  | with_reducible refine g_makeK ?_
  | with_reducible refine g_gsub ?_
  | with_reducible refine g_sfld ?_
  | with_reducible refine g_un ?_
  | with_reducible refine g_bm ?_
  | with_reducible refine g_iteT ?_
  | with_reducible refine g_iteF ?_
  | with_reducible refine g_I0 ?_
  | with_reducible refine g_add ?_
  | with_reducible refine g_sub ?_
  | ((with_reducible refine' g_var ?hv ?_); (case hv => rfl))
  | ((with_reducible refine g_eq ?hv ?_); (case hv => rfl))
  | ((with_reducible refine g_ne ?hv ?_); (case hv => rfl)))
local macro_rules | `(tactic| walk_at "rd") => `(tactic| repeat (walk_at "rd1"))

local macro_rules | `(tactic| walk_at "ty") => `(tactic| first | exact .non | exact .bl _ | exact .int _ | exact .str _ | exact .lst (by assumption) | exact .tup (by assumption) | exact .dK (by assumption) | exact .kTup (by assumption) (by assumption))
local macro_rules | `(tactic| walk_at "isiF") => `(tactic| refine g_isi (by walk_at "ty") (b := false) (by decide +kernel) ?_)
local macro_rules | `(tactic| walk_at "isiT") => `(tactic| refine g_isi (by walk_at "ty") (b := true) (by decide +kernel) ?_)

def sB : Str := "b"
theorem kit_lt : PySem.W.kitAny K (.type "list") [.type "list", .type "tuple"] = some true := by
  show (PySem.W.kitOne K (.type "list") (.type "list")).bind _ = _
  rw [kit_ty (r := true) (by decide +kernel)]
  rfl
theorem sqL_ext {H H' : Hp} {a : Addr} {xs : List V} (e : Same H H') (h : SqL K H a xs) : SqL K H' a xs := by
  rcases h with (h | ⟨o, h⟩) | h
  · exact .inl (.inl (e _ _ h))
  · exact .inl (.inr ⟨o, e _ _ h⟩)
  · exact .inr h
theorem kit_same {C : Addr} : PySem.W.kitOne K (.ref C) (.ref C) = some true := if_pos (by simp)
theorem g_tup2' {i j m : Nat} {a : Addr} {x y : V} {σ : L2.St} {H : Hp} {Q : L2.St → Hp → Prop} (hm : m = 2) (sq : SqT K H a [x, y]) (q : Q ((σ.set i (some x)).set j (some y)) H) : gTup K m (gCons (gName i) (gCons (gName j) gNil)) (.ref a) σ H Q :=
  ⟨a, [x, y], rfl, sq, hm.symm, x, [y], rfl, y, [], rfl, rfl, q⟩
structure ICls (K : PySem.W.Frag) (C : Addr) : Prop where
  ha : PySem.W.findIn K (.ref C) "__class__" = some (some (.builtin "object.__class__"))
  hn : PySem.W.specialIn K (.builtin "object.__class__") "__get__" = some (some (.builtin "getset_descriptor.__get__"))
  tk : PySem.W.takesIn K (.builtin "object.__class__") = some true
  hm : PySem.W.mroIn K C (.type "object") = some true
def spIsServ (K : PySem.W.Frag) : Sp := fun vs H Q _ => ∃ (r c : Addr) (z : Str), vs = [.ref r] ∧ TupV K H r [.str z, .ref c] ∧ Mc.TyB K H (.ref c) "tuple" ∧ isNm z = true ∧ z.length ≤ 1000 ∧ ∀ H', Same H H' → Q (.bl true) H'
theorem ok_is_service (T : Txt K mg) (D : Def K mg "_is_service" s_is_service ["row"]) (c_is_name : Cal P w K mg base 1 "is_name" (spName K)) : Cal P w K mg base 2 "_is_service" (spIsServ K) := by
  refine cal_of D sc_is_service (fun vs H Q E h => ?_) (fun f cdv A outer s H vs Q E hr h => ?_)
  · obtain ⟨r, c, z, rfl, _⟩ := h
    rfl
  · obtain ⟨r, c, z, rfl, tr, tc, hz, hl, q⟩ := h
    refine ⟨_, (pss_one (ps_ret (pe_and (pe_callB call_isi (by rfl) T.n_isinstance (by decide +kernel) (pa_cons (pv 0) (pa_cons (pe_ty "tuple" (by rfl) T.n_tuple (by decide +kernel)) pa_nil))) (pe_and (pe_cmpR op_eq (pe_callB call_len_seq (by rfl) T.n_len (by decide +kernel) (pa_cons (pv 0) pa_nil)) pe_int (nomark _)) (pe_and (pe_f c_is_name hr (by decide) (by rfl) (pa_cons (pe_ix ix_tup (pv 0) pe_int (fun _ _ => rfl)) pa_nil)) (pe_one (pe_callB call_isi (by rfl) T.n_isinstance (by decide +kernel) (pa_cons (pe_ix ix_tup (pv 0) pe_int (fun _ _ => rfl)) (pa_cons (pe_ty "tuple" (by rfl) T.n_tuple (by decide +kernel)) pa_nil))))))))), ?_⟩
    walk_at "rd"
    refine g_isi tr.ty (b := true) (by decide +kernel) ?_
    walk_at "rd"
    refine ⟨r, _, rfl, .inr tr.sq, ?_⟩
    walk_at "rd"
    refine g_andC (len_yes (by simp)) ?_
    walk_at "rd"
    refine g_ixT tr.sq (v := .str z) (atI_nat (j := 0) rfl) ?_
    walk_at "rd"
    refine ⟨.str z, "str", rfl, .str _, (fun y hy => by cases hy; exact hl), fun H1 S1 => ?_⟩
    rw [show nmV (.str z) = true from hz]
    walk_at "rd"
    refine g_ixT (TupV.ext S1 tr).sq (v := .ref c) (atI_nat (j := 1) rfl) ?_
    walk_at "rd"
    refine g_isi (TyB.ext S1 tc) (b := true) (by decide +kernel) ?_
    exact q _ S1
def spChkPol (K : PySem.W.Frag) (C : Addr) : Sp := fun vs H Q _ => ∃ (a p : Addr), vs = [.ref a] ∧ H a = some (.lst [.ref p]) ∧ PolAt K C H p polP ∧ ∀ H', Same H H' → Q .non H'
theorem ok_chk_pol {C : Addr} (T : Txt K mg) (D : Def K mg "_check_policies" s_check_policies ["policies"]) (PR : Prps P w K mg base C) (TC : CTxt K C) (IC : ICls K C) (gP : mg "Policy" = some (.ref C)) : Cal P w K mg base 3 "_check_policies" (spChkPol K C) := by
  have pr_name := PR.name
  refine cal_of D sc_check_policies (fun vs H Q E h => ?_) (fun f cdv A outer s H vs Q E hr h => ?_)
  · obtain ⟨a, p, rfl, _⟩ := h
    rfl
  · obtain ⟨a, p, rfl, ha, pa, q⟩ := h
    refine ⟨_, (pss_cons (ps_if (PW.pt (pw_or (pt_not (pt_val (pe_callB call_isiT (by rfl) T.n_isinstance (by decide +kernel) (pa_cons (pv 0) (pa_cons (pe_tup (pa_cons (pe_ty "list" (by rfl) T.n_list (by decide +kernel)) (pa_cons (pe_ty "tuple" (by rfl) T.n_tuple (by decide +kernel)) pa_nil))) pa_nil))))) (pw_or1 (pt_cmpR op_gt (pe_callB call_len_seq (by rfl) T.n_len (by decide +kernel) (pa_cons (pv 0) pa_nil)) (pe_gx rfl T.g_MOST_POLICIES) (nomark _))))) (pss_one ps_never) pss_nil)
      (pss_cons (ps_set (i := 1) sc_check_policies.nd rfl (Or.inl rfl) (pe_lst pa_nil))
      (pss_one (ps_for PassesOwn.never rfl (pi_enum (by rfl) T.n_enumerate (pa_cons (pv 0) pa_nil)) (pg_tup rfl (pgs_cons (pg_name (i := 2) sc_check_policies.nd rfl (Or.inl rfl)) (pgs_cons (pg_name (i := 3) sc_check_policies.nd rfl (Or.inl rfl)) pgs_nil))) (pss_cons (ps_if (PW.pt (pw_or (pt_not (pt_val (pe_callB call_isi (by rfl) T.n_isinstance (by decide +kernel) (pa_cons (pv 3) (pa_cons (pe_gx (v := .ref C) rfl ⟨_, gP, rfl⟩) pa_nil))))) (pw_or1 (pt_cmpR op_in_seq (pe_pr pr_name hr (by decide) (pv 3)) (pv 1) (by rfl))))) (pss_one ps_never) pss_nil)
      (pss_one (ps_expr (pe_bm PySem.F.plainAttrs_list PySem.F.slot_list_append PySem.F.type_list_append mt_append (pv 1) (pa_cons (pe_pr pr_name hr (by decide) (pv 3)) pa_nil))))))))), ?_⟩
    walk_at "rd"
    refine tupG_same (by decide) fun tp H1 _ S1 htp => ?_
    walk_at "rd"
    refine ⟨.ref a, tp, _, _, _, true, rfl, htp, .cons (.ty _) (.cons (.ty _) .nil), TyX.base (.lst (S1 _ _ ha)), kit_lt, ?_⟩
    walk_at "rd"
    show (if false = true then _ else _)
    walk_at "rd"
    refine ⟨a, _, rfl, .inl (SqL.of (S1 _ _ ha)), ?_⟩
    walk_at "rd"
    refine g_andC0 (by show decide ((8 : Int) < 1) = false; decide) ?_
    walk_at "rd"
    refine ⟨(by show 0 ≤ sizeLine; decide), fun L hL => ?_⟩
    walk_at "rd"
    have S2 := Same.trans S1 (same_new (o := .lst []) hL)
    have hL2 : upd H1 L (.lst []) L = some (.lst []) := upd_same
    have hLa : L ≠ a := fun z => by rw [z, S1 _ _ ha] at hL; cases hL
    have hL0 : H L = none := by
      cases e : H L with
      | none => rfl
      | some o => rw [S1 _ _ e] at hL; cases hL
    generalize upd H1 L (.lst []) = H2 at S2 hL2 ⊢
    dsimp only
    refine g_for (g_ienum ?_)
    walk_at "rd"
    refine ⟨a, _, rfl, SqL.of (S2 _ _ ha), ?_⟩
    refine for_enum (K := K) (a := a) (xs := [.ref p]) (fun i σ H' => ∃ o2 o3 : Option V, σ = [some (.ref a), some (.ref L), o2, o3] ∧ Same H H' ∧ (i = 0 → H' L = some (.lst []))) ⟨_, _, rfl, S2, fun _ => hL2⟩ (fun i σ H' _ ⟨_, _, _, e, _⟩ => SqL.of (e _ _ ha)) ?_ ?_
    · rintro i x σ H3 U hx ⟨o2, o3, rfl, S3, h3⟩ hU
      cases i with
      | succ i => simp at hx
      | zero =>
        cases hx
        have h3 := h3 rfl
        have hUL : U ≠ L := fun z => by rw [z, h3] at hU; cases hU
        refine g_tup2' rfl (SqT.of upd_same) ?_
        have S4 := Same.trans S3 (same_new (o := .tup [.int (0 : Nat), .ref p]) hU)
        have h4 : upd H3 U (.tup [.int (0 : Nat), .ref p]) L = some (.lst []) := by rw [upd_ne hUL.symm]; exact h3
        generalize upd H3 U (.tup [.int (0 : Nat), .ref p]) = H4 at S4 h4 ⊢
        obtain ⟨dx, pp, ga, hpp, _⟩ := pa.ext S4
        walk_at "rd"
        refine ⟨_, _, _, _, true, rfl, .own _, TyX.base (.ins hpp TC.cl IC.ha IC.hn IC.tk IC.hm), kit_same, ?_⟩
        walk_at "rd"
        show (if false = true then _ else _)
        walk_at "rd"
        refine ⟨p, dx, _, rfl, hpp, p, dx, _, _, rfl, hpp, lk1, ?_⟩
        walk_at "rd"
        refine ⟨L, _, rfl, .inl (SqL.of h4), rfl, rfl, ?_⟩
        walk_at "rd"
        refine g_andC0 (by decide +kernel) ?_
        walk_at "rd"
        refine ⟨.inl ⟨rfl, _, SqL.of h4⟩, ?_⟩
        walk_at "rd"
        refine ⟨p, dx, _, rfl, hpp, p, dx, _, _, rfl, hpp, lk1, ?_⟩
        walk_at "rd"
        refine ⟨L, _, _, rfl, rfl, h4, by show 0 < sizeLine; decide, ?_⟩
        exact ⟨_, _, rfl, same_upd hL0 S4, fun z => nomatch z⟩
    · rintro σ H3 ⟨o2, o3, rfl, S3, _⟩
      walk_at "rd"
      exact q _ S3
def spChkServ (K : PySem.W.Frag) : Sp := fun vs H Q _ => ∃ (a r1 r2 c1 c2 : Addr), vs = [.ref a] ∧ H a = some (.lst [.ref r1, .ref r2]) ∧ TupV K H r1 [.str sA, .ref c1] ∧ TupV K H r2 [.str sB, .ref c2] ∧ Mc.TyB K H (.ref c1) "tuple" ∧ Mc.TyB K H (.ref c2) "tuple" ∧ ∀ H', Same H H' → Q .non H'
theorem ok_chk_serv (T : Txt K mg) (D : Def K mg "_check_services" s_check_services ["services"]) (c_is_service : Cal P w K mg base 2 "_is_service" (spIsServ K)) : Cal P w K mg base 3 "_check_services" (spChkServ K) := by
  refine cal_of D sc_check_services (fun vs H Q E h => ?_) (fun f cdv A outer s H vs Q E hr h => ?_)
  · obtain ⟨a, r1, r2, c1, c2, rfl, _⟩ := h
    rfl
  · obtain ⟨a, r1, r2, c1, c2, rfl, ha, t1, t2, tc1, tc2, q⟩ := h
    refine ⟨_, (pss_cons (ps_if (PW.pt (pw_or (pt_not (pt_val (pe_callB call_isiT (by rfl) T.n_isinstance (by decide +kernel) (pa_cons (pv 0) (pa_cons (pe_tup (pa_cons (pe_ty "list" (by rfl) T.n_list (by decide +kernel)) (pa_cons (pe_ty "tuple" (by rfl) T.n_tuple (by decide +kernel)) pa_nil))) pa_nil))))) (pw_or1 (pt_not (pt_chain op_le op_le pe_int (pe_callB call_len_seq (by rfl) T.n_len (by decide +kernel) (pa_cons (pv 0) pa_nil)) (pe_gx rfl T.g_MOST_SERVICES)))))) (pss_one ps_never) pss_nil)
      (pss_cons (ps_set (i := 1) sc_check_services.nd rfl (Or.inl rfl) (pe_lst pa_nil))
      (pss_one (ps_for PassesOwn.never rfl (pi_enum (by rfl) T.n_enumerate (pa_cons (pv 0) pa_nil)) (pg_tup rfl (pgs_cons (pg_name (i := 2) sc_check_services.nd rfl (Or.inl rfl)) (pgs_cons (pg_name (i := 3) sc_check_services.nd rfl (Or.inl rfl)) pgs_nil))) (pss_cons (ps_if (PW.pt (pw_or (pt_not (pt_val (pe_f c_is_service hr (by decide) (by rfl) (pa_cons (pv 3) pa_nil)))) (pw_or1 (pt_cmpR op_in_seq (pe_ix ix_tup (pv 3) pe_int (fun _ _ => rfl)) (pv 1) (by rfl))))) (pss_one ps_never) pss_nil)
      (pss_one (ps_expr (pe_bm PySem.F.plainAttrs_list PySem.F.slot_list_append PySem.F.type_list_append mt_append (pv 1) (pa_cons (pe_ix ix_tup (pv 3) pe_int (fun _ _ => rfl)) pa_nil))))))))), ?_⟩
    walk_at "rd"
    refine tupG_same (by decide) fun tp H1 _ S1 htp => ?_
    walk_at "rd"
    refine ⟨.ref a, tp, _, _, _, true, rfl, htp, .cons (.ty _) (.cons (.ty _) .nil), TyX.base (.lst (S1 _ _ ha)), kit_lt, ?_⟩
    walk_at "rd"
    show (if false = true then _ else _)
    walk_at "rd"
    refine ⟨a, _, rfl, .inl (SqL.of (S1 _ _ ha)), ?_⟩
    walk_at "rd"
    refine g_andC (by show decide ((1 : Int) ≤ 2) = true; decide) ?_
    walk_at "rd"
    rw [show decide ((([V.ref r1, V.ref r2] : List V).length : Int) ≤ 6) = true by show decide ((2 : Int) ≤ 6) = true; decide]
    walk_at "rd"
    show (if false = true then _ else _)
    walk_at "rd"
    refine ⟨(by show 0 ≤ sizeLine; decide), fun L hL => ?_⟩
    walk_at "rd"
    have S2 := Same.trans S1 (same_new (o := .lst []) hL)
    have hL2 : upd H1 L (.lst []) L = some (.lst []) := upd_same
    have hL0 : H L = none := by
      cases e : H L with
      | none => rfl
      | some o => rw [S1 _ _ e] at hL; cases hL
    generalize upd H1 L (.lst []) = H2 at S2 hL2 ⊢
    dsimp only
    refine g_for (g_ienum ?_)
    walk_at "rd"
    refine ⟨a, _, rfl, SqL.of (S2 _ _ ha), ?_⟩
    refine for_enum (K := K) (a := a) (xs := [.ref r1, .ref r2]) (fun i σ H' => ∃ o2 o3 : Option V, σ = [some (.ref a), some (.ref L), o2, o3] ∧ Same H H' ∧ H' L = some (.lst ([V.str sA, V.str sB].take i))) ⟨_, _, rfl, S2, hL2⟩ (fun i σ H' _ ⟨_, _, _, e, _⟩ => SqL.of (e _ _ ha)) ?_ ?_
    · rintro i x σ H3 U hx ⟨o2, o3, rfl, S3, h3⟩ hU
      have key : ∃ (r c : Addr) (z : Str), x = .ref r ∧ TupV K H r [.str z, .ref c] ∧ Mc.TyB K H (.ref c) "tuple" ∧ isNm z = true ∧ z.length ≤ 1000 ∧ [V.str sA, V.str sB].take (i + 1) = [V.str sA, V.str sB].take i ++ [V.str z] ∧ inV (.str z) ([V.str sA, V.str sB].take i) = false ∧ ([V.str sA, V.str sB].take i).all flatV = true ∧ i < 2 := by
        match i, hx with
        | 0, hx => cases hx; exact ⟨r1, c1, sA, rfl, t1, tc1, by decide +kernel, by decide, rfl, by decide +kernel, by decide +kernel, by decide⟩
        | 1, hx => cases hx; exact ⟨r2, c2, sB, rfl, t2, tc2, by decide +kernel, by decide, rfl, by decide +kernel, by decide +kernel, by decide⟩
        | i + 2, hx => simp at hx
      obtain ⟨r, c, z, rfl, tr, tc, hz, hzl, ez, en, efl, hi⟩ := key
      have hUL : U ≠ L := fun z => by rw [z, h3] at hU; cases hU
      refine g_tup2' rfl (SqT.of upd_same) ?_
      have S4 := Same.trans S3 (same_new (o := .tup [.int (i : Nat), .ref r]) hU)
      have h4 : upd H3 U (.tup [.int (i : Nat), .ref r]) L = some (.lst ([V.str sA, V.str sB].take i)) := by rw [upd_ne hUL.symm]; exact h3
      generalize upd H3 U (.tup [.int (i : Nat), .ref r]) = H4 at S4 h4 ⊢
      walk_at "rd"
      refine ⟨r, c, z, rfl, TupV.ext S4 tr, TyB.ext S4 tc, hz, hzl, fun H5 S5 => ?_⟩
      walk_at "rd"
      show (if false = true then _ else _)
      walk_at "rd"
      have S5 := Same.trans S4 S5
      have h5 : H5 L = some (.lst ([V.str sA, V.str sB].take i)) := by rename_i S45; exact S45 _ _ h4
      refine g_ixT (TupV.ext S5 tr).sq (v := .str z) (atI_nat (j := 0) rfl) ?_
      walk_at "rd"
      refine ⟨L, _, rfl, .inl (SqL.of h5), rfl, efl, ?_⟩
      walk_at "rd"
      refine g_andC0 (by show inV _ _ = false; exact en) ?_
      walk_at "rd"
      refine ⟨.inl ⟨rfl, _, SqL.of h5⟩, ?_⟩
      walk_at "rd"
      refine g_ixT (TupV.ext S5 tr).sq (v := .str z) (atI_nat (j := 0) rfl) ?_
      walk_at "rd"
      refine ⟨L, _, _, rfl, rfl, h5, small1000 (by rw [List.length_take]; omega), ?_⟩
      exact ⟨_, _, rfl, same_upd hL0 S5, by rw [upd_same, ez]⟩
    · rintro σ H3 ⟨o2, o3, rfl, S3, _⟩
      walk_at "rd"
      exact q _ S3
end
end K2

namespace K2
open PySem PySem.Spec PyProof.Rows L2 Mc Mx
/-- {..} over a list that stays -/
theorem dc_list {K : PySem.W.Frag} {a : Addr} {xs : List V} {g : TG} {tt : TT} {tk tv : TE} {vs : List Nat} {σ : L2.St} {H1 : Hp} {D : Addr} {Qd : Hp → Prop} (Pv : Nat → Hp → Prop) (h0 : Pv 0 (upd H1 D (.dK []))) (hl : ∀ i H, i ≤ xs.length → Pv i H → SqL K H a xs)
    (hs : ∀ i x H, xs[i]? = some x → Pv i H → g x (wipe σ vs) H fun σ2 H2 => wipe σ2 vs = wipe σ vs ∧ tt σ2 H2 fun b H3 =>
      if b = true then tk σ2 H3 fun y H4 => tv σ2 H4 fun z H5 => ∃ kvs k, y = kV k ∧ H5 D = some (.dK kvs) ∧ kvs.length < sizeLine ∧ Pv (i + 1) (upd H5 D (.dK (putK kvs k z))) else Pv (i + 1) H3) (hd : ∀ H, Pv xs.length H → Qd H) :
    ∃ W : Nat → Nat → Hp → Prop, (∃ m, W 0 m (upd H1 D (.dK []))) ∧ ∀ i m H, W i m H →
      ((Itl K a).stop i H ∧ Qd H) ∨ ((Itl K a).go i H ∧ ∃ Nx : Hp → Prop, (∀ H', Nx H' → ∃ m', m' < m ∧ W (i + 1) m' H') ∧ ∀ x H', (Itl K a).yld i H x H' → g x (wipe σ vs) H' fun σ2 H2 => wipe σ2 vs = wipe σ vs ∧ tt σ2 H2 fun b H3 =>
        if b = true then tk σ2 H3 fun y H4 => tv σ2 H4 fun z H5 => ∃ kvs k, y = kV k ∧ H5 D = some (.dK kvs) ∧ kvs.length < sizeLine ∧ Nx (upd H5 D (.dK (putK kvs k z))) else Nx H3) := by
  refine ⟨fun i m H => m = xs.length - i ∧ i ≤ xs.length ∧ Pv i H, ⟨xs.length, by simp, Nat.zero_le _, h0⟩, ?_⟩
  rintro i m H ⟨rfl, hi, p⟩
  have q := hl i H hi p
  by_cases hlt : i < xs.length
  · refine .inr ⟨⟨xs, xs[i], q, by simp [hlt]⟩, Pv (i + 1), fun H' p' => ⟨xs.length - (i + 1), by omega, rfl, hlt, p'⟩, fun x H' y => ?_⟩
    obtain ⟨e, y⟩ := y
    subst e
    exact hs i x _ (y xs q) p
  · have e : i = xs.length := by omega
    subst e
    exact .inl ⟨⟨xs, q, Nat.le_refl _⟩, hd H p⟩
section
variable {P : Program} {w : World} {K : PySem.W.Frag} {mg : Str → Option Value} {base : Heap}
local macro_rules | `(tactic| walk_at "rd1") => `(tactic| first
  | with_reducible refine g_seq ?_
  | with_reducible refine g_asg ?_
  | with_reducible refine g_name ?_
  | with_reducible refine g_c ?_
  | with_reducible refine g_op ?_
  | with_reducible refine g_ifS ?_
  | with_reducible refine g_if ?_
  | with_reducible refine g_test ?_
  | with_reducible refine g_B ?_
  | with_reducible refine g_bl ?_
  | with_reducible refine g_blV ?_
  | with_reducible refine g_not ?_
  | with_reducible refine g_and ?_
  | with_reducible refine g_or ?_
  | with_reducible refine g_notV ?_
  | with_reducible refine g_andV ?_
  | with_reducible refine g_orV ?_
  | with_reducible refine g_ret ?_
  | with_reducible refine g_drop ?_
  | with_reducible refine g_next ?_
  | with_reducible refine g_retN ?_
  | with_reducible refine g_call ?_
  | with_reducible refine g_cb ?_
  | with_reducible refine g_cons ?_
  | with_reducible refine g_nil ?_
  | with_reducible refine g_tup ?_
  | with_reducible refine g_lst ?_
  | with_reducible refine g_prop ?_
  | with_reducible refine g_fld ?_
  | with_reducible refine g_meth ?_
  | with_reducible refine g_chain ?_
  | with_reducible refine g_yes ?_
  | with_reducible refine g_make ?_
  | with_reducible refine g_makeK ?_
  | with_reducible refine g_gsub ?_
  | with_reducible refine g_sfld ?_
  | with_reducible refine g_un ?_
  | with_reducible refine g_bm ?_
  | with_reducible refine g_iteT ?_
  | with_reducible refine g_iteF ?_
  | with_reducible refine g_I0 ?_
  | with_reducible refine g_add ?_
  | with_reducible refine g_sub ?_
  | ((with_reducible refine' g_var ?hv ?_); (case hv => rfl))
  | ((with_reducible refine g_eq ?hv ?_); (case hv => rfl))
  | ((with_reducible refine g_ne ?hv ?_); (case hv => rfl)))
local macro_rules | `(tactic| walk_at "rd") => `(tactic| repeat (walk_at "rd1"))

local macro_rules | `(tactic| walk_at "ty") => `(tactic| first | exact .non | exact .bl _ | exact .int _ | exact .str _ | exact .lst (by assumption) | exact .tup (by assumption) | exact .dK (by assumption) | exact .kTup (by assumption) (by assumption))
local macro_rules | `(tactic| walk_at "isiF") => `(tactic| refine g_isi (by walk_at "ty") (b := false) (by decide +kernel) ?_)
local macro_rules | `(tactic| walk_at "isiT") => `(tactic| refine g_isi (by walk_at "ty") (b := true) (by decide +kernel) ?_)

structure STx (K : PySem.W.Frag) (C : Addr) : Prop where
  cl : Cls K C
  n1 : NoAttr K C "_policies"
  n2 : NoAttr K C "_blocks"
  n3 : NoAttr K C "_spans"
def sfs (dp db ds : Addr) : List (Str × V) := [("_policies", .ref dp), ("_blocks", .ref db), ("_spans", .ref ds)]
theorem sf_all {a b c : V} : putF "_spans" c (putF "_blocks" b (putF "_policies" a [])) = ([("_policies", a), ("_blocks", b), ("_spans", c)] : List (Str × V)) := by
  rw [pf_nil, pf_skip (f := "_blocks") (h := "_policies") (by decide +kernel), pf_nil, pf_skip (f := "_spans") (h := "_policies") (by decide +kernel), pf_skip (f := "_spans") (h := "_blocks") (by decide +kernel), pf_nil]
theorem slk1 {dp db ds : Addr} : (sfs dp db ds).lookup ("_policies" : Str) = some (.ref dp) := rfl
theorem slk2 {dp db ds : Addr} : (sfs dp db ds).lookup ("_blocks" : Str) = some (.ref db) := rfl
theorem slk3 {dp db ds : Addr} : (sfs dp db ds).lookup ("_spans" : Str) = some (.ref ds) := rfl
structure SysF (K : PySem.W.Frag) (C : Addr) (H : Hp) (pl sv p r1 r2 c1 c2 : Addr) (b : List Tr) (xs : List V) : Prop where
  hpl : H pl = some (.lst [.ref p])
  pol : PolAt K C H p polP
  hsv : H sv = some (.lst [.ref r1, .ref r2])
  t1 : TupV K H r1 [.str sA, .ref c1]
  t2 : TupV K H r2 [.str sB, .ref c2]
  e1 : TupV K H c1 []
  e2 : TupV K H c2 xs
  rb : RepB K H b xs
  hl : (pio b 0).length ≤ 1000
theorem SysF.ext {C : Addr} {H H' : Hp} {pl sv p r1 r2 c1 c2 : Addr} {b : List Tr} {xs : List V} (e : Same H H') (h : SysF K C H pl sv p r1 r2 c1 c2 b xs) : SysF K C H' pl sv p r1 r2 c1 c2 b xs :=
  ⟨e _ _ h.hpl, h.pol.ext e, e _ _ h.hsv, h.t1.ext e, h.t2.ext e, h.e1.ext e, h.e2.ext e, RepB.kp (Kp.of e) _ _ h.rb, h.hl⟩
/-- what becomes of a block -/
def Outc (CI CU : Addr) (H0 : Hp) (z : Str) (b : List Tr) (made : Prop) (E : XK) : Prop :=
  (∃ i, wr (pio b 0) 0 = some i ∧ ∀ d H', Same H0 H' → H' d = some (.xd [("place", .int (i : Nat)), ("service", .str z)]) → E (.ref CI) (some d) H') ∨
  (wr (pio b 0) 0 = none ∧ FineP (pio b 0) ∧ made) ∨
  (wr (pio b 0) 0 = none ∧ (∃ i, .leaf (i + 4) ∈ csOf (pio b 0)) ∧ ∀ d H', Same H0 H' → H' d = some (.xd [("value", .str sNone)]) → E (.ref CU) (some d) H')
theorem fine_two {l : List (Tr × Nat)} (f : FineP l) : ∀ t ∈ csOf l, t = .leaf 2 := fun t ht => by
  rcases csOf_call t ht with e | ⟨i, e⟩
  · exact e
  · subst e
    unfold csOf at ht
    obtain ⟨q, hq, e⟩ := List.mem_map.mp ht
    have g := (f q (List.mem_filter.mp hq).1).1
    rw [e] at g
    exact absurd (of_decide_eq_true (show decide (i + 4 < 4) = true from g)) (by omega)
theorem wr_parts {b : List Tr} (h : wr (pio b 0) 0 = none) : ∀ p ∈ pio b 0, isPartT p.1 = true := fun p hp => (wr_none _ _ h p hp).1
theorem wr_short {b : List Tr} (h : wr (pio b 0) 0 = none) : (pio b 0).length ≤ 12 := by
  have := wr_le _ _ h (by omega)
  omega
def spSys (K : PySem.W.Frag) (C CS CI CU : Addr) : Sp := fun vs H Q E => ∃ (s dx pl sv p r1 r2 c1 c2 : Addr) (b : List Tr) (xs : List V) (H0 : Hp), vs = [.ref s, .ref pl, .ref sv] ∧ H s = some (.ins CS dx []) ∧ H0 s = none ∧ Same H0 H ∧ SysF K C H0 pl sv p r1 r2 c1 c2 b xs ∧
  Outc CI CU H0 sB b (∀ H', Same H0 H' → Q .non H') E
theorem none_of {H H' : Hp} {a : Addr} (e : Same H H') (h : H' a = none) : H a = none := by
  cases q : H a with
  | none => rfl
  | some o => rw [e _ _ q] at h; cases h
theorem ne_obj {H : Hp} {a b : Addr} {o u : HO} (h : H a = some o) (h' : H b = some u) (n : o ≠ u) : a ≠ b := fun e => by
  rw [e, h'] at h
  exact n (Option.some.inj h).symm
theorem g_dc {wi : TI} {g : TG} {tt : TT} {tk tv : TE} {vs : List Nat} {σ : L2.St} {H : Hp} {Q : VK} (q : wi σ H fun J H1 => ∀ D, H1 D = none → ∃ W : Nat → Nat → Hp → Prop, (∃ m, W 0 m (upd H1 D (.dK []))) ∧ ∀ i m H, W i m H →
  (J.stop i H ∧ Q (.ref D) H) ∨ (J.go i H ∧ ∃ Nx : Hp → Prop, (∀ H', Nx H' → ∃ m', m' < m ∧ W (i + 1) m' H') ∧ ∀ x H', J.yld i H x H' → g x (wipe σ vs) H' fun σ2 H2 => wipe σ2 vs = wipe σ vs ∧ tt σ2 H2 fun b H3 =>
    if b = true then tk σ2 H3 fun y H4 => tv σ2 H4 fun z H5 => ∃ kvs k, y = kV k ∧ H5 D = some (.dK kvs) ∧ kvs.length < sizeLine ∧ Nx (upd H5 D (.dK (putK kvs k z))) else Nx H3)) : tDc wi g tt tk tv vs σ H Q := q
abbrev psS : List Str := ["self", "policies", "services"]

theorem ok_sys {C CS CI CU f : Addr} {fd : FuncData} (F : Fun K "__init__" "System.__init__" s_Systeminit f fd) (T : Txt K mg) (TS : STx K CS) (pr_name : Prp P w K mg base 1 C "name" (getSp C "_name"))
    (c_check_policies : Cal P w K mg base 3 "_check_policies" (spChkPol K C)) (c_check_services : Cal P w K mg base 3 "_check_services" (spChkServ K))
    (c_check_parts : CalX P w K mg base 5 "_check_parts" (spChkParts K CI)) (c_check_names : CalX P w K mg base 6 "_check_names" (spChkNames K CU)) (c_block_span : Cal P w K mg base 9 "block_span" (spBS K C 2)) :
    FnOk P w K mg base (CX P w) 10 f fd psS (spSys K C CS CI CU) := by
  refine F.okX sc_Systeminit (fun vs H Q E h => ?_) (fun cdv A outer st H vs Q E hr h => ?_)
  · obtain ⟨s, dx, pl, sv, p, r1, r2, c1, c2, b, xs, H0, rfl, _⟩ := h
    rfl
  · obtain ⟨s, dx, pl, sv, p, r1, r2, c1, c2, b, xs, H0, rfl, hs, s0, S0, F0, hout⟩ := h
    refine ⟨_, (pss_cons (ps_expr (pe_f c_check_policies hr (by decide) (by rfl) (pa_cons (pv 1) pa_nil)))
      (pss_cons (ps_expr (pe_f c_check_services hr (by decide) (by rfl) (pa_cons (pv 2) pa_nil)))
      (pss_cons (ps_fld (pv 0) (pe_dc (own := [("policy", 3)]) (g := gName 3) (by rfl) sc_Systeminit.nd (pi_list (pv 1)) (blkOk_by (own := [("policy", 3)]) (N := N_Systeminit) (sc := defScope s_Systeminit) (by decide +kernel)) (fun _ _ _ _ _ => pg_name (i := 3) sc_Systeminit.nd rfl (Or.inl rfl)) (fun _ _ _ _ _ => pts_nil) (fun _ _ _ _ _ => (pe_pr pr_name hr (by decide) (pv 3))) (fun _ _ _ _ _ => (pv 3))) rfl)
      (pss_cons (ps_fld (pv 0) pe_dnewK rfl)
      (pss_cons (ps_fld (pv 0) pe_dnewK rfl)
      (pss_one (ps_for (passes_of rfl) rfl (pi_list (pv 2)) (pg_tup rfl (pgs_cons (pg_name (i := 4) sc_Systeminit.nd rfl (Or.inl rfl)) (pgs_cons (pg_name (i := 5) sc_Systeminit.nd rfl (Or.inl rfl)) pgs_nil))) (pss_cons (ps_expr (pe_fX c_check_parts (takes_of rfl rfl rfl rfl) hr (by decide) (by rfl) (pa_cons (pv 4) (pa_cons (pv 5) pa_nil))))
      (pss_cons (ps_expr (pe_fX c_check_names (takes_of rfl rfl rfl rfl) hr (by decide) (by rfl) (pa_cons (pv 5) (pa_cons (pe_fld (pv 0) rfl) (pa_cons (pe_fld (pv 0) rfl) pa_nil)))))
      (pss_cons (ps_set (i := 6) sc_Systeminit.nd rfl (Or.inl rfl) (pe_f c_block_span hr (by decide) (by rfl) (pa_cons (pv 5) (pa_cons (pe_fld (pv 0) rfl) pa_nil))))
      (pss_cons (ps_if (pt_cmpR op_gt (pv 6) (pe_gx rfl T.g_MOST_SPAN) (nomark _)) (pss_one ps_never) pss_nil)
      (pss_cons (ps_asg (pv 5) (pg_sub (pe_fld (pv 0) rfl) (pv 4) (set_dict (Nat.lt_of_le_of_lt (Nat.add_le_add_left (by decide : 1 ≤ 64) _) hr.units))))
      (pss_one (ps_asg (pv 6) (pg_sub (pe_fld (pv 0) rfl) (pv 4) (set_dict (Nat.lt_of_le_of_lt (Nat.add_le_add_left (by decide : 1 ≤ 64) _) hr.units))))))))))))))))), ?_⟩
    walk_at "rd"
    have FH := F0.ext S0
    refine ⟨pl, p, rfl, FH.hpl, FH.pol, fun H1 S1 => ?_⟩
    walk_at "rd"
    have FH1 := FH.ext S1
    refine ⟨sv, r1, r2, c1, c2, rfl, FH1.hsv, FH1.t1, FH1.t2, FH1.e1.ty, FH1.e2.ty, fun H2 S2 => ?_⟩
    walk_at "rd"
    have S02 := Same.trans S0 (Same.trans S1 S2)
    have F2 := F0.ext S02
    have h2s := S2 _ _ (S1 _ _ hs)
    refine g_dc (g_ilist ?_)
    walk_at "rd"
    refine ⟨pl, rfl, ⟨_, SqL.of F2.hpl⟩, fun dp hdp => ?_⟩
    refine dc_list (K := K) (a := pl) (xs := [.ref p]) (fun i H' => Same H2 H' ∧ H' dp = some (.dK (if i = 0 then [] else [(Sum.inr sP, .ref p)]))) ⟨same_new hdp, by rw [upd_same]; rfl⟩ (fun i H' _ e => SqL.of (e.1 _ _ F2.hpl)) ?_ ?_
    · rintro i x H3 hx ⟨S3, h3⟩
      cases i with
      | succ i => simp at hx
      | zero =>
        cases hx
        obtain ⟨dx', pp, ga, hpp, _⟩ := F2.pol.ext S3
        walk_at "rd"
        refine ⟨rfl, ?_⟩
        walk_at "rd"
        refine ⟨p, dx', _, rfl, hpp, p, dx', _, _, rfl, hpp, lk1, ?_⟩
        walk_at "rd"
        exact ⟨[], Sum.inr sP, rfl, h3, by show 0 < sizeLine; decide, same_upd hdp S3, by rw [upd_same]; rfl⟩
    · rintro H3 ⟨S3, h3⟩
      have p0 : H0 dp = none := none_of S02 hdp
      have nsp : s ≠ dp := fun z => by rw [← z, h2s] at hdp; cases hdp
      have h3 : H3 dp = some (.dK [(Sum.inr sP, .ref p)]) := h3
      walk_at "rd"
      refine ⟨s, CS, dx, _, rfl, S3 _ _ h2s, TS.cl, TS.n1, by show 0 < 1000; decide, ?_⟩
      have S03 : Same H0 (upd H3 s (.ins CS dx (putF "_policies" (.ref dp) []))) := same_upd s0 (Same.trans S02 S3)
      have h4s : upd H3 s (.ins CS dx (putF "_policies" (.ref dp) [])) s = some (.ins CS dx (putF "_policies" (.ref dp) [])) := upd_same
      have h4p : upd H3 s (.ins CS dx (putF "_policies" (.ref dp) [])) dp = some (.dK [(Sum.inr sP, .ref p)]) := by rw [upd_ne nsp.symm]; exact h3
      generalize upd H3 s (.ins CS dx (putF "_policies" (.ref dp) [])) = H4 at S03 h4s h4p ⊢
      walk_at "rd"
      refine fun db hdb => ?_
      have b0 : H0 db = none := none_of S03 hdb
      have nsb : s ≠ db := fun z => by rw [← z, h4s] at hdb; cases hdb
      have npb : dp ≠ db := fun z => by rw [← z, h4p] at hdb; cases hdb
      have S5 : Same H4 (upd H4 db (.dK [])) := same_new hdb
      have h5b : upd H4 db (.dK []) db = some (.dK []) := upd_same
      generalize upd H4 db (.dK []) = H5 at S5 h5b ⊢
      walk_at "rd"
      refine ⟨s, CS, dx, _, rfl, S5 _ _ h4s, TS.cl, TS.n2, ltP 1 (lenP (Nat.zero_le _)) (by decide), ?_⟩
      have S06 : Same H0 (upd H5 s (.ins CS dx (putF "_blocks" (.ref db) (putF "_policies" (.ref dp) [])))) := same_upd s0 (Same.trans S03 S5)
      have h6s : upd H5 s (.ins CS dx (putF "_blocks" (.ref db) (putF "_policies" (.ref dp) []))) s = some (.ins CS dx (putF "_blocks" (.ref db) (putF "_policies" (.ref dp) []))) := upd_same
      have h6p : upd H5 s (.ins CS dx (putF "_blocks" (.ref db) (putF "_policies" (.ref dp) []))) dp = some (.dK [(Sum.inr sP, .ref p)]) := by rw [upd_ne nsp.symm]; exact S5 _ _ h4p
      have h6b : upd H5 s (.ins CS dx (putF "_blocks" (.ref db) (putF "_policies" (.ref dp) []))) db = some (.dK []) := by rw [upd_ne nsb.symm]; exact h5b
      generalize upd H5 s (.ins CS dx (putF "_blocks" (.ref db) (putF "_policies" (.ref dp) []))) = H6 at S06 h6s h6p h6b ⊢
      clear h4s h4p S5 h5b S03
      walk_at "rd"
      refine fun ds hds => ?_
      have d0 : H0 ds = none := none_of S06 hds
      have nsd : s ≠ ds := fun z => by rw [← z, h6s] at hds; cases hds
      have npd : dp ≠ ds := fun z => by rw [← z, h6p] at hds; cases hds
      have nbd : db ≠ ds := fun z => by rw [← z, h6b] at hds; cases hds
      have S7 : Same H6 (upd H6 ds (.dK [])) := same_new hds
      have h7d : upd H6 ds (.dK []) ds = some (.dK []) := upd_same
      generalize upd H6 ds (.dK []) = H7 at S7 h7d ⊢
      walk_at "rd"
      refine ⟨s, CS, dx, _, rfl, S7 _ _ h6s, TS.cl, TS.n3, ltP 2 (lenP (lenP (Nat.zero_le _))) (by decide), ?_⟩
      rw [sf_all]
      have S08 : Same H0 (upd H7 s (.ins CS dx (sfs dp db ds))) := same_upd s0 (Same.trans S06 S7)
      have h8s : upd H7 s (.ins CS dx (sfs dp db ds)) s = some (.ins CS dx (sfs dp db ds)) := upd_same
      have h8p : upd H7 s (.ins CS dx (sfs dp db ds)) dp = some (.dK [(Sum.inr sP, .ref p)]) := by rw [upd_ne nsp.symm]; exact S7 _ _ h6p
      have h8b : upd H7 s (.ins CS dx (sfs dp db ds)) db = some (.dK []) := by rw [upd_ne nsb.symm]; exact S7 _ _ h6b
      have h8d : upd H7 s (.ins CS dx (sfs dp db ds)) ds = some (.dK []) := by rw [upd_ne nsd.symm]; exact h7d
      have eq8 : (HO.ins CS dx [("_policies", .ref dp), ("_blocks", .ref db), ("_spans", .ref ds)]) = .ins CS dx (sfs dp db ds) := rfl
      rw [eq8]
      generalize upd H7 s (.ins CS dx (sfs dp db ds)) = H8 at S08 h8s h8p h8b h8d ⊢
      clear h6s h6p h6b S06 S7 h7d eq8
      dsimp only
      refine g_for (g_ilist ?_)
      walk_at "rd"
      refine ⟨sv, rfl, ⟨_, SqL.of (S08 _ _ F0.hsv)⟩, ?_⟩
      refine for_list (K := K) (a := sv) (xs := [.ref r1, .ref r2]) (fun i σ H' => ∃ (o3 o4 o5 o6 : Option V) (kA kS : List (Key × V)), σ = [some (.ref s), some (.ref pl), some (.ref sv), o3, o4, o5, o6] ∧ Same H0 H' ∧ H' s = some (.ins CS dx (sfs dp db ds)) ∧ H' dp = some (.dK [(Sum.inr sP, .ref p)]) ∧
        H' db = some (.dK kA) ∧ H' ds = some (.dK kS) ∧ kA.length ≤ i ∧ kS.length ≤ i ∧ (i = 0 → kA = []) ∧ (i = 1 → kA = [(Sum.inr sA, .ref c1)]) ∧ (i = 2 → ∀ H', Same H0 H' → Q .non H')) ⟨_, _, _, _, [], [], rfl, S08, h8s, h8p, h8b, h8d, by simp, by simp, fun _ => rfl, fun z => absurd z (by decide), fun z => absurd z (by decide)⟩ (fun i σ H' _ ⟨_, _, _, _, _, _, _, e, _⟩ => SqL.of (e _ _ F0.hsv)) ?_ ?_
      · rintro i x σ H4 hx ⟨o3, o4, o5, o6, kA, kS, rfl, S4, h4s, h4p, h4b, h4d, lA, lS, k0, k1, _⟩
        have key : ∃ (r c : Addr) (z : Str) (bb : List Tr) (ys : List V), x = .ref r ∧ TupV K H0 r [.str z, .ref c] ∧ TupV K H0 c ys ∧ RepB K H0 bb ys ∧ (pio bb 0).length ≤ 1000 ∧ Outc CI CU H0 z bb (i = 1 → ∀ H', Same H0 H' → Q .non H') E ∧
            valV kA (Sum.inr sNone) = none ∧ (.leaf 2 ∈ csOf (pio bb 0) → (valV kA (Sum.inr sA)).isSome = true) ∧ (i + 1 = 1 → putK kA (Sum.inr z) (.ref c) = [(Sum.inr sA, .ref c1)]) ∧ i < 2 := by
          match i, hx with
          | 0, hx =>
            cases hx
            rw [k0 rfl]
            refine ⟨r1, c1, sA, [], [], rfl, F0.t1, F0.e1, by unfold RepB; rfl, by rw [pio_nil]; simp, .inr (.inl ⟨by rw [pio_nil]; rfl, (fun q hq => by rw [pio_nil] at hq; cases hq), (fun z => absurd z (by decide))⟩), rfl, fun z => ?_, fun _ => rfl, by decide⟩
            rw [pio_nil] at z
            cases z
          | 1, hx =>
            cases hx
            rw [k1 rfl]
            refine ⟨r2, c2, sB, b, xs, rfl, F0.t2, F0.e2, F0.rb, F0.hl, ?_, rfl, fun _ => rfl, fun z => absurd z (by decide), by decide⟩
            rcases hout with h | ⟨a1, a2, a3⟩ | h
            · exact .inl h
            · exact .inr (.inl ⟨a1, a2, fun _ => a3⟩)
            · exact .inr (.inr h)
          | i + 2, hx => simp at hx
        obtain ⟨r, c, z, bb, ys, rfl, tr, tc, rb, hl, hc, vN, vA, fin, hi⟩ := key
        have F4 : TupV K H4 c ys ∧ RepB K H4 bb ys := ⟨TupV.ext S4 tc, RepB.kp (Kp.of S4) _ _ rb⟩
        refine g_tup2' rfl (TupV.ext S4 tr).sq ?_
        walk_at "rd"
        refine g_callS ?_
        walk_at "rd"
        refine ⟨z, c, bb, ys, rfl, F4.1, F4.2, hl, ?_⟩
        rcases hc with ⟨n, hw, q⟩ | ⟨hw, fine, q⟩ | ⟨hw, hex, q⟩
        · exact .inr ⟨n, hw, fun d H' S hd => q d H' (Same.trans S4 S) hd⟩
        · refine .inl ⟨hw, fun H5 S5 => ?_⟩
          walk_at "rd"
          refine g_callS ?_
          walk_at "rd"
          have S45 := Same.trans S4 S5
          refine ⟨s, CS, dx, _, _, rfl, S5 _ _ h4s, TS.cl, TS.n2, slk2, ?_⟩
          walk_at "rd"
          refine ⟨s, CS, dx, _, _, rfl, S5 _ _ h4s, TS.cl, TS.n1, slk1, ?_⟩
          walk_at "rd"
          refine ⟨c, db, dp, kA, _, bb, ys, rfl, TupV.ext S5 F4.1, RepB.kp (Kp.of S5) _ _ F4.2, hl, wr_parts hw, S5 _ _ h4b, S5 _ _ h4p, rfl, vN, fun hm => vA hm, .inl ⟨fine_two fine, fun H6 S6 => ?_⟩⟩
          have S6' := Same.trans S5 S6
          walk_at "rd"
          refine ⟨s, CS, dx, _, _, rfl, S6' _ _ h4s, TS.cl, TS.n1, slk1, ?_⟩
          walk_at "rd"
          have S06 := Same.trans S4 S6'
          refine ⟨c, dp, bb, ys, 0, rfl, TupV.ext S6' F4.1, RepB.kp (Kp.of S6') _ _ F4.2, by omega, fine, hl, ⟨p, S6' _ _ h4p, F0.pol.ext S06⟩, fun H7 S7 => ?_⟩
          have S7' := Same.trans S6' S7
          have S07 := Same.trans S4 S7'
          walk_at "rd"
          have sle : spanB bb ≤ 400 := by
            have h1 := (spB_le bb 0 fine).1
            have h2 := wr_short hw
            omega
          rw [show decide ((400 : Int) < spanB bb) = false from decide_eq_false (by omega)]
          walk_at "rd"
          refine ⟨s, CS, dx, _, _, rfl, S7' _ _ h4s, TS.cl, TS.n2, slk2, ?_⟩
          walk_at "rd"
          refine ⟨db, _, rfl, DPut.k (k := Sum.inr z) (S7' _ _ h4b) (small1000 (by omega)), ?_⟩
          walk_at "rd"
          have g7s : upd H7 db (.dK (putK kA (Sum.inr z) (.ref c))) s = some (.ins CS dx (sfs dp db ds)) := by
            rw [upd_ne nsb]; exact S7' _ _ h4s
          refine ⟨s, CS, dx, _, _, rfl, g7s, TS.cl, TS.n3, slk3, ?_⟩
          walk_at "rd"
          have g7d : upd H7 db (.dK (putK kA (Sum.inr z) (.ref c))) ds = some (.dK kS) := by
            rw [upd_ne nbd.symm]; exact S7' _ _ h4d
          refine ⟨ds, _, rfl, DPut.k (k := Sum.inr z) g7d (small1000 (by omega)), ?_⟩
          refine ⟨_, _, _, _, putK kA (Sum.inr z) (.ref c), putK kS (Sum.inr z) (.int (spanB bb)), rfl, same_upd d0 (same_upd b0 S07), ?_, ?_, ?_, ?_, ?_, ?_, ?_, ?_, ?_⟩
          · rw [upd_ne nsd, upd_ne nsb]; exact S7' _ _ h4s
          · rw [upd_ne npd, upd_ne npb]; exact S7' _ _ h4p
          · rw [upd_ne nbd, upd_same]
          · rw [upd_same]
          · exact Nat.le_trans (length_putK ..) (by omega)
          · exact Nat.le_trans (length_putK ..) (by omega)
          · exact fun e => absurd e (by omega)
          · exact fin
          · exact fun e => q (by omega)
        · refine .inl ⟨hw, fun H5 S5 => ?_⟩
          walk_at "rd"
          refine g_callS ?_
          walk_at "rd"
          refine ⟨s, CS, dx, _, _, rfl, S5 _ _ h4s, TS.cl, TS.n2, slk2, ?_⟩
          walk_at "rd"
          refine ⟨s, CS, dx, _, _, rfl, S5 _ _ h4s, TS.cl, TS.n1, slk1, ?_⟩
          walk_at "rd"
          refine ⟨c, db, dp, kA, _, bb, ys, rfl, TupV.ext S5 F4.1, RepB.kp (Kp.of S5) _ _ F4.2, hl, wr_parts hw, S5 _ _ h4b, S5 _ _ h4p, rfl, vN, fun hm => vA hm, .inr ⟨hex, fun d H' S hd => ?_⟩⟩
          exact q d H' (Same.trans S4 (Same.trans S5 S)) hd
      · rintro σ H4 ⟨o3, o4, o5, o6, kA, kS, rfl, S4, h4s, h4p, h4b, h4d, lA, lS, k0, k1, k2⟩
        walk_at "rd"
        exact k2 rfl _ S4
end
end K2

/-! a class made without keywords within a try -/
namespace Mx
open PySem PySem.Spec PyProof.Rows L2 Mc
section
variable {X : Cx} {CX : CXT} {k : Nat} {f C : Addr} {fd : FuncData} {ps : List Str} {sp : Sp} {E : L2.St → XK} {x : Str} {p pos : Pos} {e : Expr} {es : List Expr} {t : TA}
def tMakeS (C : Addr) (sp : Sp) (E : L2.St → XK) (t : TA) : TE := fun σ H Q => tMake C sp [] (E σ) t σ H Q
theorem run_makeS {pl : List (Addr × Obj)} {τ : L2.St} {G : Hp} {z : Shared} {R : VK} {EE : XK} {ua : List Value} {va : List V} (M : Mk X.K C f) (F : FnOk X.prog X.w X.K X.mg X.base CX k f fd ps sp) (room : Room (k + 1) X.A) (bd : Binds X.K fd ps []) (pass : PassesAt CX X τ EE)
    (I : Inv X pl τ G z) (ra : Vals va ua)
    (want : ∀ a da, G a = none → G da = none → da ≠ a → sp (.ref a :: va) (upd (upd G da (.own a)) a (.ins C da [])) (fun v G2 => v = .non ∧ R (.ref a) G2) EE) : wpAny (model X.prog X.w) X.A (call (.ref C) ua) (EP X pl τ R) X.xe z := by
  have q := want (z.heap.objs.size + 1) _ (I.hok.fresh (Nat.le_succ _)) (I.hok.fresh (Nat.le_refl _)) (Nat.ne_of_lt (Nat.lt_succ_self _))
  have J := Inv.made (C := C) I
  have rs : Vals (V.ref (z.heap.objs.size + 1) :: va) (Value.ref (z.heap.objs.size + 1) :: ua) := .cons rfl ra
  have hl : (Value.ref (z.heap.objs.size + 1) :: ua).length = ps.length := by
    rw [← rs.length]
    exact F.len _ _ _ _ q
  have bb := bd _ (Value.ref (z.heap.objs.size + 1) :: ua) J.kIn (by rw [List.append_nil]; exact hl)
  rw [List.append_nil] at bb
  have runs := F.run _ X.stack _ _ ⟨Value.ref (z.heap.objs.size + 1) :: ua, []⟩ _ _ _ EE (room.make C ua []) (J.env0.make C ua []) bb rs q
  refine wpAny_call (make_map (f := f) I.kIn M.makes M.init (beq_iff_eq.mp M.fn) (codeAny_mono runs fun res z2 hz => ?_))
  match res, hz with
  | .error e, hz => exact pass pl _ _ e z2 J hz
  | .ok (.ret u), hz =>
    obtain ⟨v, G2, J2, rv, ev, qq⟩ := J.after hz
    rw [ev] at rv
    exact ⟨rv, V.ref (z.heap.objs.size + 1), G2, J2, rfl, qq⟩
theorem pe_makeS (M : Mk X.K C f) (F : FnOk X.prog X.w X.K X.mg X.base CX k f fd ps sp) (room : Room (k + 1) X.A) (hg : Gl X x) (hm : X.mg x = some (.ref C)) (bd : Binds X.K fd ps []) (pass : ∀ σ, PassesAt CX X σ (E σ)) (pa : PA X (e :: es) t)
    (h3 : (x == ("__debug__" : Str)) = false := by decide) (he : starEach (e :: es) X.env = (false, eval e X.env) :: starEach es X.env := by rfl) (hpl : (backTo pos (starEach es X.env)).any (·.1) = false := by rfl) :
    PE X (.Call (.Name x p) (e :: es) [] pos) (tMakeS C sp E t) :=
  ⟨fun pl z τ G R I q => wpAny_Call_Name_kw (ld_glob I hg hm (PySem.W.callWith_K (h₀ := X.base) I.ok.mod.kin M.kp (thn (pa.run pos pl z τ G _ I q) fun ua z1 ⟨va, G1, I1, ra, q1⟩ => ⟨I1.kIn, by
    refine run_makeS M F room bd (pass τ) I1 ra fun a da h1 h2 h3 => ?_
    have q2 := q1 a da h1 h2 h3
    rw [List.append_nil] at q2
    exact q2⟩) he hpl) h3)⟩
end
end Mx

namespace K2
open PySem PySem.Spec PyProof.Rows L2 Mc Mx
section
variable {P : Program} {w : World} {K : PySem.W.Frag} {mg : Str → Option Value} {base : Heap}
local macro_rules | `(tactic| walk_at "rd1") => `(tactic| first
  | with_reducible refine g_seq ?_
  | with_reducible refine g_asg ?_
  | with_reducible refine g_name ?_
  | with_reducible refine g_c ?_
  | with_reducible refine g_op ?_
  | with_reducible refine g_ifS ?_
  | with_reducible refine g_if ?_
  | with_reducible refine g_test ?_
  | with_reducible refine g_B ?_
  | with_reducible refine g_bl ?_
  | with_reducible refine g_blV ?_
  | with_reducible refine g_not ?_
  | with_reducible refine g_and ?_
  | with_reducible refine g_or ?_
  | with_reducible refine g_notV ?_
  | with_reducible refine g_andV ?_
  | with_reducible refine g_orV ?_
  | with_reducible refine g_ret ?_
  | with_reducible refine g_drop ?_
  | with_reducible refine g_next ?_
  | with_reducible refine g_retN ?_
  | with_reducible refine g_call ?_
  | with_reducible refine g_cb ?_
  | with_reducible refine g_cons ?_
  | with_reducible refine g_nil ?_
  | with_reducible refine g_tup ?_
  | with_reducible refine g_lst ?_
  | with_reducible refine g_prop ?_
  | with_reducible refine g_fld ?_
  | with_reducible refine g_meth ?_
  | with_reducible refine g_chain ?_
  | with_reducible refine g_yes ?_
  | with_reducible refine g_make ?_
  | with_reducible refine g_makeK ?_
  | with_reducible refine g_gsub ?_
  | with_reducible refine g_sfld ?_
  | with_reducible refine g_un ?_
  | with_reducible refine g_bm ?_
  | with_reducible refine g_iteT ?_
  | with_reducible refine g_iteF ?_
  | with_reducible refine g_I0 ?_
  | with_reducible refine g_add ?_
  | with_reducible refine g_sub ?_
  | ((with_reducible refine' g_var ?hv ?_); (case hv => rfl))
  | ((with_reducible refine g_eq ?hv ?_); (case hv => rfl))
  | ((with_reducible refine g_ne ?hv ?_); (case hv => rfl)))
local macro_rules | `(tactic| walk_at "rd") => `(tactic| repeat (walk_at "rd1"))

local macro_rules | `(tactic| walk_at "ty") => `(tactic| first | exact .non | exact .bl _ | exact .int _ | exact .str _ | exact .lst (by assumption) | exact .tup (by assumption) | exact .dK (by assumption) | exact .kTup (by assumption) (by assumption))
local macro_rules | `(tactic| walk_at "isiF") => `(tactic| refine g_isi (by walk_at "ty") (b := false) (by decide +kernel) ?_)
local macro_rules | `(tactic| walk_at "isiT") => `(tactic| refine g_isi (by walk_at "ty") (b := true) (by decide +kernel) ?_)

theorem lstG_same {H : Hp} {xs : List V} {Q : VK} (hl : xs.length ≤ 1000) (k : ∀ a H', H a = none → Same H H' → H' a = some (.lst xs) → Q (.ref a) H') : LstG Q xs H :=
  ⟨sz_le hl, fun p hp => k p _ hp (same_new hp) upd_same⟩
theorem same_made {H H1 : Hp} {x dx C : Addr} (nx : H x = none) (nd : H dx = none) (k : ∀ b o, (upd (upd H dx (.own x)) x (.ins C dx [])) b = some o → b ≠ x → H1 b = some o) : Same H H1 := fun b o e =>
  k b o (by rw [upd_ne (ne_of_none e nx), upd_ne (ne_of_none e nd)]; exact e) (ne_of_none e nx)
theorem same_ins {H : Hp} {x dx C : Addr} (nx : H x = none) (nd : H dx = none) : Same H (upd (upd H dx (.own x)) x (.ins C dx [])) := fun b o e => by
  rw [upd_ne (ne_of_none e nx), upd_ne (ne_of_none e nd)]; exact e
theorem g_mkS {C : Addr} {sp : Sp} {E : L2.St → XK} {t : TA} {σ : L2.St} {H : Hp} {Q : VK} (q : tMake C sp [] (E σ) t σ H Q) : tMakeS C sp E t σ H Q := q
theorem g_xf {a : Addr} {cls : Value} {d : Option Addr} {C : Addr} {f : Str} {te : TE} {σ : L2.St} {H : Hp} {Q : VK} (q : te σ H fun x H1 => x = .ref a ∧ cls = .ref C ∧ ∃ (dd : Addr) (fs : List (Str × V)) (v : V), d = some dd ∧ H1 dd = some (.xd fs) ∧ fs.lookup f = some v ∧ Q v H1) : tXf a cls d C f te σ H Q := q
def sMade : Str := "made"
def spTold (K : PySem.W.Frag) : Sp := fun vs H Q _ => ∃ (a : Addr) (b : List Tr) (xs : List V), vs = [.ref a] ∧ TupV K H a xs ∧ RepB K H b xs ∧ (pio b 0).length ≤ 1000 ∧
  ((∃ i, wr (pio b 0) 0 = some i ∧ ∀ l H', Same H H' → H' l = some (.lst [.str sB, .int (i : Nat)]) → Q (.ref l) H') ∨
   (wr (pio b 0) 0 = none ∧ FineP (pio b 0) ∧ ∀ H', Same H H' → Q (.str sMade) H') ∨
   (wr (pio b 0) 0 = none ∧ (∃ i, .leaf (i + 4) ∈ csOf (pio b 0)) ∧ ∀ H', Same H H' → Q (.str sNone) H'))
theorem ok_told {C CS CI CU fI fS fP fU go : Addr} {fdI fdS fdP fdU : FuncData} {ds0 : List Value} (D : Def K mg "_law_told" s_law_told ["_law_block"]) (M : Mk K C fI) (GI : FnOk P w K mg base CX0 6 fI fdI psP (spInit K C)) (gP : mg "Policy" = some (.ref C))
    (b0 : Binds K fdI psP ds0) (v0 : Vals [.int 1, .non, .non, .bl false, .ref go] ds0) (tgo : ∀ H, TupV K H go En.go.vs) (MS : Mk K CS fS) (GS : FnOk P w K mg base (CX P w) 10 fS fdS psS (spSys K C CS CI CU)) (gS : mg "System" = some (.ref CS)) (bS : Binds K fdS psS [])
    (EI : ExK P w K mg base "InvalidPart" CI fP fdP ["self", "service", "place"] (spEx2 CI)) (EU : ExK P w K mg base "UnknownName" CU fU fdU ["self", "value"] (spEx CU "value")) (XI : XfC K CI) (XU : XfC K CU)
    (nfI1 : PySem.W.findIn K (.ref CI) "service" = some none) (nfI2 : PySem.W.findIn K (.ref CI) "place" = some none) (nfU : PySem.W.findIn K (.ref CU) "value" = some none)
    (xII : PySem.W.exmOne K (.ref CI) (.ref CI) = some true) (xUI : PySem.W.exmOne K (.ref CU) (.ref CI) = some false) (xUU : PySem.W.exmOne K (.ref CU) (.ref CU) = some true) : Cal P w K mg base 12 "_law_told" (spTold K) := by
  refine cal_of D sc_law_told (fun vs H Q E h => ?_) (fun f cdv A outer st H vs Q E hr h => ?_)
  · obtain ⟨a, b, xs, rfl, _⟩ := h
    rfl
  · obtain ⟨a, b, xs, rfl, ta, rb, hl, h⟩ := h
    have hrI : Room 7 (A.deeper (envOfC "_law_told" (defScope s_law_told) st.heap.objs.size f cdv)) := hr.mono (by decide)
    have hrS : Room 11 (A.deeper (envOfC "_law_told" (defScope s_law_told) st.heap.objs.size f cdv)) := hr
    refine ⟨_, (pss_one (ps_try_mas rfl rfl sc_law_told.nd takes_none5 (fun W pn xe tk _ => (pss_cons (ps_expr (pe_makeS MS GS hrS (by rfl) gS bS (fun σ => passAt tk σ) (pa_cons (pe_lst (pa_cons (pe_make M GI hrI (by rfl) gP b0 v0 pass0 (pa_cons pe_str (pa_cons pe_int pa_nil))) pa_nil)) (pa_cons (pe_lst (pa_cons (pe_tup (pa_cons pe_str (pa_cons (pe_tup pa_nil) pa_nil))) (pa_cons (pe_tup (pa_cons pe_str (pa_cons (pv 0) pa_nil))) pa_nil))) pa_nil))))
      (pss_one (ps_ret pe_str)))) (.cons (i := 1) rfl rfl ⟨rfl, by decide, .inl EI.gl⟩ (fun a oe cls d pn hz hf => (pss_one (ps_ret (pe_lst (pa_cons (pe_xf XI nfI1 hz hf (pv 1)) (pa_cons (pe_xf XI nfI2 hz hf (pv 1)) pa_nil)))))) (.cons (i := 1) rfl rfl ⟨rfl, by decide, .inl EU.gl⟩ (fun a oe cls d pn hz hf => (pss_one (ps_ret (pe_xf XU nfU hz hf (pv 1))))) .nil)))), ?_⟩
    walk_at "rd"
    refine g_mkS ?_
    walk_at "rd"
    intro x dx nx nd ne
    refine ⟨x, dx, polP, .non, go, rfl, polP_ok, upd_same, tgo _, .inl ⟨rfl, fun _ => rfl⟩, fun H1 pl1 fr1 => ⟨rfl, ?_⟩⟩
    have S1 : Same H H1 := same_made nx nd fr1
    walk_at "rd"
    refine lstG_same (by exact Nat.le_of_ble_eq_true rfl) fun pl H2 _ S2 h2 => ?_
    walk_at "rd"
    refine tupG_same (by exact Nat.le_of_ble_eq_true rfl) fun c1 H3 _ S3 h3 => ?_
    walk_at "rd"
    refine tupG_same (by exact Nat.le_of_ble_eq_true rfl) fun r1 H4 _ S4 h4 => ?_
    walk_at "rd"
    refine tupG_same (by exact Nat.le_of_ble_eq_true rfl) fun r2 H5 _ S5 h5 => ?_
    walk_at "rd"
    refine lstG_same (by exact Nat.le_of_ble_eq_true rfl) fun sv H6 _ S6 h6 => ?_
    have S26 := Same.trans S3 (Same.trans S4 (Same.trans S5 S6))
    have S06 := Same.trans S1 (Same.trans S2 S26)
    have F6 : SysF K C H6 pl sv x r1 r2 c1 a b xs :=
      ⟨S26 _ _ h2, pl1.ext (Same.trans S2 S26), h6, TupV.ext (Same.trans S5 S6) ⟨.tup h4, SqT.of h4⟩, TupV.ext S6 ⟨.tup h5, SqT.of h5⟩, TupV.ext (Same.trans S4 (Same.trans S5 S6)) ⟨.tup h3, SqT.of h3⟩, TupV.ext S06 ta, RepB.kp (Kp.of S06) _ _ rb, hl⟩
    walk_at "rd"
    intro y dy ny ndy ney
    have SY : Same H6 _ := same_ins (C := CS) ny ndy
    refine ⟨y, dy, pl, sv, x, r1, r2, c1, a, b, xs, H6, rfl, upd_same, ny, SY, F6, ?_⟩
    rcases h with ⟨i, hw, q⟩ | ⟨hw, fine, q⟩ | ⟨hw, hex, q⟩
    · refine .inl ⟨i, hw, fun d H' S hd => ?_⟩
      refine ⟨true, xII, fun _ a' ha => ?_, fun z => nomatch z⟩
      walk_at "rd"
      refine g_xf ?_
      walk_at "rd"
      refine ⟨rfl, rfl, d, _, .str sB, rfl, hd, rfl, ?_⟩
      walk_at "rd"
      refine g_xf ?_
      walk_at "rd"
      refine ⟨rfl, rfl, d, _, .int (i : Nat), rfl, hd, rfl, ?_⟩
      walk_at "rd"
      refine lstG_same (by exact Nat.le_of_ble_eq_true rfl) fun l H8 _ S8 h8 => ?_
      exact q l H8 (Same.trans S06 (Same.trans S S8)) h8
    · refine .inr (.inl ⟨hw, fine, fun H' S => ⟨rfl, ?_⟩⟩)
      walk_at "rd"
      exact q H' (Same.trans S06 S)
    · refine .inr (.inr ⟨hw, hex, fun d H' S hd => ?_⟩)
      refine ⟨false, xUI, (fun z => nomatch z), fun _ => ⟨true, xUU, fun _ a' ha => ?_, (fun z => nomatch z)⟩⟩
      walk_at "rd"
      refine g_xf ?_
      walk_at "rd"
      refine ⟨rfl, rfl, d, _, .str sNone, rfl, hd, rfl, ?_⟩
      walk_at "rd"
      exact q H' (Same.trans S06 S)
end
end K2

namespace K2
open PySem PySem.Spec PyProof.Rows L2 Mc Mx
section
variable {P : Program} {w : World} {K : PySem.W.Frag} {mg : Str → Option Value} {base : Heap}
local macro_rules | `(tactic| walk_at "rd1") => `(tactic| first
  | with_reducible refine g_seq ?_
  | with_reducible refine g_asg ?_
  | with_reducible refine g_name ?_
  | with_reducible refine g_c ?_
  | with_reducible refine g_op ?_
  | with_reducible refine g_ifS ?_
  | with_reducible refine g_if ?_
  | with_reducible refine g_test ?_
  | with_reducible refine g_B ?_
  | with_reducible refine g_bl ?_
  | with_reducible refine g_blV ?_
  | with_reducible refine g_not ?_
  | with_reducible refine g_and ?_
  | with_reducible refine g_or ?_
  | with_reducible refine g_notV ?_
  | with_reducible refine g_andV ?_
  | with_reducible refine g_orV ?_
  | with_reducible refine g_ret ?_
  | with_reducible refine g_drop ?_
  | with_reducible refine g_next ?_
  | with_reducible refine g_retN ?_
  | with_reducible refine g_call ?_
  | with_reducible refine g_cb ?_
  | with_reducible refine g_cons ?_
  | with_reducible refine g_nil ?_
  | with_reducible refine g_tup ?_
  | with_reducible refine g_lst ?_
  | with_reducible refine g_prop ?_
  | with_reducible refine g_fld ?_
  | with_reducible refine g_meth ?_
  | with_reducible refine g_chain ?_
  | with_reducible refine g_yes ?_
  | with_reducible refine g_make ?_
  | with_reducible refine g_makeK ?_
  | with_reducible refine g_gsub ?_
  | with_reducible refine g_sfld ?_
  | with_reducible refine g_un ?_
  | with_reducible refine g_bm ?_
  | with_reducible refine g_iteT ?_
  | with_reducible refine g_iteF ?_
  | with_reducible refine g_I0 ?_
  | with_reducible refine g_add ?_
  | with_reducible refine g_sub ?_
  | ((with_reducible refine' g_var ?hv ?_); (case hv => rfl))
  | ((with_reducible refine g_eq ?hv ?_); (case hv => rfl))
  | ((with_reducible refine g_ne ?hv ?_); (case hv => rfl)))
local macro_rules | `(tactic| walk_at "rd") => `(tactic| repeat (walk_at "rd1"))

local macro_rules | `(tactic| walk_at "ty") => `(tactic| first | exact .non | exact .bl _ | exact .int _ | exact .str _ | exact .lst (by assumption) | exact .tup (by assumption) | exact .dK (by assumption) | exact .kTup (by assumption) (by assumption))
local macro_rules | `(tactic| walk_at "isiF") => `(tactic| refine g_isi (by walk_at "ty") (b := false) (by decide +kernel) ?_)
local macro_rules | `(tactic| walk_at "isiT") => `(tactic| refine g_isi (by walk_at "ty") (b := true) (by decide +kernel) ?_)

def KS (K : PySem.W.Frag) (H : Hp) (l : List (V × String)) : Prop := KL K H l ∧ Short l
theorem ks_nil {H : Hp} : KS K H [] := ⟨(fun _ h => by cases h), (fun _ h => by cases h)⟩
theorem ks_cons {H : Hp} {v : V} {n : String} {l : List (V × String)} (ty : Mc.TyB K H v n) (sh : ∀ z, v = .str z → z.length ≤ 1000) (t : KS K H l) : KS K H ((v, n) :: l) :=
  ⟨(fun q hq => by rcases List.mem_cons.mp hq with e | e; (rw [e]; exact ty); exact t.1 q e), (fun q hq => by rcases List.mem_cons.mp hq with e | e; (rw [e]; exact sh); exact t.2 q e)⟩
theorem ks_n {H : Hp} {l : List (V × String)} (t : KS K H l) : KS K H ((.non, "NoneType") :: l) := ks_cons .non (fun _ z => by cases z) t
theorem ks_b {H : Hp} {b : Bool} {l : List (V × String)} (t : KS K H l) : KS K H ((.bl b, "bool") :: l) := ks_cons (.bl b) (fun _ z => by cases z) t
theorem ks_i {H : Hp} {i : Int} {l : List (V × String)} (t : KS K H l) : KS K H ((.int i, "int") :: l) := ks_cons (.int i) (fun _ z => by cases z) t
theorem ks_s {H : Hp} {z : Str} {l : List (V × String)} (h : z.length ≤ 1000) (t : KS K H l) : KS K H ((.str z, "str") :: l) := ks_cons (.str z) (fun _ e => by cases e; exact h) t
theorem ks_l {H : Hp} {a : Addr} {xs : List V} {l : List (V × String)} (h : H a = some (.lst xs)) (t : KS K H l) : KS K H ((.ref a, "list") :: l) := ks_cons (.lst h) (fun _ z => by cases z) t
theorem ks_t {H : Hp} {a : Addr} {xs : List V} {l : List (V × String)} (h : H a = some (.tup xs)) (t : KS K H l) : KS K H ((.ref a, "tuple") :: l) := ks_cons (.tup h) (fun _ z => by cases z) t
theorem odd_t {H : Hp} {a : Addr} {l : List (V × String)} (h : H a = some (.tup (l.map (·.1)))) (k : KS K H l) (p : partB l = false) (q : holdsB l = false) : OddV K H (.ref a) := .inr ⟨a, l, rfl, ⟨.tup h, SqT.of h⟩, k.1, k.2, p, q⟩
def Odds (K : PySem.W.Frag) (H : Hp) (l : List V) : Prop := ∀ v ∈ l, OddV K H v
theorem od_nil {H : Hp} : Odds K H [] := fun _ h => by cases h
theorem od_cons {H : Hp} {v : V} {l : List V} (h : OddV K H v) (t : Odds K H l) : Odds K H (v :: l) := fun u hu => by rcases List.mem_cons.mp hu with e | e; (rw [e]; exact h); exact t u e
theorem Odds.ext {H H' : Hp} {l : List V} (t : Odds K H l) (e : Same H H') : Odds K H' l := fun u hu => OddV.kp (Kp.of e) (t u hu)
theorem od_rev {H : Hp} {l : List V} (t : Odds K H l) : Odds K H l.reverse := fun u hu => t u (List.mem_reverse.mp hu)
theorem od_app {H : Hp} {l m : List V} (t : Odds K H l) (t' : Odds K H m) : Odds K H (l ++ m) := fun u hu => by rcases List.mem_append.mp hu with e | e; exact t u e; exact t' u e
theorem kp_sx {p : Addr} {H H' : Hp} (pl : PoolAt H p) (pl' : PoolAt H' p) (e : Sx p H H') : Kp H H' := fun b o h => by
  by_cases hb : b = p
  · subst hb
    obtain ⟨c, z, h1, _⟩ := pl
    obtain ⟨c', z', h2, _⟩ := pl'
    rw [h] at h1
    exact .inr ⟨_, _, Option.some.inj h1, h2⟩
  · exact .inl (e b o hb h)
theorem cat_go' {H : Hp} {Q : VK} {a b : Addr} {xs ys : List V} (h : H a = some (.lst xs)) (h' : H b = some (.lst ys)) (hl : xs.length + ys.length ≤ 10000) (k : ∀ s H', H s = none → Same H H' → H' s = some (.lst (xs ++ ys)) → Q (.ref s) H') : rCat (.ref a) (.ref b) H Q :=
  ⟨a, b, xs, ys, rfl, rfl, h, h', Nat.le_trans hl (by decide), fun p hp => k p _ hp (same_new hp) upd_same⟩
theorem at_of {xs : List V} {k : Int} {v : V} {j : Nat} (hk : k = (j : Int)) (h : xs[j]? = some v) : atI xs k = some v := by rw [hk]; exact atI_nat h
def spOdd (K : PySem.W.Frag) : Sp := fun vs H Q _ => ∃ p, vs = [.ref p] ∧ PoolAt H p ∧ ∀ v H', OddV K H' v → PoolAt H' p → Sx p H H' → Q v H'
theorem ok_odd (T : Txt K mg) (D : Def K mg "_law_odd" s_law_odd ["_law_pool_here"]) (c_law_draw : Cal P w K mg base 1 "_law_draw" spDraw) : Cal P w K mg base 2 "_law_odd" (spOdd K) := by
  refine cal_of D sc_law_odd (fun vs H Q E h => ?_) (fun f cdv A outer st H vs Q E hr h => ?_)
  · obtain ⟨p, rfl, _⟩ := h
    rfl
  · obtain ⟨p, rfl, pl, q⟩ := h
    have SS : Same H H := Same.refl H
    refine ⟨_, (pss_cons (ps_set (i := 1) sc_law_odd.nd rfl (Or.inl rfl) (pe_lst (pa_cons pe_non (pa_cons pe_int (pa_cons pe_str (pa_cons (pe_tup pa_nil) (pa_cons (pe_tup (pa_cons pe_str pa_nil)) (pa_cons (pe_tup (pa_cons pe_str (pa_cons pe_int pa_nil))) (pa_cons (pe_tup (pa_cons pe_str (pa_cons pe_int (pa_cons pe_int pa_nil)))) (pa_cons (pe_tup (pa_cons pe_str (pa_cons pe_int (pa_cons pe_int pa_nil)))) (pa_cons (pe_tup (pa_cons pe_str (pa_cons (pe_un un_neg pe_int) (pa_cons pe_int pa_nil)))) (pa_cons (pe_tup (pa_cons pe_str (pa_cons pe_int (pa_cons pe_bl pa_nil)))) pa_nil))))))))))))
      (pss_cons (ps_set (i := 1) sc_law_odd.nd rfl (Or.inl rfl) (pe_op op_cat (pv 1) (pe_lst (pa_cons (pe_tup (pa_cons pe_str (pa_cons pe_int pa_nil))) (pa_cons (pe_lst (pa_cons pe_str pa_nil)) (pa_cons (pe_tup (pa_cons pe_str (pa_cons pe_str pa_nil))) (pa_cons (pe_tup (pa_cons pe_str (pa_cons pe_str (pa_cons pe_str (pa_cons pe_int pa_nil))))) (pa_cons (pe_tup (pa_cons pe_str (pa_cons pe_str (pa_cons pe_str pa_nil)))) (pa_cons (pe_tup (pa_cons pe_str (pa_cons pe_str (pa_cons pe_non pa_nil)))) pa_nil)))))))))
      (pss_cons (ps_set (i := 1) sc_law_odd.nd rfl (Or.inl rfl) (pe_op op_cat (pv 1) (pe_lst (pa_cons (pe_tup (pa_cons pe_str pa_nil)) (pa_cons (pe_tup (pa_cons pe_str (pa_cons pe_non pa_nil))) (pa_cons (pe_tup (pa_cons pe_str (pa_cons (pe_lst pa_nil) pa_nil))) (pa_cons (pe_tup (pa_cons pe_str (pa_cons (pe_tup pa_nil) pa_nil))) (pa_cons (pe_tup (pa_cons pe_str (pa_cons (pe_tup pa_nil) (pa_cons pe_non pa_nil)))) (pa_cons (pe_tup (pa_cons pe_str (pa_cons (pe_lst pa_nil) (pa_cons (pe_tup pa_nil) pa_nil)))) (pa_cons (pe_tup (pa_cons pe_str (pa_cons pe_int pa_nil))) pa_nil))))))))))
      (pss_cons (ps_set (i := 1) sc_law_odd.nd rfl (Or.inl rfl) (pe_op op_cat (pv 1) (pe_lst (pa_cons (pe_tup (pa_cons pe_str (pa_cons (pe_tup pa_nil) (pa_cons (pe_tup pa_nil) pa_nil)))) (pa_cons (pe_tup (pa_cons pe_int (pa_cons pe_int (pa_cons pe_int pa_nil)))) (pa_cons (pe_tup (pa_cons pe_non pa_nil)) (pa_cons (pe_tup (pa_cons (pe_lst (pa_cons pe_str pa_nil)) (pa_cons pe_int (pa_cons pe_int pa_nil)))) (pa_cons (pe_tup (pa_cons pe_str (pa_cons pe_int (pa_cons pe_str pa_nil)))) (pa_cons (pe_tup (pa_cons pe_str (pa_cons pe_str (pa_cons pe_int pa_nil)))) pa_nil)))))))))
      (pss_one (ps_ret (pe_ix ix_list (pv 1) (pe_f c_law_draw hr (by decide) (by rfl) (pa_cons (pv 0) (pa_cons (pe_callB call_len_seq (by rfl) T.n_len (by decide +kernel) (pa_cons (pv 1) pa_nil)) pa_nil))) (fun _ _ => rfl)))))))), ?_⟩
    walk_at "rd"
    have od : Odds K H [] := od_nil
    have od := od_cons (v := .non) (.inl ⟨_, .non, by decide⟩) od
    have od := od_cons (v := .int 5) (.inl ⟨_, .int _, by decide⟩) od
    have od := od_cons (v := .str (Str.ofString "run")) (.inl ⟨_, .str _, by decide⟩) od
    refine tupG_same (by exact Nat.le_of_ble_eq_true rfl) fun a1 H1 _ S1 h1 => ?_
    have SS := Same.trans SS S1
    have od := od.ext S1
    have od := od_cons (odd_t h1 ks_nil rfl rfl) od
    walk_at "rd"
    refine tupG_same (by exact Nat.le_of_ble_eq_true rfl) fun a2 H2 _ S2 h2 => ?_
    have SS := Same.trans SS S2
    have od := od.ext S2
    have od := od_cons (odd_t h2 (ks_s (by decide +kernel) ks_nil) rfl rfl) od
    walk_at "rd"
    refine tupG_same (by exact Nat.le_of_ble_eq_true rfl) fun a3 H3 _ S3 h3 => ?_
    have SS := Same.trans SS S3
    have od := od.ext S3
    have od := od_cons (odd_t h3 (ks_s (by decide +kernel) (ks_i ks_nil)) rfl rfl) od
    walk_at "rd"
    refine tupG_same (by exact Nat.le_of_ble_eq_true rfl) fun a4 H4 _ S4 h4 => ?_
    have SS := Same.trans SS S4
    have od := od.ext S4
    have od := od_cons (odd_t h4 (ks_s (by decide +kernel) (ks_i (ks_i ks_nil))) rfl rfl) od
    walk_at "rd"
    refine tupG_same (by exact Nat.le_of_ble_eq_true rfl) fun a5 H5 _ S5 h5 => ?_
    have SS := Same.trans SS S5
    have od := od.ext S5
    have od := od_cons (odd_t h5 (ks_s (by decide +kernel) (ks_i (ks_i ks_nil))) rfl rfl) od
    walk_at "rd"
    refine ⟨_, rfl, ?_⟩
    walk_at "rd"
    refine tupG_same (by exact Nat.le_of_ble_eq_true rfl) fun a6 H6 _ S6 h6 => ?_
    have SS := Same.trans SS S6
    have od := od.ext S6
    have od := od_cons (odd_t h6 (ks_s (by decide +kernel) (ks_i (ks_i ks_nil))) rfl rfl) od
    walk_at "rd"
    refine tupG_same (by exact Nat.le_of_ble_eq_true rfl) fun a7 H7 _ S7 h7 => ?_
    have SS := Same.trans SS S7
    have od := od.ext S7
    have od := od_cons (odd_t h7 (ks_s (by decide +kernel) (ks_i (ks_b ks_nil))) rfl rfl) od
    walk_at "rd"
    refine lstG_same (by exact Nat.le_of_ble_eq_true rfl) fun l0 H8 _ S8 hl8 => ?_
    have SS := Same.trans SS S8
    have od := (od_rev od).ext S8
    have en0 : ∃ ys : List V, ys.length = 10 ∧ H8 l0 = some (.lst ys) ∧ Odds K H8 ys := ⟨_, rfl, hl8, od⟩
    clear hl8 od
    obtain ⟨ys, ylen, hly, oy⟩ := en0
    have sm : ∃ xs : List V, xs.length = 10 ∧ H8 l0 = some (.lst xs) ∧ Odds K H8 xs := ⟨ys, ylen, hly, oy⟩
    clear hly oy ylen
    obtain ⟨xs, xlen, hlx, ox⟩ := sm
    have top : l0 = l0 := rfl
    revert top; intro _
    walk_at "rd"
    have od : Odds K H8 [] := od_nil
    refine tupG_same (by exact Nat.le_of_ble_eq_true rfl) fun a9 H9 _ S9 h9 => ?_
    have SS := Same.trans SS S9
    have od := od.ext S9
    have od := od_cons (odd_t h9 (ks_s (by decide +kernel) (ks_i ks_nil)) rfl rfl) od
    walk_at "rd"
    refine lstG_same (by exact Nat.le_of_ble_eq_true rfl) fun a10 H10 _ S10 h10 => ?_
    have SS := Same.trans SS S10
    have od := od.ext S10
    have od := od_cons (.inl ⟨_, .lst h10, by decide⟩) od
    walk_at "rd"
    refine tupG_same (by exact Nat.le_of_ble_eq_true rfl) fun a11 H11 _ S11 h11 => ?_
    have SS := Same.trans SS S11
    have od := od.ext S11
    have od := od_cons (odd_t h11 (ks_s (by decide +kernel) (ks_s (by decide +kernel) ks_nil)) rfl rfl) od
    walk_at "rd"
    refine tupG_same (by exact Nat.le_of_ble_eq_true rfl) fun a12 H12 _ S12 h12 => ?_
    have SS := Same.trans SS S12
    have od := od.ext S12
    have od := od_cons (odd_t h12 (ks_s (by decide +kernel) (ks_s (by decide +kernel) (ks_s (by decide +kernel) (ks_i ks_nil)))) rfl rfl) od
    walk_at "rd"
    refine tupG_same (by exact Nat.le_of_ble_eq_true rfl) fun a13 H13 _ S13 h13 => ?_
    have SS := Same.trans SS S13
    have od := od.ext S13
    have od := od_cons (odd_t h13 (ks_s (by decide +kernel) (ks_s (by decide +kernel) (ks_s (by decide +kernel) ks_nil))) rfl rfl) od
    walk_at "rd"
    refine tupG_same (by exact Nat.le_of_ble_eq_true rfl) fun a14 H14 _ S14 h14 => ?_
    have SS := Same.trans SS S14
    have od := od.ext S14
    have od := od_cons (odd_t h14 (ks_s (by decide +kernel) (ks_s (by decide +kernel) (ks_n ks_nil))) rfl rfl) od
    walk_at "rd"
    refine lstG_same (by exact Nat.le_of_ble_eq_true rfl) fun l1 H15 _ S15 hl15 => ?_
    have SS := Same.trans SS S15
    have od := (od_rev od).ext S15
    have en1 : ∃ ys : List V, ys.length = 6 ∧ H15 l1 = some (.lst ys) ∧ Odds K H15 ys := ⟨_, rfl, hl15, od⟩
    clear hl15 od
    obtain ⟨ys, ylen, hly, oy⟩ := en1
    have hlx := ((Same.trans (Same.trans (Same.trans (Same.trans (Same.trans (Same.trans S9 S10) S11) S12) S13) S14) S15)) _ _ hlx
    refine cat_go' hlx hly (by omega) fun l1c H16 _ S16 hlc => ?_
    have SS := Same.trans SS S16
    have ox := (od_app (ox.ext (Same.trans (Same.trans (Same.trans (Same.trans (Same.trans (Same.trans S9 S10) S11) S12) S13) S14) S15)) oy).ext S16
    have xlen : (xs ++ ys).length = 16 := by rw [List.length_append]; omega
    clear hlx hly oy ylen
    have sm : ∃ zs : List V, zs.length = 16 ∧ H16 l1c = some (.lst zs) ∧ Odds K H16 zs := ⟨_, xlen, hlc, ox⟩
    clear hlc ox xlen
    obtain ⟨xs, xlen, hlx, ox⟩ := sm
    walk_at "rd"
    have od : Odds K H16 [] := od_nil
    refine tupG_same (by exact Nat.le_of_ble_eq_true rfl) fun a17 H17 _ S17 h17 => ?_
    have SS := Same.trans SS S17
    have od := od.ext S17
    have od := od_cons (odd_t h17 (ks_s (by decide +kernel) ks_nil) rfl rfl) od
    walk_at "rd"
    refine tupG_same (by exact Nat.le_of_ble_eq_true rfl) fun a18 H18 _ S18 h18 => ?_
    have SS := Same.trans SS S18
    have od := od.ext S18
    have od := od_cons (odd_t h18 (ks_s (by decide +kernel) (ks_n ks_nil)) rfl rfl) od
    walk_at "rd"
    refine lstG_same (by exact Nat.le_of_ble_eq_true rfl) fun a19 H19 _ S19 h19 => ?_
    have SS := Same.trans SS S19
    have od := od.ext S19
    walk_at "rd"
    refine tupG_same (by exact Nat.le_of_ble_eq_true rfl) fun a20 H20 _ S20 h20 => ?_
    have SS := Same.trans SS S20
    have od := od.ext S20
    have od := od_cons (odd_t h20 (ks_s (by decide +kernel) (ks_l (S20 _ _ h19) ks_nil)) rfl rfl) od
    walk_at "rd"
    refine tupG_same (by exact Nat.le_of_ble_eq_true rfl) fun a21 H21 _ S21 h21 => ?_
    have SS := Same.trans SS S21
    have od := od.ext S21
    walk_at "rd"
    refine tupG_same (by exact Nat.le_of_ble_eq_true rfl) fun a22 H22 _ S22 h22 => ?_
    have SS := Same.trans SS S22
    have od := od.ext S22
    have od := od_cons (odd_t h22 (ks_s (by decide +kernel) (ks_t (S22 _ _ h21) ks_nil)) rfl rfl) od
    walk_at "rd"
    refine tupG_same (by exact Nat.le_of_ble_eq_true rfl) fun a23 H23 _ S23 h23 => ?_
    have SS := Same.trans SS S23
    have od := od.ext S23
    walk_at "rd"
    refine tupG_same (by exact Nat.le_of_ble_eq_true rfl) fun a24 H24 _ S24 h24 => ?_
    have SS := Same.trans SS S24
    have od := od.ext S24
    have od := od_cons (odd_t h24 (ks_s (by decide +kernel) (ks_t (S24 _ _ h23) (ks_n ks_nil))) rfl rfl) od
    walk_at "rd"
    refine lstG_same (by exact Nat.le_of_ble_eq_true rfl) fun a25 H25 _ S25 h25 => ?_
    have SS := Same.trans SS S25
    have od := od.ext S25
    walk_at "rd"
    refine tupG_same (by exact Nat.le_of_ble_eq_true rfl) fun a26 H26 _ S26 h26 => ?_
    have SS := Same.trans SS S26
    have od := od.ext S26
    walk_at "rd"
    refine tupG_same (by exact Nat.le_of_ble_eq_true rfl) fun a27 H27 _ S27 h27 => ?_
    have SS := Same.trans SS S27
    have od := od.ext S27
    have od := od_cons (odd_t h27 (ks_s (by decide +kernel) (ks_l ((Same.trans S26 S27) _ _ h25) (ks_t (S27 _ _ h26) ks_nil))) rfl rfl) od
    walk_at "rd"
    refine tupG_same (by exact Nat.le_of_ble_eq_true rfl) fun a28 H28 _ S28 h28 => ?_
    have SS := Same.trans SS S28
    have od := od.ext S28
    have od := od_cons (odd_t h28 (ks_s (by decide +kernel) (ks_i ks_nil)) rfl rfl) od
    walk_at "rd"
    refine lstG_same (by exact Nat.le_of_ble_eq_true rfl) fun l2 H29 _ S29 hl29 => ?_
    have SS := Same.trans SS S29
    have od := (od_rev od).ext S29
    have en2 : ∃ ys : List V, ys.length = 7 ∧ H29 l2 = some (.lst ys) ∧ Odds K H29 ys := ⟨_, rfl, hl29, od⟩
    clear hl29 od
    obtain ⟨ys, ylen, hly, oy⟩ := en2
    have hlx := ((Same.trans (Same.trans (Same.trans (Same.trans (Same.trans (Same.trans (Same.trans (Same.trans (Same.trans (Same.trans (Same.trans (Same.trans S17 S18) S19) S20) S21) S22) S23) S24) S25) S26) S27) S28) S29)) _ _ hlx
    refine cat_go' hlx hly (by omega) fun l2c H30 _ S30 hlc => ?_
    have SS := Same.trans SS S30
    have ox := (od_app (ox.ext (Same.trans (Same.trans (Same.trans (Same.trans (Same.trans (Same.trans (Same.trans (Same.trans (Same.trans (Same.trans (Same.trans (Same.trans S17 S18) S19) S20) S21) S22) S23) S24) S25) S26) S27) S28) S29)) oy).ext S30
    have xlen : (xs ++ ys).length = 23 := by rw [List.length_append]; omega
    clear hlx hly oy ylen
    have sm : ∃ zs : List V, zs.length = 23 ∧ H30 l2c = some (.lst zs) ∧ Odds K H30 zs := ⟨_, xlen, hlc, ox⟩
    clear hlc ox xlen
    obtain ⟨xs, xlen, hlx, ox⟩ := sm
    walk_at "rd"
    have od : Odds K H30 [] := od_nil
    refine tupG_same (by exact Nat.le_of_ble_eq_true rfl) fun a31 H31 _ S31 h31 => ?_
    have SS := Same.trans SS S31
    have od := od.ext S31
    walk_at "rd"
    refine tupG_same (by exact Nat.le_of_ble_eq_true rfl) fun a32 H32 _ S32 h32 => ?_
    have SS := Same.trans SS S32
    have od := od.ext S32
    walk_at "rd"
    refine tupG_same (by exact Nat.le_of_ble_eq_true rfl) fun a33 H33 _ S33 h33 => ?_
    have SS := Same.trans SS S33
    have od := od.ext S33
    have od := od_cons (odd_t h33 (ks_s (by decide +kernel) (ks_t ((Same.trans S32 S33) _ _ h31) (ks_t (S33 _ _ h32) ks_nil))) rfl rfl) od
    walk_at "rd"
    refine tupG_same (by exact Nat.le_of_ble_eq_true rfl) fun a34 H34 _ S34 h34 => ?_
    have SS := Same.trans SS S34
    have od := od.ext S34
    have od := od_cons (odd_t h34 (ks_i (ks_i (ks_i ks_nil))) rfl rfl) od
    walk_at "rd"
    refine tupG_same (by exact Nat.le_of_ble_eq_true rfl) fun a35 H35 _ S35 h35 => ?_
    have SS := Same.trans SS S35
    have od := od.ext S35
    have od := od_cons (odd_t h35 (ks_n ks_nil) rfl rfl) od
    walk_at "rd"
    refine lstG_same (by exact Nat.le_of_ble_eq_true rfl) fun a36 H36 _ S36 h36 => ?_
    have SS := Same.trans SS S36
    have od := od.ext S36
    walk_at "rd"
    refine tupG_same (by exact Nat.le_of_ble_eq_true rfl) fun a37 H37 _ S37 h37 => ?_
    have SS := Same.trans SS S37
    have od := od.ext S37
    have od := od_cons (odd_t h37 (ks_l (S37 _ _ h36) (ks_i (ks_i ks_nil))) rfl rfl) od
    walk_at "rd"
    refine tupG_same (by exact Nat.le_of_ble_eq_true rfl) fun a38 H38 _ S38 h38 => ?_
    have SS := Same.trans SS S38
    have od := od.ext S38
    have od := od_cons (odd_t h38 (ks_s (by decide +kernel) (ks_i (ks_s (by decide +kernel) ks_nil))) rfl rfl) od
    walk_at "rd"
    refine tupG_same (by exact Nat.le_of_ble_eq_true rfl) fun a39 H39 _ S39 h39 => ?_
    have SS := Same.trans SS S39
    have od := od.ext S39
    have od := od_cons (odd_t h39 (ks_s (by decide +kernel) (ks_s (by decide +kernel) (ks_i ks_nil))) rfl rfl) od
    walk_at "rd"
    refine lstG_same (by exact Nat.le_of_ble_eq_true rfl) fun l3 H40 _ S40 hl40 => ?_
    have SS := Same.trans SS S40
    have od := (od_rev od).ext S40
    have en3 : ∃ ys : List V, ys.length = 6 ∧ H40 l3 = some (.lst ys) ∧ Odds K H40 ys := ⟨_, rfl, hl40, od⟩
    clear hl40 od
    obtain ⟨ys, ylen, hly, oy⟩ := en3
    have hlx := ((Same.trans (Same.trans (Same.trans (Same.trans (Same.trans (Same.trans (Same.trans (Same.trans (Same.trans S31 S32) S33) S34) S35) S36) S37) S38) S39) S40)) _ _ hlx
    refine cat_go' hlx hly (by omega) fun l3c H41 _ S41 hlc => ?_
    have SS := Same.trans SS S41
    have ox := (od_app (ox.ext (Same.trans (Same.trans (Same.trans (Same.trans (Same.trans (Same.trans (Same.trans (Same.trans (Same.trans S31 S32) S33) S34) S35) S36) S37) S38) S39) S40)) oy).ext S41
    have xlen : (xs ++ ys).length = 29 := by rw [List.length_append]; omega
    clear hlx hly oy ylen
    have sm : ∃ zs : List V, zs.length = 29 ∧ H41 l3c = some (.lst zs) ∧ Odds K H41 zs := ⟨_, xlen, hlc, ox⟩
    clear hlc ox xlen
    obtain ⟨xs, xlen, hlx, ox⟩ := sm
    walk_at "rd"
    refine ⟨l3c, _, rfl, .inl (SqL.of hlx), ?_⟩
    walk_at "rd"
    refine ⟨p, _, rfl, pl.ext SS, by omega, by omega, fun r H' r0 r1 pl' sx => ?_⟩
    have nlp : l3c ≠ p := fun z => by obtain ⟨c, y, h, _⟩ := pl.ext SS; rw [← z, hlx] at h; exact absurd (congrArg List.length (HO.lst.inj (Option.some.inj h))) (by rw [xlen]; intro z; cases z)
    have hlt : r.toNat < xs.length := by omega
    refine g_ixL (SqL.of (sx _ _ nlp hlx)) (v := xs[r.toNat]) (at_of (j := r.toNat) (by omega) (List.getElem?_eq_getElem hlt)) ?_
    exact q _ _ (OddV.kp (kp_sx (pl.ext SS) pl' sx) (ox _ (List.getElem_mem hlt))) pl' ((Same.sx SS).trans sx)
end
end K2

namespace K2
open PySem PySem.Spec PyProof.Rows L2 Mc Mx
mutual
def dpT : Tr → Nat
  | .may b => 1 + dpB b
  | .both b c => 1 + max (dpB b) (dpB c)
  | _ => 0
def dpB : List Tr → Nat
  | [] => 0
  | t :: b => max (dpT t) (dpB b)
end
theorem dpB_app : ∀ (b c : List Tr), dpB (b ++ c) = max (dpB b) (dpB c)
  | [], c => by simp [dpB]
  | t :: b, c => by simp only [List.cons_append, dpB]; rw [dpB_app b c]; omega
theorem mB_app : ∀ (b c : List Tr), mB (b ++ c) = mB b + mB c
  | [], c => by simp [mB]
  | t :: b, c => by simp only [List.cons_append, mB]; rw [mB_app b c]; omega
theorem okB_app : ∀ {b c : List Tr}, okB b → okB c → okB (b ++ c)
  | [], c, _, h => h
  | t :: b, c, h, h' => by
    unfold okB at h
    show okB (t :: (b ++ c))
    unfold okB
    exact ⟨h.1, okB_app h.2 h'⟩
theorem okB_one {t : Tr} (h : okT t) : okB [t] := by unfold okB; exact ⟨h, by unfold okB; trivial⟩
theorem dpB_one {t : Tr} : dpB [t] = dpT t := by simp [dpB]
theorem mB_one {t : Tr} : mB [t] = mT t := by simp [mB]
def szN : Nat → Nat
  | 0 => 1
  | d + 1 => 2 + 2 * szN d
theorem szN_pos : ∀ d, 1 ≤ szN d
  | 0 => by simp [szN]
  | d + 1 => by simp [szN]; omega
mutual
theorem oneT_le : ∀ (t : Tr) (n : Nat), (one t n).length ≤ mT t
  | .leaf i, n => by unfold one mT; simp only [kids, ite_self, List.length_cons, List.length_nil]; omega
  | .odd, n => by unfold one mT; simp only [kids, ite_self, List.length_cons, List.length_nil]; omega
  | .may b, n => by
    have := pioB_le b (n + 1)
    unfold one mT
    split <;> simp only [kids, List.length_cons, List.length_nil] <;> omega
  | .both b c, n => by
    have := pioB_le b (n + 1)
    have := pioB_le c (n + 1)
    unfold one mT
    split <;> simp only [kids, List.length_cons, List.length_nil, List.length_append] <;> omega
theorem pioB_le : ∀ (b : List Tr) (n : Nat), (pio b n).length ≤ mB b
  | [], n => by rw [pio_nil]; simp
  | t :: b, n => by
    have := oneT_le t n
    have := pioB_le b n
    rw [pio_cons, List.length_append]
    unfold mB
    omega
end
theorem sx_fresh {p L : Addr} {H H' : Hp} {o : HO} (h : H L = none) (e : Sx p H H') : Sx p H (upd H' L o) := fun b u hb k => by
  rw [upd_ne (ne_of_none k h)]
  exact e b u hb k
theorem PoolAt.upd {p L : Addr} {H : Hp} {o : HO} (n : p ≠ L) (h : PoolAt H p) : PoolAt (upd H L o) p := by
  obtain ⟨c, z, h1, h2⟩ := h
  exact ⟨c, z, by rw [upd_ne n]; exact h1, h2⟩
theorem PoolAt.off {p L : Addr} {H : Hp} (h : PoolAt H p) (e : H L = none) : p ≠ L := fun z => by
  obtain ⟨c, y, h1, _⟩ := h
  rw [z, e] at h1
  cases h1
section
variable {P : Program} {w : World} {K : PySem.W.Frag} {mg : Str → Option Value} {base : Heap}
local macro_rules | `(tactic| walk_at "rd1") => `(tactic| first
  | with_reducible refine g_seq ?_
  | with_reducible refine g_asg ?_
  | with_reducible refine g_name ?_
  | with_reducible refine g_c ?_
  | with_reducible refine g_op ?_
  | with_reducible refine g_ifS ?_
  | with_reducible refine g_if ?_
  | with_reducible refine g_test ?_
  | with_reducible refine g_B ?_
  | with_reducible refine g_bl ?_
  | with_reducible refine g_blV ?_
  | with_reducible refine g_not ?_
  | with_reducible refine g_and ?_
  | with_reducible refine g_or ?_
  | with_reducible refine g_notV ?_
  | with_reducible refine g_andV ?_
  | with_reducible refine g_orV ?_
  | with_reducible refine g_ret ?_
  | with_reducible refine g_drop ?_
  | with_reducible refine g_next ?_
  | with_reducible refine g_retN ?_
  | with_reducible refine g_call ?_
  | with_reducible refine g_cb ?_
  | with_reducible refine g_cons ?_
  | with_reducible refine g_nil ?_
  | with_reducible refine g_tup ?_
  | with_reducible refine g_lst ?_
  | with_reducible refine g_prop ?_
  | with_reducible refine g_fld ?_
  | with_reducible refine g_meth ?_
  | with_reducible refine g_chain ?_
  | with_reducible refine g_yes ?_
  | with_reducible refine g_make ?_
  | with_reducible refine g_makeK ?_
  | with_reducible refine g_gsub ?_
  | with_reducible refine g_sfld ?_
  | with_reducible refine g_un ?_
  | with_reducible refine g_bm ?_
  | with_reducible refine g_iteT ?_
  | with_reducible refine g_iteF ?_
  | with_reducible refine g_I0 ?_
  | with_reducible refine g_add ?_
  | with_reducible refine g_sub ?_
  | ((with_reducible refine' g_var ?hv ?_); (case hv => rfl))
  | ((with_reducible refine g_eq ?hv ?_); (case hv => rfl))
  | ((with_reducible refine g_ne ?hv ?_); (case hv => rfl)))
local macro_rules | `(tactic| walk_at "rd") => `(tactic| repeat (walk_at "rd1"))

local macro_rules | `(tactic| walk_at "ty") => `(tactic| first | exact .non | exact .bl _ | exact .int _ | exact .str _ | exact .lst (by assumption) | exact .tup (by assumption) | exact .dK (by assumption) | exact .kTup (by assumption) (by assumption))
local macro_rules | `(tactic| walk_at "isiF") => `(tactic| refine g_isi (by walk_at "ty") (b := false) (by decide +kernel) ?_)
local macro_rules | `(tactic| walk_at "isiT") => `(tactic| refine g_isi (by walk_at "ty") (b := true) (by decide +kernel) ?_)

def spTree (K : PySem.W.Frag) (m : Nat) : Sp := fun vs H Q _ => ∃ (p : Addr) (d : Nat), vs = [.ref p, .int d] ∧ d ≤ m ∧ PoolAt H p ∧ ∀ v t H', RepT K H' t v → okT t → mT t ≤ szN d → dpT t ≤ d → PoolAt H' p → Sx p H H' → Q v H'
theorem tree_step {k m : Nat} {spS : Sp} (hk : 1 ≤ k) (T : Txt K mg) (D : Def K mg "_law_tree" s_law_tree ["_law_pool_here", "_law_depth"]) (c_law_draw : Cal P w K mg base 1 "_law_draw" spDraw) (c_law_tree : Cal P w K mg base k "_law_tree" spS)
    (hS : m = 0 ∨ spS = spTree K (m - 1)) : Cal P w K mg base (k + 1) "_law_tree" (spTree K m) := by
  refine cal_of D sc_law_tree (fun vs H Q E h => ?_) (fun f cdv A outer st H vs Q E hr h => ?_)
  · obtain ⟨p, d, rfl, _⟩ := h
    rfl
  · obtain ⟨p, d, rfl, hd, pl, q⟩ := h
    have hr1 := hr.mono hk
    refine ⟨_, (pss_cons (ps_set (i := 2) sc_law_tree.nd rfl (Or.inl rfl) (pe_f c_law_draw hr1 (by decide) (by rfl) (pa_cons (pv 0) (pa_cons pe_int pa_nil))))
      (pss_cons (ps_if (PW.pt (pw_and (pt_cmpR op_gt (pv 2) pe_int (nomark _)) (pw_and1 (pt_cmpR op_gt (pv 1) pe_int (nomark _))))) (pss_cons (ps_set (i := 3) sc_law_tree.nd rfl (Or.inl rfl) (pe_callTy call_tuple_of (by rfl) T.n_tuple (by decide +kernel) (pa_cons (pe_lc (own := [("_law_turn", 4)]) (g := gName 4) (by rfl) sc_law_tree.nd (pi_range1 (by rfl) T.n_range (pa_cons (pe_f c_law_draw hr1 (by decide) (by rfl) (pa_cons (pv 0) (pa_cons pe_int pa_nil))) pa_nil)) (blkOk_by (own := [("_law_turn", 4)]) (N := N_law_tree) (sc := defScope s_law_tree) (by decide +kernel)) (fun _ _ _ _ _ => pg_name (i := 4) sc_law_tree.nd rfl (Or.inl rfl)) (fun _ _ _ _ _ => pts_nil) (fun _ _ _ _ _ => (pe_f c_law_tree hr (Nat.le_refl _) (by rfl) (pa_cons (pv 0) (pa_cons (pe_op op_sub (pv 1) pe_int) pa_nil))))) pa_nil)))
      (pss_one (ps_ret (pe_ifExp (pt_cmpR op_lt (pv 2) pe_int (nomark _)) (pe_tup (pa_cons pe_str (pa_cons (pv 3) pa_nil))) (pe_tup (pa_cons pe_str (pa_cons (pv 3) (pa_cons (pe_tup (pa_cons (pe_tup (pa_cons pe_str pa_nil)) pa_nil)) pa_nil)))))))) pss_nil)
      (pss_one (ps_ret (pe_ix ix_list (pe_lst (pa_cons (pe_tup (pa_cons pe_str (pa_cons pe_int (pa_cons pe_int pa_nil)))) (pa_cons (pe_tup (pa_cons pe_str pa_nil)) (pa_cons (pe_tup (pa_cons pe_str (pa_cons pe_str (pa_cons pe_str pa_nil)))) (pa_cons (pe_tup (pa_cons pe_str (pa_cons pe_int (pa_cons pe_int pa_nil)))) pa_nil))))) (pe_f c_law_draw hr1 (by decide) (by rfl) (pa_cons (pv 0) (pa_cons pe_int pa_nil))) (fun _ _ => rfl)))))), ?_⟩
    walk_at "rd"
    refine ⟨p, 6, rfl, pl, by decide, by decide, fun wy H1 w0 w1 pl1 sx1 => ?_⟩
    walk_at "rd"
    refine g_ite (fun e1 => ?_) (fun e1 => ?_)
    · walk_at "rd"
      refine g_ite (fun e2 => ?_) (fun e2 => ?_)
      · have hd0 : 1 ≤ d := by have := of_decide_eq_true e2; omega
        have em := hS.resolve_left (by omega)
        walk_at "rd"
        refine g_lc (g_irng ?_)
        walk_at "rd"
        refine ⟨p, 3, rfl, pl1, by decide, by decide, fun many H2 m0 m1 pl2 sx2 => ?_⟩
        refine ⟨many, rfl, by omega, by omega, fun L hL => ?_⟩
        have sx02 := sx1.trans sx2
        have npL := pl2.off hL
        have L0 : H L = none := Sx.free pl2 sx02 hL
        refine lc_range (lo := 0) (n := many.toNat) (fun i H' => ∃ (ts : List Tr) (vs : List V), ts.length = i ∧ H' L = some (.lst vs) ∧ RepB K H' ts vs ∧ okB ts ∧ mB ts ≤ i * szN (d - 1) ∧ dpB ts ≤ d - 1 ∧ PoolAt H' p ∧ Sx p H H') ?_ ?_ ?_
        · exact ⟨[], [], rfl, upd_same, by unfold RepB; rfl, by unfold okB; trivial, by unfold mB; omega, by unfold dpB; omega, pl2.upd npL, sx_fresh L0 sx02⟩
        · rintro i H3 hi ⟨ts, vs, hn, hl3, rb3, ok3, mb3, db3, pl3, sx3⟩
          walk_at "rd"
          refine ⟨rfl, ?_⟩
          walk_at "rd"
          rw [em]
          refine ⟨p, d - 1, by rw [show ((d - 1 : Nat) : Int) = (d : Int) - 1 by omega]; rfl, by omega, pl3, fun v t H4 rt okt mt dt pl4 sx4 => ?_⟩
          have hl4 := sx4 _ _ npL.symm hl3
          have kp4 := kp_sx pl3 pl4 sx4
          have hvs := rb3.len
          refine ⟨vs, hl4, small1000 (by omega), ts ++ [t], vs ++ [v], by rw [List.length_append, hn]; rfl, upd_same, ?_, okB_app ok3 (okB_one okt), ?_, ?_, pl4.upd npL, sx_fresh L0 (sx3.trans sx4)⟩
          · exact RepB.kp (Kp.upd hl4) _ _ ((RepB.kp kp4 _ _ rb3).app (RepB.one rt))
          · rw [mB_app, mB_one, Nat.add_mul]; omega
          · rw [dpB_app, dpB_one]; omega
        · rintro H3 ⟨ts, vs, hn, hl3, rb3, ok3, mb3, db3, pl3, sx3⟩
          have hvs := rb3.len
          have mb : mB ts ≤ 2 * szN (d - 1) := Nat.le_trans mb3 (Nat.mul_le_mul_right _ (by omega))
          have esz : szN d = 2 + 2 * szN (d - 1) := by
            obtain ⟨d', rfl⟩ : ∃ d', d = d' + 1 := ⟨d - 1, by omega⟩
            rfl
          refine ⟨L, vs, rfl, .inl ⟨SqL.of hl3, fun c hc => ?_⟩⟩
          have S4 := same_new (o := .tup vs) hc
          have tc : TupV K (upd H3 c (.tup vs)) c vs := ⟨.tup upd_same, SqT.of upd_same⟩
          generalize upd H3 c (.tup vs) = H4 at S4 tc ⊢
          have rb4 := RepB.kp (Kp.of S4) _ _ rb3
          have pl4 := pl3.ext S4
          have sx4 := sx3.trans (Same.sx (p := p) S4)
          walk_at "rd"
          refine g_ite (fun e3 => ?_) (fun e3 => ?_)
          · walk_at "rd"
            refine tupG_same (by exact Nat.le_of_ble_eq_true rfl) fun a H5 _ S5 ha => ?_
            refine q _ (.may ts) H5 ?_ ?_ ?_ ?_ (pl4.ext S5) (sx4.trans (Same.sx S5))
            · unfold RepT
              exact ⟨a, c, vs, rfl, ⟨.tup ha, SqT.of ha⟩, TupV.ext S5 tc, RepB.kp (Kp.of S5) _ _ rb4⟩
            · unfold okT; exact ok3
            · unfold mT; omega
            · unfold dpT; omega
          · walk_at "rd"
            refine tupG_same (by exact Nat.le_of_ble_eq_true rfl) fun r H5 _ S5 hr5 => ?_
            walk_at "rd"
            refine tupG_same (by exact Nat.le_of_ble_eq_true rfl) fun rr H6 _ S6 hrr => ?_
            walk_at "rd"
            refine tupG_same (by exact Nat.le_of_ble_eq_true rfl) fun a H7 _ S7 ha => ?_
            have S47 := Same.trans S5 (Same.trans S6 S7)
            refine q _ (.both ts [.leaf 1]) H7 ?_ ?_ ?_ ?_ (pl4.ext S47) (sx4.trans (Same.sx S47))
            · unfold RepT
              refine ⟨a, c, rr, vs, [.ref r], rfl, ⟨.tup ha, SqT.of ha⟩, TupV.ext S47 tc, RepB.kp (Kp.of S47) _ _ rb4, TupV.ext S7 ⟨.tup hrr, SqT.of hrr⟩, RepB.one ?_⟩
              unfold RepT
              exact ⟨r, rfl, TupV.ext (Same.trans S6 S7) ⟨.tup hr5, SqT.of hr5⟩⟩
            · unfold okT; exact ⟨ok3, okB_one (by unfold okT; decide)⟩
            · unfold mT; rw [mB_one]; unfold mT; omega
            · unfold dpT; rw [dpB_one]; unfold dpT; omega
      · skip
        walk_at "rd"
        refine tupG_same (by exact Nat.le_of_ble_eq_true rfl) fun a1 H2 _ S2 h2 => ?_
        walk_at "rd"
        refine tupG_same (by exact Nat.le_of_ble_eq_true rfl) fun a2 H3 _ S3 h3 => ?_
        walk_at "rd"
        refine tupG_same (by exact Nat.le_of_ble_eq_true rfl) fun a3 H4 _ S4 h4 => ?_
        walk_at "rd"
        refine tupG_same (by exact Nat.le_of_ble_eq_true rfl) fun a4 H5 _ S5 h5 => ?_
        walk_at "rd"
        refine lstG_same (by exact Nat.le_of_ble_eq_true rfl) fun l H6 hl0 S6 hl => ?_
        have S16 := Same.trans S2 (Same.trans S3 (Same.trans S4 (Same.trans S5 S6)))
        have pl6 := pl1.ext S16
        have nlp : p ≠ l := (pl1.ext (Same.trans S2 (Same.trans S3 (Same.trans S4 S5)))).off hl0
        walk_at "rd"
        refine ⟨p, 4, rfl, pl6, by decide, by decide, fun r H7 r0 r1 pl7 sx7 => ?_⟩
        have kp7 := kp_sx pl6 pl7 sx7
        have hl7 := sx7 _ _ nlp.symm hl
        have sx07 := (sx1.trans (Same.sx S16)).trans sx7
        have fin : ∀ (i : Nat) (a : Addr), i < 4 → RepT K H7 (.leaf i) (.ref a) → Q (.ref a) H7 := fun i a hi rt => q _ (.leaf i) H7 rt (by unfold okT; exact hi) (by unfold mT; exact szN_pos d) (by unfold dpT; omega) pl7 sx07
        have cs : r = 0 ∨ r = 1 ∨ r = 2 ∨ r = 3 := by omega
        rcases cs with rfl | rfl | rfl | rfl
        · refine g_ixL (SqL.of hl7) (v := .ref a1) (atI_nat (j := 0) rfl) ?_
          exact fin 0 a1 (by decide) (by unfold RepT; exact ⟨a1, rfl, TupV.kp kp7 (TupV.ext (Same.trans S3 (Same.trans S4 (Same.trans S5 S6))) ⟨.tup h2, SqT.of h2⟩)⟩)
        · refine g_ixL (SqL.of hl7) (v := .ref a2) (atI_nat (j := 1) rfl) ?_
          exact fin 1 a2 (by decide) (by unfold RepT; exact ⟨a2, rfl, TupV.kp kp7 (TupV.ext (Same.trans S4 (Same.trans S5 S6)) ⟨.tup h3, SqT.of h3⟩)⟩)
        · refine g_ixL (SqL.of hl7) (v := .ref a3) (atI_nat (j := 2) rfl) ?_
          exact fin 2 a3 (by decide) (by unfold RepT; exact ⟨a3, rfl, TupV.kp kp7 (TupV.ext (Same.trans S5 S6) ⟨.tup h4, SqT.of h4⟩)⟩)
        · refine g_ixL (SqL.of hl7) (v := .ref a4) (atI_nat (j := 3) rfl) ?_
          exact fin 3 a4 (by decide) (by unfold RepT; exact ⟨a4, rfl, TupV.kp kp7 (TupV.ext S6 ⟨.tup h5, SqT.of h5⟩)⟩)
    · skip
      walk_at "rd"
      refine tupG_same (by exact Nat.le_of_ble_eq_true rfl) fun a1 H2 _ S2 h2 => ?_
      walk_at "rd"
      refine tupG_same (by exact Nat.le_of_ble_eq_true rfl) fun a2 H3 _ S3 h3 => ?_
      walk_at "rd"
      refine tupG_same (by exact Nat.le_of_ble_eq_true rfl) fun a3 H4 _ S4 h4 => ?_
      walk_at "rd"
      refine tupG_same (by exact Nat.le_of_ble_eq_true rfl) fun a4 H5 _ S5 h5 => ?_
      walk_at "rd"
      refine lstG_same (by exact Nat.le_of_ble_eq_true rfl) fun l H6 hl0 S6 hl => ?_
      have S16 := Same.trans S2 (Same.trans S3 (Same.trans S4 (Same.trans S5 S6)))
      have pl6 := pl1.ext S16
      have nlp : p ≠ l := (pl1.ext (Same.trans S2 (Same.trans S3 (Same.trans S4 S5)))).off hl0
      walk_at "rd"
      refine ⟨p, 4, rfl, pl6, by decide, by decide, fun r H7 r0 r1 pl7 sx7 => ?_⟩
      have kp7 := kp_sx pl6 pl7 sx7
      have hl7 := sx7 _ _ nlp.symm hl
      have sx07 := (sx1.trans (Same.sx S16)).trans sx7
      have fin : ∀ (i : Nat) (a : Addr), i < 4 → RepT K H7 (.leaf i) (.ref a) → Q (.ref a) H7 := fun i a hi rt => q _ (.leaf i) H7 rt (by unfold okT; exact hi) (by unfold mT; exact szN_pos d) (by unfold dpT; omega) pl7 sx07
      have cs : r = 0 ∨ r = 1 ∨ r = 2 ∨ r = 3 := by omega
      rcases cs with rfl | rfl | rfl | rfl
      · refine g_ixL (SqL.of hl7) (v := .ref a1) (atI_nat (j := 0) rfl) ?_
        exact fin 0 a1 (by decide) (by unfold RepT; exact ⟨a1, rfl, TupV.kp kp7 (TupV.ext (Same.trans S3 (Same.trans S4 (Same.trans S5 S6))) ⟨.tup h2, SqT.of h2⟩)⟩)
      · refine g_ixL (SqL.of hl7) (v := .ref a2) (atI_nat (j := 1) rfl) ?_
        exact fin 1 a2 (by decide) (by unfold RepT; exact ⟨a2, rfl, TupV.kp kp7 (TupV.ext (Same.trans S4 (Same.trans S5 S6)) ⟨.tup h3, SqT.of h3⟩)⟩)
      · refine g_ixL (SqL.of hl7) (v := .ref a3) (atI_nat (j := 2) rfl) ?_
        exact fin 2 a3 (by decide) (by unfold RepT; exact ⟨a3, rfl, TupV.kp kp7 (TupV.ext (Same.trans S5 S6) ⟨.tup h4, SqT.of h4⟩)⟩)
      · refine g_ixL (SqL.of hl7) (v := .ref a4) (atI_nat (j := 3) rfl) ?_
        exact fin 3 a4 (by decide) (by unfold RepT; exact ⟨a4, rfl, TupV.kp kp7 (TupV.ext S6 ⟨.tup h5, SqT.of h5⟩)⟩)
theorem ok_tree (T : Txt K mg) (D : Def K mg "_law_tree" s_law_tree ["_law_pool_here", "_law_depth"]) (c_law_draw : Cal P w K mg base 1 "_law_draw" spDraw) : Cal P w K mg base 5 "_law_tree" (spTree K 3) := by
  have b : Cal P w K mg base 1 "_law_tree" spNo := cal_of D sc_law_tree (fun vs H Q E h => h.elim) (fun f cdv A outer s H vs Q E hr h => h.elim)
  have s0 := tree_step (m := 0) (by decide) T D c_law_draw b (.inl rfl)
  have s1 := tree_step (m := 1) (by decide) T D c_law_draw s0 (.inr rfl)
  have s2 := tree_step (m := 2) (by decide) T D c_law_draw s1 (.inr rfl)
  exact tree_step (m := 3) (by decide) T D c_law_draw s2 (.inr rfl)
end
end K2

namespace K2
open PySem PySem.Spec PyProof.Rows L2 Mc Mx
section
variable {X : Cx} {K : PySem.W.Frag}
theorem cr_sumK (hK : X.K = K) (hc : X.calm = true) : CallR X (.builtin "sum") (fun vs H Q => rSum K vs H Q ∨ rSumT K vs H Q) := hK ▸ cr_sumA hc
theorem pi_tupK {tg l : Expr} {tl : TE} (hK : X.K = K) (hl : PE X l tl) : PI X tg l (iTup K tl) := hK ▸ pi_tup hl
theorem sl_tupK (hK : X.K = K) : SlR X (rSlT K) := hK ▸ sl_tup
theorem ix_tupK (hK : X.K = K) : IxR X (rIxT K) := hK ▸ ix_tup
theorem op_in_seqK (hK : X.K = K) : OpR X (compareOp .In) (rIn K false) := hK ▸ op_in_seq
end
section
variable {P : Program} {w : World} {K : PySem.W.Frag} {mg : Str → Option Value} {base : Heap}
local macro_rules | `(tactic| walk_at "rd1") => `(tactic| first
  | with_reducible refine g_seq ?_
  | with_reducible refine g_asg ?_
  | with_reducible refine g_name ?_
  | with_reducible refine g_c ?_
  | with_reducible refine g_op ?_
  | with_reducible refine g_ifS ?_
  | with_reducible refine g_if ?_
  | with_reducible refine g_test ?_
  | with_reducible refine g_B ?_
  | with_reducible refine g_bl ?_
  | with_reducible refine g_blV ?_
  | with_reducible refine g_not ?_
  | with_reducible refine g_and ?_
  | with_reducible refine g_or ?_
  | with_reducible refine g_notV ?_
  | with_reducible refine g_andV ?_
  | with_reducible refine g_orV ?_
  | with_reducible refine g_ret ?_
  | with_reducible refine g_drop ?_
  | with_reducible refine g_next ?_
  | with_reducible refine g_retN ?_
  | with_reducible refine g_call ?_
  | with_reducible refine g_cb ?_
  | with_reducible refine g_cons ?_
  | with_reducible refine g_nil ?_
  | with_reducible refine g_tup ?_
  | with_reducible refine g_lst ?_
  | with_reducible refine g_prop ?_
  | with_reducible refine g_fld ?_
  | with_reducible refine g_meth ?_
  | with_reducible refine g_chain ?_
  | with_reducible refine g_yes ?_
  | with_reducible refine g_make ?_
  | with_reducible refine g_makeK ?_
  | with_reducible refine g_gsub ?_
  | with_reducible refine g_sfld ?_
  | with_reducible refine g_un ?_
  | with_reducible refine g_bm ?_
  | with_reducible refine g_iteT ?_
  | with_reducible refine g_iteF ?_
  | with_reducible refine g_I0 ?_
  | with_reducible refine g_add ?_
  | with_reducible refine g_sub ?_
  | ((with_reducible refine' g_var ?hv ?_); (case hv => rfl))
  | ((with_reducible refine g_eq ?hv ?_); (case hv => rfl))
  | ((with_reducible refine g_ne ?hv ?_); (case hv => rfl)))
local macro_rules | `(tactic| walk_at "rd") => `(tactic| repeat (walk_at "rd1"))

local macro_rules | `(tactic| walk_at "ty") => `(tactic| first | exact .non | exact .bl _ | exact .int _ | exact .str _ | exact .lst (by assumption) | exact .tup (by assumption) | exact .dK (by assumption) | exact .kTup (by assumption) (by assumption))
local macro_rules | `(tactic| walk_at "isiF") => `(tactic| refine g_isi (by walk_at "ty") (b := false) (by decide +kernel) ?_)
local macro_rules | `(tactic| walk_at "isiT") => `(tactic| refine g_isi (by walk_at "ty") (b := true) (by decide +kernel) ?_)

abbrev scMany : Scope := { kind := ScopeKind.function, names := [(".0", NameKind.local), ("_law_part", NameKind.local), ("sum", NameKind.globalImplicit)], isGenerator := false, isCoroutine := false }
theorem mT_blocks (t : Tr) : mT t = 1 + ((blocks t).map mB).sum := by
  cases t <;> simp [mT, blocks]
theorem blocks_sum : ∀ bs : List (List Tr), (bs.map (fun b => ((mB b : Nat) : Int))).sum = (((bs.map mB).sum : Nat) : Int)
  | [] => by simp
  | b :: bs => by simp [blocks_sum bs]
theorem mB_sum : ∀ b : List Tr, (b.map (fun t => ((mT t : Nat) : Int))).sum = ((mB b : Nat) : Int)
  | [] => by simp [mB]
  | t :: b => by simp [mB, mB_sum b]
theorem mT_pos (t : Tr) : 1 ≤ mT t := by rw [mT_blocks]; omega
theorem len_mB : ∀ b : List Tr, b.length ≤ mB b
  | [] => Nat.zero_le _
  | t :: b => by
    have := len_mB b
    have := mT_pos t
    simp only [List.length_cons, mB]
    omega
theorem getB : ∀ {b : List Tr} {i : Nat} {t : Tr}, b[i]? = some t → okB b → okT t ∧ dpT t ≤ dpB b ∧ mT t ≤ mB b
  | [], i, t, h, _ => by cases h
  | u :: b, 0, t, h, o => by
    cases h
    unfold okB at o
    unfold dpB mB
    exact ⟨o.1, by omega, by omega⟩
  | u :: b, i + 1, t, h, o => by
    unfold okB at o
    obtain ⟨h1, h2, h3⟩ := getB (b := b) (i := i) h o.2
    unfold dpB mB
    exact ⟨h1, by omega, by omega⟩
theorem blocks_le (t : Tr) : (blocks t).length ≤ 2 := by cases t <;> simp [blocks]
theorem getT {t : Tr} {j : Nat} {b : List Tr} (h : (blocks t)[j]? = some b) (o : okT t) : okB b ∧ dpB b + 1 ≤ dpT t ∧ mB b + 1 ≤ mT t := by
  cases t with
  | leaf i => simp [blocks] at h
  | odd => simp [blocks] at h
  | may c =>
    unfold okT at o
    match j, h with
    | 0, h => cases h; unfold dpT mT; exact ⟨o, by omega, by omega⟩
    | j + 1, h => simp [blocks] at h
  | both c d =>
    unfold okT at o
    match j, h with
    | 0, h => cases h; unfold dpT mT; exact ⟨o.1, by omega, by omega⟩
    | 1, h => cases h; unfold dpT mT; exact ⟨o.2, by omega, by omega⟩
    | j + 2, h => simp [blocks] at h
abbrev two : List V := [.str sMaybe, .str sBoth]
/-- the word of a part without blocks -/
theorem RepT.word {K : PySem.W.Frag} {H : Hp} {t : Tr} {v : V} (h : RepT K H t v) (o : okT t) (hd : holdsT t = false) : ∃ a z xs, v = .ref a ∧ TupV K H a (.str z :: xs) ∧ inV (.str z) two = false := by
  cases t with
  | odd => unfold okT at o; exact o.elim
  | may b => cases hd
  | both b c => cases hd
  | leaf i =>
    unfold RepT at h
    obtain ⟨a, ev, tv⟩ := h
    match i, tv with
    | 0, tv => exact ⟨a, sRun, _, ev, tv, by decide +kernel⟩
    | 1, tv => exact ⟨a, sRisk, _, ev, tv, by decide +kernel⟩
    | 2, tv => exact ⟨a, sWant, _, ev, tv, by decide +kernel⟩
    | 3, tv => exact ⟨a, sRun, _, ev, tv, by decide +kernel⟩
    | i + 4, tv => exact ⟨a, sCall, _, ev, tv, by show inV (.str sCall) two = false; decide +kernel⟩
def spMany (K : PySem.W.Frag) (m : Nat) : Sp := fun vs H Q _ => ∃ (a : Addr) (b : List Tr) (xs : List V), vs = [.ref a] ∧ TupV K H a xs ∧ RepB K H b xs ∧ okB b ∧ dpB b ≤ m ∧ mB b ≤ 1000 ∧ ∀ H', Same H H' → Q (.int (mB b)) H'
theorem many_step {k m : Nat} {spS : Sp} (hk : 1 ≤ k) (T : Txt K mg) (D : Def K mg "_law_many" s_law_many ["_law_block"]) (c_law_many : Cal P w K mg base k "_law_many" spS) (hS : m = 0 ∨ spS = spMany K (m - 1)) : Cal P w K mg base (k + 1) "_law_many" (spMany K m) := by
  refine cal_of D sc_law_many (fun vs H Q E h => ?_) (fun f cdv A outer st H vs Q E hr h => ?_)
  · obtain ⟨a, b, xs, rfl, _⟩ := h
    rfl
  · obtain ⟨a, b, xs, rfl, ta, rb, ob, db, hl, q⟩ := h
    refine ⟨_, (pss_one (ps_ret (pe_callB (cr_sumA (by rfl)) (by rfl) T.n_sum (by decide +kernel) (pa_cons (pe_lc (own := [("_law_part", 2)]) (g := gName 2) (by rfl) sc_law_many.nd (pi_tup (pv 0)) (blkOk_by (own := [("_law_part", 2)]) (N := N_law_many) (sc := defScope s_law_many) (by decide +kernel)) (fun _ _ _ _ _ => pg_name (i := 2) sc_law_many.nd rfl (Or.inl rfl)) (fun _ _ _ _ _ => pts_nil) (fun _ _ _ _ _ => (pe_ifExp (pt_cmpR (op_in_seqK (K := K) rfl) (pe_ix (ix_tupK (K := K) rfl) (pv 2) pe_int (fun _ _ => rfl)) (pe_tup (pa_cons pe_str (pa_cons pe_str pa_nil))) (by rfl)) (pe_op op_add pe_int (pe_callB (cr_sumK (K := K) rfl (by rfl)) (by rfl) T.n_sum (by decide +kernel) (pa_cons (pe_lc (own := [("_law_inner", 1)]) (g := gName 1) (by rfl) sc_law_many.nd (pi_tupK (K := K) rfl (pe_slice (sl_tupK (K := K) rfl) (pv 2) (po_some pe_int) po_none)) (blkOk_by (own := [("_law_inner", 1)]) (N := N_law_many) (sc := scMany) (by decide +kernel)) (fun _ _ _ _ _ => pg_name (i := 1) sc_law_many.nd rfl (Or.inl rfl)) (fun _ _ _ _ _ => pts_nil) (fun _ _ _ _ _ => (pe_f c_law_many hr (Nat.le_refl _) (by rfl) (pa_cons (pv 1) pa_nil)))) pa_nil))) pe_int))) pa_nil)))), ?_⟩
    walk_at "rd"
    refine g_lc (g_itup ?_)
    walk_at "rd"
    refine ⟨a, rfl, ⟨xs, ta.sq⟩, fun L hL => ?_⟩
    have hbl := len_mB b
    refine lc_tup (K := K) (a := a) (xs := xs) (fun i H' => Same H H' ∧ H' L = some (.lst ((b.take i).map fun t => V.int (mT t : Nat)))) ⟨same_new hL, by rw [upd_same]; rfl⟩ (fun i H' _ e => (TupV.ext e.1 ta).sq) ?_ ?_
    · rintro i x H1 hx ⟨S1, h1⟩
      obtain ⟨t, ht, rt⟩ := rb.get hx
      have hi : i < b.length := (List.getElem?_eq_some_iff.mp ht).1
      obtain ⟨okt, dpt, mt⟩ := getB ht ob
      have rt1 := RepT.kp (Kp.of S1) _ _ rt
      have nd : ∀ b', 0 < mB b' ∨ mB b' = 0 := fun b' => by omega
      walk_at "rd"
      refine ⟨rfl, ?_⟩
      walk_at "rd"
      have fin : ∀ H2, Same H1 H2 → ∃ acc, H2 L = some (.lst acc) ∧ acc.length < sizeLine ∧ Same H (upd H2 L (.lst (acc ++ [.int (mT t : Nat)]))) ∧ upd H2 L (.lst (acc ++ [.int (mT t : Nat)])) L = some (.lst ((b.take (i + 1)).map fun t => V.int (mT t : Nat))) := fun H2 S2 => by
        refine ⟨_, S2 _ _ h1, small1000 (by rw [List.length_map, List.length_take]; omega), same_upd hL (Same.trans S1 S2), ?_⟩
        rw [upd_same]
        exact congrArg (fun l => some (HO.lst l)) (take_map (fun t => V.int (mT t : Nat)) ht)
      by_cases hd : holdsT t = true
      · obtain ⟨pa, z, cs, rfl, tv, hz, hcl, hcs⟩ := rt1.held hd
        refine g_ixT tv.sq (v := .str z) (atI_nat (j := 0) rfl) ?_
        walk_at "rd"
        refine tupG_same (by exact Nat.le_of_ble_eq_true rfl) fun p H2 _ S2 hp => ?_
        refine ⟨p, _, rfl, .inr (SqT.of hp), rfl, rfl, ?_⟩
        walk_at "rd"
        refine g_andC (by rcases hz with rfl | rfl <;> decide +kernel) ?_
        walk_at "rd"
        refine g_lc (g_itup (g_sl1 ?_))
        walk_at "rd"
        have tv1 := TupV.ext S2 tv
        refine ⟨pa, _, rfl, tv1.sq, ?_, fun u hu => ?_⟩
        · intro y
          have z1 := y.1
          rw [show (V.str z :: cs.map V.ref).length = (cs.map V.ref).length + 1 from rfl, six1] at z1
          cases z1
        rw [cut1]
        have tu : SqT K (upd H2 u (.tup (cs.map V.ref))) u (cs.map V.ref) := SqT.of upd_same
        have S3 : Same H1 (upd H2 u (.tup (cs.map V.ref))) := Same.trans S2 (same_new hu)
        generalize (upd H2 u (.tup (cs.map V.ref))) = H3 at tu S3 ⊢
        refine ⟨u, rfl, ⟨_, tu⟩, fun L2 hL2 => ?_⟩
        refine lc_tup (K := K) (a := u) (xs := cs.map V.ref) (fun j H' => Same H3 H' ∧ H' L2 = some (.lst (((blocks t).take j).map fun b => V.int (mB b : Nat)))) ⟨same_new hL2, by rw [upd_same]; rfl⟩ (fun i H' _ e => sqT_ext e.1 tu) ?_ ?_
        · rintro j y H4 hy ⟨S4, h4⟩
          rw [List.getElem?_map] at hy
          obtain ⟨c, hc, rfl⟩ := Option.map_eq_some_iff.mp hy
          obtain ⟨b', xs', hb', tc, rc⟩ := hcs j c hc
          obtain ⟨okb, dpb, mb⟩ := getT hb' okt
          have em := hS.resolve_left (by omega)
          have SH := Same.trans S3 S4
          have hj : j < 2 := by
            have := (List.getElem?_eq_some_iff.mp hb').1
            have := blocks_le t
            omega
          walk_at "rd"
          refine ⟨rfl, ?_⟩
          walk_at "rd"
          rw [em]
          refine ⟨c, b', xs', rfl, TupV.ext SH tc, RepB.kp (Kp.of SH) _ _ rc, okb, by omega, by omega, fun H5 S5 => ?_⟩
          refine ⟨_, S5 _ _ h4, small1000 (by rw [List.length_map, List.length_take]; omega), same_upd hL2 (Same.trans S4 S5), ?_⟩
          rw [upd_same]
          exact congrArg (fun l => some (HO.lst l)) (take_map (fun b => V.int (mB b : Nat)) hb')
        · rintro H4 ⟨S4, h4⟩
          rw [List.length_map, hcl, List.take_length] at h4
          refine .inl ⟨L2, (blocks t).map (fun b => ((mB b : Nat) : Int)), rfl, SqL.of (by rw [h4, List.map_map]; rfl), ?_⟩
          walk_at "rd"
          have e : (1 : Int) + ((blocks t).map (fun b => ((mB b : Nat) : Int))).sum = ((mT t : Nat) : Int) := by rw [mT_blocks]; simp [blocks_sum]
          rw [e]
          exact fin _ (Same.trans S3 S4)
      · have hd' : holdsT t = false := by simpa using hd
        obtain ⟨pa, z, zs, rfl, tv, hz⟩ := rt1.word okt hd'
        refine g_ixT tv.sq (v := .str z) (atI_nat (j := 0) rfl) ?_
        walk_at "rd"
        refine tupG_same (by exact Nat.le_of_ble_eq_true rfl) fun p H2 _ S2 hp => ?_
        refine ⟨p, _, rfl, .inr (SqT.of hp), rfl, rfl, ?_⟩
        walk_at "rd"
        refine g_andC0 hz ?_
        walk_at "rd"
        have e : (1 : Int) = ((mT t : Nat) : Int) := by rw [mT_blocks, blocks_no hd']; rfl
        rw [e]
        exact fin _ S2
    · rintro H1 ⟨S1, h1⟩
      refine .inl ⟨L, b.map (fun t => ((mT t : Nat) : Int)), rfl, SqL.of ?_, ?_⟩
      · rw [h1, ← rb.len, List.take_length, List.map_map]
        rfl
      · rw [mB_sum]
        exact q _ S1
theorem ok_many (T : Txt K mg) (D : Def K mg "_law_many" s_law_many ["_law_block"]) : Cal P w K mg base 5 "_law_many" (spMany K 3) := by
  have b : Cal P w K mg base 1 "_law_many" spNo := cal_of D sc_law_many (fun vs H Q E h => h.elim) (fun f cdv A outer s H vs Q E hr h => h.elim)
  have s0 := many_step (m := 0) (by decide) T D b (.inl rfl)
  have s1 := many_step (m := 1) (by decide) T D s0 (.inr rfl)
  have s2 := many_step (m := 2) (by decide) T D s1 (.inr rfl)
  exact many_step (m := 3) (by decide) T D s2 (.inr rfl)
end
end K2

namespace K2
open PySem PySem.Spec PyProof.Rows L2 Mc Mx
def oV : Option Nat → V
  | none => .non
  | some k => .int (k : Nat)
def fL (at_ : Int) : List (List Tr) → Nat → Nat → Option Nat × Nat
  | [], _, c => (none, c)
  | b :: bs, d, c => if (fB at_ b d c).1.isSome then fB at_ b d c else fL at_ bs d (fB at_ b d c).2
theorem opt_pair {f : Option Nat × Nat} (h : ¬ f.1.isSome = true) : f = (none, f.2) := by
  obtain ⟨a, b⟩ := f
  cases a with
  | none => rfl
  | some k => exact absurd rfl h
theorem fT_L (at_ : Int) (t : Tr) (d c : Nat) (o : okT t) : fT at_ t d c = if (c : Int) = at_ ∨ c = 12 ∨ (holdsT t = true ∧ d = 2) then (some c, c + 1) else fL at_ (blocks t) (d + 1) (c + 1) := by
  cases t with
  | odd => unfold okT at o; exact o.elim
  | leaf i => simp [fT, blocks, fL, holdsT]
  | may b =>
    simp only [fT, blocks, fL, holdsT, true_and]
    by_cases h : (c : Int) = at_ ∨ c = 12 ∨ d = 2
    · rw [if_pos h, if_pos h]
    · rw [if_neg h, if_neg h]
      split
      · rfl
      · rename_i g; exact opt_pair g
  | both b e =>
    simp only [fT, blocks, fL, holdsT, true_and]
    by_cases h : (c : Int) = at_ ∨ c = 12 ∨ d = 2
    · rw [if_pos h, if_pos h]
    · rw [if_neg h, if_neg h]
      split
      · rfl
      · split
        · rfl
        · rename_i g; exact opt_pair g
theorem g_setc {cn : Addr} {x y : V} {H : Hp} {Q : Hp → Prop} (h : H cn = some (.lst [x])) (q : ∀ H', Sx cn H H' → H' cn = some (.lst [y]) → Q H') : rSetL (.ref cn) (.int 0) y H Q := ⟨cn, _, 0, 0, rfl, rfl, h, rfl, q _ sx_upd upd_same⟩
theorem kp_cell {p : Addr} {H H' : Hp} {xs ys : List V} (h : H p = some (.lst xs)) (h' : H' p = some (.lst ys)) (e : Sx p H H') : Kp H H' := fun b o k => by
  by_cases hb : b = p
  · subst hb
    rw [k] at h
    exact .inr ⟨_, _, Option.some.inj h, h'⟩
  · exact .inl (e b o hb k)
section
variable {P : Program} {w : World} {K : PySem.W.Frag} {mg : Str → Option Value} {base : Heap}
local macro_rules | `(tactic| walk_at "rd1") => `(tactic| first
  | with_reducible refine g_seq ?_
  | with_reducible refine g_asg ?_
  | with_reducible refine g_name ?_
  | with_reducible refine g_c ?_
  | with_reducible refine g_op ?_
  | with_reducible refine g_ifS ?_
  | with_reducible refine g_if ?_
  | with_reducible refine g_test ?_
  | with_reducible refine g_B ?_
  | with_reducible refine g_bl ?_
  | with_reducible refine g_blV ?_
  | with_reducible refine g_not ?_
  | with_reducible refine g_and ?_
  | with_reducible refine g_or ?_
  | with_reducible refine g_notV ?_
  | with_reducible refine g_andV ?_
  | with_reducible refine g_orV ?_
  | with_reducible refine g_ret ?_
  | with_reducible refine g_drop ?_
  | with_reducible refine g_next ?_
  | with_reducible refine g_retN ?_
  | with_reducible refine g_call ?_
  | with_reducible refine g_cb ?_
  | with_reducible refine g_cons ?_
  | with_reducible refine g_nil ?_
  | with_reducible refine g_tup ?_
  | with_reducible refine g_lst ?_
  | with_reducible refine g_prop ?_
  | with_reducible refine g_fld ?_
  | with_reducible refine g_meth ?_
  | with_reducible refine g_chain ?_
  | with_reducible refine g_yes ?_
  | with_reducible refine g_make ?_
  | with_reducible refine g_makeK ?_
  | with_reducible refine g_gsub ?_
  | with_reducible refine g_sfld ?_
  | with_reducible refine g_un ?_
  | with_reducible refine g_bm ?_
  | with_reducible refine g_iteT ?_
  | with_reducible refine g_iteF ?_
  | with_reducible refine g_I0 ?_
  | with_reducible refine g_add ?_
  | with_reducible refine g_sub ?_
  | ((with_reducible refine' g_var ?hv ?_); (case hv => rfl))
  | ((with_reducible refine g_eq ?hv ?_); (case hv => rfl))
  | ((with_reducible refine g_ne ?hv ?_); (case hv => rfl)))
local macro_rules | `(tactic| walk_at "rd") => `(tactic| repeat (walk_at "rd1"))

local macro_rules | `(tactic| walk_at "ty") => `(tactic| first | exact .non | exact .bl _ | exact .int _ | exact .str _ | exact .lst (by assumption) | exact .tup (by assumption) | exact .dK (by assumption) | exact .kTup (by assumption) (by assumption))
local macro_rules | `(tactic| walk_at "isiF") => `(tactic| refine g_isi (by walk_at "ty") (b := false) (by decide +kernel) ?_)
local macro_rules | `(tactic| walk_at "isiT") => `(tactic| refine g_isi (by walk_at "ty") (b := true) (by decide +kernel) ?_)

def spFirst (K : PySem.W.Frag) (m : Nat) : Sp := fun vs H Q _ => ∃ (a cn : Addr) (at_ : Int) (d c : Nat) (b : List Tr) (xs : List V), vs = [.ref a, .int at_, .int d, .ref cn] ∧ TupV K H a xs ∧ RepB K H b xs ∧ okB b ∧ d ≤ 2 ∧ 2 ≤ d + m ∧ H cn = some (.lst [.int c]) ∧
  ∀ H' (c' : Nat), Sx cn H H' → H' cn = some (.lst [.int c']) → ((fB at_ b d c).1 = none → c' = (fB at_ b d c).2) → Q (oV (fB at_ b d c).1) H'
theorem first_step {k m : Nat} {spS : Sp} (hk : 1 ≤ k) (T : Txt K mg) (D : Def K mg "_law_first" s_law_first ["_law_block", "_law_at", "_law_depth", "_law_count"]) (c_law_first : Cal P w K mg base k "_law_first" spS) (hS : m = 0 ∨ spS = spFirst K (m - 1)) : Cal P w K mg base (k + 1) "_law_first" (spFirst K m) := by
  refine cal_of D sc_law_first (fun vs H Q E h => ?_) (fun f cdv A outer st H vs Q E hr h => ?_)
  · obtain ⟨a, cn, at_, d, c, b, xs, rfl, _⟩ := h
    rfl
  · obtain ⟨a, cn, at_, d, c, b, xs, rfl, ta, rb, ob, hd, hm, hc, q⟩ := h
    refine ⟨_, (pss_cons (ps_for PassesOwn.never rfl (pi_tup (pv 0)) (pg_name (i := 4) sc_law_first.nd rfl (Or.inl rfl)) (pss_cons (ps_set (i := 5) sc_law_first.nd rfl (Or.inl rfl) (pe_ix ix_list (pv 3) pe_int (fun _ _ => rfl)))
      (pss_cons (ps_asg (pe_op op_add (pv 5) pe_int) (pg_sub (pv 3) pe_int set_list))
      (pss_cons (ps_if (PW.pt (pw_or (pt_cmpR op_eq (pv 5) (pv 1) (nomark _)) (pw_or (pt_cmpR op_eq (pv 5) pe_int (nomark _)) (pw_or1 (PW.pt (pw_and (pt_cmpR op_in_seq (pe_ix ix_tup (pv 4) pe_int (fun _ _ => rfl)) (pe_tup (pa_cons pe_str (pa_cons pe_str pa_nil))) (by rfl)) (pw_and1 (pt_cmpR op_eq (pv 2) pe_int (nomark _))))))))) (pss_one (ps_ret (pv 5))) pss_nil)
      (pss_one (ps_for PassesOwn.never rfl (pi_tup (pe_ifExp (pt_cmpR op_in_seq (pe_ix ix_tup (pv 4) pe_int (fun _ _ => rfl)) (pe_tup (pa_cons pe_str (pa_cons pe_str pa_nil))) (by rfl)) (pe_slice sl_tup (pv 4) (po_some pe_int) po_none) (pe_tup pa_nil))) (pg_name (i := 6) sc_law_first.nd rfl (Or.inl rfl)) (pss_cons (ps_set (i := 7) sc_law_first.nd rfl (Or.inl rfl) (pe_f c_law_first hr (Nat.le_refl _) (by rfl) (pa_cons (pv 6) (pa_cons (pv 1) (pa_cons (pe_op op_add (pv 2) pe_int) (pa_cons (pv 3) pa_nil))))))
      (pss_one (ps_if (pt_cmpR op_notN (pv 7) pe_non (nomark _)) (pss_one (ps_ret (pv 7))) pss_nil)))))))))
      (pss_one (ps_ret pe_non))), ?_⟩
    walk_at "rd"
    refine g_for (g_itup ?_)
    walk_at "rd"
    refine ⟨a, rfl, ⟨xs, ta.sq⟩, ?_⟩
    refine for_tup (K := K) (a := a) (xs := xs) (fun i σ H' => ∃ (o4 o5 o6 o7 : Option V) (c' : Nat), σ = [some (.ref a), some (.int at_), some (.int d), some (.ref cn), o4, o5, o6, o7] ∧ Sx cn H H' ∧ H' cn = some (.lst [.int c']) ∧ fB at_ b d c = fB at_ (b.drop i) d c')
      ⟨_, _, _, _, c, rfl, Sx.refl _, hc, rfl⟩ (fun i σ H' _ ⟨_, _, _, _, _, _, e, hc', _⟩ => (ta.kp (kp_cell hc hc' e)).sq) ?_ ?_
    · rintro i x σ H1 hx ⟨o4, o5, o6, o7, c', rfl, sx1, hc1, hf⟩
      obtain ⟨t, ht, rt⟩ := rb.get hx
      obtain ⟨hi, ht'⟩ := List.getElem?_eq_some_iff.mp ht
      obtain ⟨okt, _, _⟩ := getB ht ob
      have rt1 := RepT.kp (kp_cell hc hc1 sx1) _ _ rt
      have ef : fB at_ (b.drop i) d c' = if (fT at_ t d c').1.isSome then fT at_ t d c' else fB at_ (b.drop (i + 1)) d (fT at_ t d c').2 := by
        rw [List.drop_eq_getElem_cons hi, ht']
        simp only [fB]
      rw [fT_L at_ t d c' okt] at ef
      walk_at "rd"
      refine g_ixL (SqL.of hc1) (v := .int (c' : Nat)) (atI_nat (j := 0) rfl) ?_
      walk_at "rd"
      refine g_setc hc1 fun H2 sx2 hc2 => ?_
      have hc2 : H2 cn = some (.lst [.int ((c' + 1 : Nat) : Int)]) := hc2
      have sx02 := sx1.trans sx2
      have rt2 := RepT.kp (kp_cell hc1 hc2 sx2) _ _ rt1
      walk_at "rd"
      have stop : ∀ H3, Sx cn H H3 → H3 cn = some (.lst [.int ((c' + 1 : Nat) : Int)]) → ((c' : Int) = at_ ∨ c' = 12 ∨ (holdsT t = true ∧ d = 2)) → Q (.int (c' : Nat)) H3 := fun H3 sx3 hc3 hcond => by
        rw [if_pos hcond] at ef
        have e2 : fB at_ b d c = (some c', c' + 1) := by rw [hf, ef]; rfl
        have := q H3 (c' + 1) sx3 hc3 (fun z => by rw [e2] at z; cases z)
        rw [e2] at this
        exact this
      refine g_ite (fun e1 => ?_) (fun e1 => ?_)
      · walk_at "rd"
        exact stop H2 sx02 hc2 (.inl (by have := V.int.inj (of_decide_eq_true e1); exact this))
      have n1 : (c' : Int) ≠ at_ := fun z => absurd (of_decide_eq_false e1) (by rw [z]; simp)
      walk_at "rd"
      refine g_ite (fun e2 => ?_) (fun e2 => ?_)
      · walk_at "rd"
        exact stop H2 sx02 hc2 (.inr (.inl (by have := V.int.inj (of_decide_eq_true e2); omega)))
      have n2 : c' ≠ 12 := fun z => absurd (of_decide_eq_false e2) (by rw [z]; simp)
      walk_at "rd"
      by_cases hh : holdsT t = true
      · obtain ⟨pa, z, cs, rfl, tv, hz, hcl, hcs⟩ := rt2.held hh
        refine g_ixT tv.sq (v := .str z) (atI_nat (j := 0) rfl) ?_
        walk_at "rd"
        refine tupG_same (by exact Nat.le_of_ble_eq_true rfl) fun p3 H3 _ S3 hp3 => ?_
        refine ⟨p3, _, rfl, .inr (SqT.of hp3), rfl, rfl, ?_⟩
        walk_at "rd"
        refine g_andC (by rcases hz with rfl | rfl <;> decide +kernel) ?_
        walk_at "rd"
        have hc3 := S3 _ _ hc2
        have sx03 := sx02.trans (Same.sx (p := cn) S3)
        refine g_ite (fun e3 => ?_) (fun e3 => ?_)
        · walk_at "rd"
          exact stop H3 sx03 hc3 (.inr (.inr ⟨hh, by have := V.int.inj (of_decide_eq_true e3); omega⟩))
        have n3 : d ≠ 2 := fun z => absurd (of_decide_eq_false e3) (by rw [z]; simp)
        walk_at "rd"
        have em := hS.resolve_left (by omega)
        have nc : ¬ ((c' : Int) = at_ ∨ c' = 12 ∨ (holdsT t = true ∧ d = 2)) := by rintro (h | h | ⟨_, h⟩) <;> contradiction
        rw [if_neg nc] at ef
        dsimp only
        refine g_for (g_itup ?_)
        walk_at "rd"
        have tv3 := TupV.ext S3 tv
        refine g_ixT tv3.sq (v := .str z) (atI_nat (j := 0) rfl) ?_
        walk_at "rd"
        refine tupG_same (by exact Nat.le_of_ble_eq_true rfl) fun p4 H4 _ S4 hp4 => ?_
        refine ⟨p4, _, rfl, .inr (SqT.of hp4), rfl, rfl, ?_⟩
        walk_at "rd"
        refine g_andC (by rcases hz with rfl | rfl <;> decide +kernel) ?_
        refine g_sl1 ?_
        walk_at "rd"
        have tv4 := TupV.ext S4 tv3
        refine ⟨pa, _, rfl, tv4.sq, ?_, fun u hu => ?_⟩
        · intro y
          have z1 := y.1
          rw [show (V.str z :: cs.map V.ref).length = (cs.map V.ref).length + 1 from rfl, six1] at z1
          cases z1
        rw [cut1]
        have tu : SqT K (upd H4 u (.tup (cs.map V.ref))) u (cs.map V.ref) := SqT.of upd_same
        have tuT : TupV K (upd H4 u (.tup (cs.map V.ref))) u (cs.map V.ref) := ⟨.tup upd_same, tu⟩
        have S35 : Same H3 (upd H4 u (.tup (cs.map V.ref))) := Same.trans S4 (same_new hu)
        generalize (upd H4 u (.tup (cs.map V.ref))) = H5 at tu tuT S35 ⊢
        have hc5 := S35 _ _ hc3
        have sx05 := sx03.trans (Same.sx (p := cn) S35)
        have S25 := Same.trans S3 S35
        refine ⟨u, rfl, ⟨_, tu⟩, ?_⟩
        refine for_tup (K := K) (a := u) (xs := cs.map V.ref) (fun j σ H' => ∃ (o6 o7 : Option V) (c2 : Nat), σ = [some (.ref a), some (.int at_), some (.int d), some (.ref cn), some (.ref pa), some (.int (c' : Nat)), o6, o7] ∧ Sx cn H5 H' ∧ H' cn = some (.lst [.int c2]) ∧
          fL at_ (blocks t) (d + 1) (c' + 1) = fL at_ ((blocks t).drop j) (d + 1) c2) ⟨_, _, c' + 1, rfl, Sx.refl _, hc5, rfl⟩ (fun i σ H' _ ⟨_, _, _, _, e, hc', _⟩ => (tuT.kp (kp_cell hc5 hc' e)).sq) ?_ ?_
        · rintro j y σ H6 hy ⟨o6, o7, c2, rfl, sx6, hc6, hg⟩
          rw [List.getElem?_map] at hy
          obtain ⟨cc, hcc, rfl⟩ := Option.map_eq_some_iff.mp hy
          obtain ⟨b', xs', hb', tc, rc⟩ := hcs j cc hcc
          obtain ⟨okb, _, _⟩ := getT hb' okt
          have kp6 := (Kp.of S25).trans (kp_cell hc5 hc6 sx6)
          obtain ⟨hj, hbj⟩ := List.getElem?_eq_some_iff.mp hb'
          rw [List.drop_eq_getElem_cons hj, hbj] at hg
          simp only [fL] at hg
          walk_at "rd"
          rw [em]
          refine ⟨cc, cn, at_, d + 1, c2, b', xs', rfl, tc.kp kp6, RepB.kp kp6 _ _ rc, okb, by omega, by omega, hc6, fun H7 c3 sx7 hc7 hn => ?_⟩
          walk_at "rd"
          refine ⟨rfl, ?_⟩
          cases eo : (fB at_ b' (d + 1) c2).1 with
          | none =>
            walk_at "rd"
            refine g_andC0 (by rfl) ?_
            walk_at "rd"
            refine ⟨_, _, c3, rfl, sx6.trans sx7, hc7, ?_⟩
            rw [hg, eo, hn eo]
            rfl
          | some k =>
            walk_at "rd"
            refine g_andC (by rfl) ?_
            walk_at "rd"
            have e9 : (fB at_ b d c).1 = some k := by
              rw [hf, ef, hg, eo]
              simp [eo]
            have := q H7 c3 ((sx05.trans sx6).trans sx7) hc7 (fun z => by rw [e9] at z; cases z)
            rw [e9] at this
            exact this
        · rintro σ H6 ⟨o6, o7, c2, rfl, sx6, hc6, hg⟩
          rw [List.length_map, hcl, List.drop_length] at hg
          refine ⟨_, _, _, _, c2, rfl, sx05.trans sx6, hc6, ?_⟩
          rw [hf, ef, hg]
          rfl
      · have hh' : holdsT t = false := by simpa using hh
        obtain ⟨pa, z, zs, rfl, tv, hz⟩ := rt2.word okt hh'
        refine g_ixT tv.sq (v := .str z) (atI_nat (j := 0) rfl) ?_
        walk_at "rd"
        refine tupG_same (by exact Nat.le_of_ble_eq_true rfl) fun p3 H3 _ S3 hp3 => ?_
        refine ⟨p3, _, rfl, .inr (SqT.of hp3), rfl, rfl, ?_⟩
        walk_at "rd"
        refine g_andC0 hz ?_
        walk_at "rd"
        have hc3 := S3 _ _ hc2
        have sx03 := sx02.trans (Same.sx (p := cn) S3)
        have nc : ¬ ((c' : Int) = at_ ∨ c' = 12 ∨ (holdsT t = true ∧ d = 2)) := by rintro (h | h | ⟨h, _⟩) <;> contradiction
        rw [if_neg nc] at ef
        dsimp only
        refine g_for (g_itup ?_)
        walk_at "rd"
        have tv3 := TupV.ext S3 tv
        refine g_ixT tv3.sq (v := .str z) (atI_nat (j := 0) rfl) ?_
        walk_at "rd"
        refine tupG_same (by exact Nat.le_of_ble_eq_true rfl) fun p4 H4 _ S4 hp4 => ?_
        refine ⟨p4, _, rfl, .inr (SqT.of hp4), rfl, rfl, ?_⟩
        walk_at "rd"
        refine g_andC0 hz ?_
        walk_at "rd"
        refine tupG_same (by exact Nat.le_of_ble_eq_true rfl) fun u H5 _ S5 hu => ?_
        have S35 := Same.trans S4 S5
        have hc5 := S35 _ _ hc3
        have sx05 := sx03.trans (Same.sx (p := cn) S35)
        refine ⟨u, rfl, ⟨_, SqT.of hu⟩, ?_⟩
        refine for_tup (K := K) (a := u) (xs := []) (fun j σ H' => σ = [some (.ref a), some (.int at_), some (.int d), some (.ref cn), some (.ref pa), some (.int (c' : Nat)), o6, o7] ∧ H' = H5) ⟨rfl, rfl⟩ (fun i σ H' _ ⟨_, e⟩ => by rw [e]; exact SqT.of hu) ?_ ?_
        · rintro j y σ H6 hy _
          cases hy
        · rintro σ H6 ⟨rfl, rfl⟩
          refine ⟨_, _, _, _, c' + 1, rfl, sx05, hc5, ?_⟩
          rw [hf, ef, blocks_no hh']
          rfl
    · rintro σ H1 ⟨o4, o5, o6, o7, c', rfl, sx1, hc1, hf⟩
      rw [← rb.len, List.drop_length] at hf
      walk_at "rd"
      have := q H1 c' sx1 hc1 (fun _ => by rw [hf]; rfl)
      rw [hf] at this
      exact this
theorem ok_first (T : Txt K mg) (D : Def K mg "_law_first" s_law_first ["_law_block", "_law_at", "_law_depth", "_law_count"]) : Cal P w K mg base 4 "_law_first" (spFirst K 2) := by
  have b : Cal P w K mg base 1 "_law_first" spNo := cal_of D sc_law_first (fun vs H Q E h => h.elim) (fun f cdv A outer s H vs Q E hr h => h.elim)
  have s0 := first_step (m := 0) (by decide) T D b (.inl rfl)
  have s1 := first_step (m := 1) (by decide) T D s0 (.inr rfl)
  exact first_step (m := 2) (by decide) T D s1 (.inr rfl)
end
end K2

namespace K2
open PySem PySem.Spec PyProof.Rows L2 Mc Mx
/-! ### a tuple beside () -/
def rNe0 (K : PySem.W.Frag) : R2 := fun x y H Q => ∃ d, Dp K H x d ∧ d.canLay0 = true ∧ Dp K H y (.tuple []) ∧ Q (.bl (!PyData.eqv d (.tuple []))) H
theorem op_ne0 {X : Cx} (hu : X.A.units + 64 < cLine) : OpR X (compareOp .NotEq) (rNe0 X.K) := by
  intro pins s σ H x y v u Q I rx ry h
  obtain ⟨d, hd, cd, he, q⟩ := h
  obtain ⟨as, r1⟩ := Dp.reads I d x v hd rx
  obtain ⟨bs, r2⟩ := Dp.reads I _ y u he ry
  refine SeqAt.compareNe_reads r1 r2 cd (by simp only [PyData.canLay0, PyData.canLayAll0]) ?_ ⟨.bl _, H, I, rfl, q⟩
  have : PyData.depth (.tuple []) ≤ 1 := by simp only [PyData.depth, PyData.depthAll]; omega
  omega
def toD : V → PyData
  | .str z => .str z
  | .int i => .int i
  | _ => .none
mutual
def dT : Tr → PyData
  | .leaf i => .tuple ((leafL i).map fun p => toD p.1)
  | .odd => .none
  | .may b => .tuple [.str sMaybe, .tuple (dB b)]
  | .both b c => .tuple [.str sBoth, .tuple (dB b), .tuple (dB c)]
def dB : List Tr → List PyData
  | [] => []
  | t :: b => dT t :: dB b
end
theorem lay_str {z : Str} (h : ∀ c ∈ z.cps.toList, c < 1000) : PyData.strOk z = true := by
  simp only [PyData.strOk]
  rw [Array.all_eq_true']
  intro x hx
  exact decide_eq_true (Nat.lt_trans (h x (Array.mem_toList_iff.mpr hx)) (by decide))
theorem lay_leaf (i : Nat) : PyData.canLayAll0 ((leafL i).map fun p => toD p.1) = true := by
  match i with
  | 0 => simp only [leafL, List.map_cons, List.map_nil, toD, PyData.canLayAll0, lay_str (z := sRun) (by decide +kernel), PyData.canLay0]; rfl
  | 1 => simp only [leafL, List.map_cons, List.map_nil, toD, PyData.canLayAll0, lay_str (z := sRisk) (by decide +kernel), PyData.canLay0]; rfl
  | 2 => simp only [leafL, List.map_cons, List.map_nil, toD, PyData.canLayAll0, lay_str (z := sWant) (by decide +kernel), lay_str (z := sA) (by decide +kernel), lay_str (z := sP) (by decide +kernel), PyData.canLay0]; rfl
  | 3 => simp only [leafL, List.map_cons, List.map_nil, toD, PyData.canLayAll0, lay_str (z := sRun) (by decide +kernel), PyData.canLay0]; rfl
  | i + 4 => simp only [leafL, List.map_cons, List.map_nil, toD, PyData.canLayAll0, lay_str (z := sCall) (by decide +kernel), lay_str (z := sNone) (by decide +kernel), PyData.canLay0]; rfl
mutual
theorem layT : ∀ t : Tr, (dT t).canLay0 = true
  | .leaf i => by unfold dT; simp only [PyData.canLay0]; exact lay_leaf i
  | .odd => by unfold dT; simp only [PyData.canLay0]
  | .may b => by unfold dT; simp only [PyData.canLay0, PyData.canLayAll0, layB b, lay_str (z := sMaybe) (by decide +kernel)]; rfl
  | .both b c => by unfold dT; simp only [PyData.canLay0, PyData.canLayAll0, layB b, layB c, lay_str (z := sBoth) (by decide +kernel)]; rfl
theorem layB : ∀ b : List Tr, PyData.canLayAll0 (dB b) = true
  | [] => by unfold dB; simp only [PyData.canLayAll0]
  | t :: b => by unfold dB; simp only [PyData.canLayAll0, layT t, layB b]; rfl
end
theorem dp_leaf {K : PySem.W.Frag} {H : Hp} (i : Nat) : DpAll K H ((leafL i).map (·.1)) ((leafL i).map fun p => toD p.1) := by
  match i with
  | 0 => exact .cons (.str _) (.cons (.int _) (.cons (.int _) .nil))
  | 1 => exact .cons (.str _) .nil
  | 2 => exact .cons (.str _) (.cons (.str _) (.cons (.str _) .nil))
  | 3 => exact .cons (.str _) (.cons (.int _) (.cons (.int _) .nil))
  | i + 4 => exact .cons (.str _) (.cons (.str _) (.cons (.str _) .nil))
mutual
theorem dpOfT {K : PySem.W.Frag} {H : Hp} : ∀ (t : Tr) (v : V), okT t → RepT K H t v → Dp K H v (dT t)
  | .leaf i, v, o, h => by
    unfold RepT at h
    obtain ⟨a, rfl, tv⟩ := h
    unfold dT
    exact .tup tv.sq (dp_leaf i)
  | .odd, v, o, h => by unfold okT at o; exact o.elim
  | .may b, v, o, h => by
    unfold RepT at h
    unfold okT at o
    obtain ⟨a, c, xs, rfl, tv, tc, rb⟩ := h
    unfold dT
    exact .tup tv.sq (.cons (.str _) (.cons (.tup tc.sq (dpOfB b xs o rb)) .nil))
  | .both b c, v, o, h => by
    unfold RepT at h
    unfold okT at o
    obtain ⟨a, p, q, xs, ys, rfl, tv, tp, rb, tq, rc⟩ := h
    unfold dT
    exact .tup tv.sq (.cons (.str _) (.cons (.tup tp.sq (dpOfB b xs o.1 rb)) (.cons (.tup tq.sq (dpOfB c ys o.2 rc)) .nil)))
theorem dpOfB {K : PySem.W.Frag} {H : Hp} : ∀ (b : List Tr) (xs : List V), okB b → RepB K H b xs → DpAll K H xs (dB b)
  | [], xs, o, h => by
    unfold RepB at h
    rw [h]
    unfold dB
    exact .nil
  | t :: b, xs, o, h => by
    unfold RepB at h
    unfold okB at o
    obtain ⟨v, ys, rfl, rt, rb⟩ := h
    unfold dB
    exact .cons (dpOfT t v o.1 rt) (dpOfB b ys o.2 rb)
end
/-! ### some blocks -/
def RepL (K : PySem.W.Frag) (H : Hp) : List (List Tr) → List Addr → Prop
  | [], cs => cs = []
  | b :: bs, cs => ∃ c r xs, cs = c :: r ∧ TupV K H c xs ∧ RepB K H b xs ∧ RepL K H bs r
theorem RepL.kp {K : PySem.W.Frag} {H H' : Hp} (e : Kp H H') : ∀ {bs : List (List Tr)} {cs : List Addr}, RepL K H bs cs → RepL K H' bs cs
  | [], _, h => h
  | b :: bs, _, ⟨c, r, xs, e1, tc, rb, h⟩ => ⟨c, r, xs, e1, tc.kp e, RepB.kp e _ _ rb, RepL.kp e h⟩
theorem RepL.len {K : PySem.W.Frag} {H : Hp} : ∀ {bs : List (List Tr)} {cs : List Addr}, RepL K H bs cs → cs.length = bs.length
  | [], cs, h => by
    have h : cs = [] := h
    rw [h]; rfl
  | b :: bs, cs, ⟨c, r, xs, e1, tc, rb, h⟩ => by
    subst e1
    exact congrArg (· + 1) (RepL.len h)
theorem RepL.app {K : PySem.W.Frag} {H : Hp} : ∀ {bs ds : List (List Tr)} {cs es : List Addr}, RepL K H bs cs → RepL K H ds es → RepL K H (bs ++ ds) (cs ++ es)
  | [], ds, cs, es, h, h' => by
    have h : cs = [] := h
    subst h
    exact h'
  | b :: bs, ds, cs, es, ⟨c, r, xs, e1, tc, rb, h⟩, h' => by
    subst e1
    exact ⟨c, r ++ es, xs, rfl, tc, rb, RepL.app h h'⟩
theorem RepL.get {K : PySem.W.Frag} {H : Hp} : ∀ {bs : List (List Tr)} {cs : List Addr} {j : Nat} {c : Addr}, RepL K H bs cs → cs[j]? = some c → ∃ b xs, bs[j]? = some b ∧ TupV K H c xs ∧ RepB K H b xs
  | [], cs, j, c, h, e => by
    have h : cs = [] := h
    subst h
    cases e
  | b :: bs, cs, j, c, ⟨c', r, xs, e1, tc, rb, h⟩, e => by
    subst e1
    cases j with
    | zero => cases e; exact ⟨b, xs, rfl, tc, rb⟩
    | succ j => exact RepL.get (bs := bs) (j := j) h e
theorem dpOfL {K : PySem.W.Frag} {H : Hp} : ∀ (bs : List (List Tr)) (cs : List Addr), (∀ b ∈ bs, okB b) → RepL K H bs cs → DpAll K H (cs.map V.ref) (bs.map fun b => PyData.tuple (dB b))
  | [], cs, o, h => by
    have h : cs = [] := h
    subst h
    exact .nil
  | b :: bs, cs, o, ⟨c, r, xs, e1, tc, rb, h⟩ => by
    subst e1
    exact .cons (.tup tc.sq (dpOfB b xs (o b (List.mem_cons_self ..)) rb)) (dpOfL bs r (fun d hd => o d (List.mem_cons_of_mem _ hd)) h)
theorem layL : ∀ bs : List (List Tr), PyData.canLayAll0 (bs.map fun b => PyData.tuple (dB b)) = true
  | [] => by simp only [List.map_nil, PyData.canLayAll0]
  | b :: bs => by simp only [List.map_cons, PyData.canLayAll0, PyData.canLay0, layB b, layL bs]; rfl
def reb : Tr → List (List Tr) → Tr
  | .may _, [b] => .may b
  | .both _ _, [b, c] => .both b c
  | t, _ => t
def bL (at_ : Int) : List (List Tr) → Nat → List (List Tr) × Nat
  | [], c => ([], c)
  | b :: bs, c => ((bB at_ b c).1 :: (bL at_ bs (bB at_ b c).2).1, (bL at_ bs (bB at_ b c).2).2)
theorem bT_L (at_ : Int) (t : Tr) (c : Nat) : bT at_ t c = (if (c : Int) = at_ then .odd else reb t (bL at_ (blocks t) (c + 1)).1, (bL at_ (blocks t) (c + 1)).2) := by
  cases t with
  | leaf i => simp [bT, blocks, bL, reb]
  | odd => simp [bT, blocks, bL, reb]
  | may b => simp [bT, blocks, bL, reb]
  | both b e => simp [bT, blocks, bL, reb]
theorem bL_len (at_ : Int) : ∀ (bs : List (List Tr)) (c : Nat), (bL at_ bs c).1.length = bs.length
  | [], c => rfl
  | b :: bs, c => congrArg (· + 1) (bL_len at_ bs _)
/-- a part that holds blocks, and what is made of others -/
theorem RepT.heldL {K : PySem.W.Frag} {H : Hp} {t : Tr} {v : V} (h : RepT K H t v) (ht : holdsT t = true) : ∃ (a : Addr) (w : Str) (cs : List Addr), v = .ref a ∧ TupV K H a (.str w :: cs.map V.ref) ∧ (w = sMaybe ∨ w = sBoth) ∧ RepL K H (blocks t) cs ∧
    ∀ (H' : Hp) (bs : List (List Tr)) (ds : List Addr) (r : Addr), bs.length = (blocks t).length → RepL K H' bs ds → TupV K H' r (.str w :: ds.map V.ref) → RepT K H' (reb t bs) (.ref r) := by
  cases t with
  | leaf i => cases ht
  | odd => cases ht
  | may b =>
    unfold RepT at h
    obtain ⟨a, c, xs, ev, tv, tc, rb⟩ := h
    refine ⟨a, sMaybe, [c], ev, tv, .inl rfl, ⟨c, [], xs, rfl, tc, rb, rfl⟩, fun H' bs ds r hl hr hv => ?_⟩
    match bs, hl, hr with
    | [b1], _, hr =>
      obtain ⟨c1, r1, xs1, rfl, t1, rb1, h1⟩ := hr
      have h1 : r1 = [] := h1
      subst h1
      show RepT K H' (.may b1) (.ref r)
      unfold RepT
      exact ⟨r, c1, xs1, rfl, hv, t1, rb1⟩
  | both b c =>
    unfold RepT at h
    obtain ⟨a, p, q, xs, ys, ev, tv, tp, rb, tq, rc⟩ := h
    refine ⟨a, sBoth, [p, q], ev, tv, .inr rfl, ⟨p, [q], xs, rfl, tp, rb, q, [], ys, rfl, tq, rc, rfl⟩, fun H' bs ds r hl hr hv => ?_⟩
    match bs, hl, hr with
    | [b1, b2], _, hr =>
      obtain ⟨c1, r1, xs1, rfl, t1, rb1, c2, r2, xs2, rfl, t2, rb2, h2⟩ := hr
      have h2 : r2 = [] := h2
      subst h2
      show RepT K H' (.both b1 b2) (.ref r)
      unfold RepT
      exact ⟨r, c1, c2, xs1, xs2, rfl, hv, t1, rb1, t2, rb2⟩
section
variable {P : Program} {w : World} {K : PySem.W.Frag} {mg : Str → Option Value} {base : Heap}
local macro_rules | `(tactic| walk_at "rd1") => `(tactic| first
  | with_reducible refine g_seq ?_
  | with_reducible refine g_asg ?_
  | with_reducible refine g_name ?_
  | with_reducible refine g_c ?_
  | with_reducible refine g_op ?_
  | with_reducible refine g_ifS ?_
  | with_reducible refine g_if ?_
  | with_reducible refine g_test ?_
  | with_reducible refine g_B ?_
  | with_reducible refine g_bl ?_
  | with_reducible refine g_blV ?_
  | with_reducible refine g_not ?_
  | with_reducible refine g_and ?_
  | with_reducible refine g_or ?_
  | with_reducible refine g_notV ?_
  | with_reducible refine g_andV ?_
  | with_reducible refine g_orV ?_
  | with_reducible refine g_ret ?_
  | with_reducible refine g_drop ?_
  | with_reducible refine g_next ?_
  | with_reducible refine g_retN ?_
  | with_reducible refine g_call ?_
  | with_reducible refine g_cb ?_
  | with_reducible refine g_cons ?_
  | with_reducible refine g_nil ?_
  | with_reducible refine g_tup ?_
  | with_reducible refine g_lst ?_
  | with_reducible refine g_prop ?_
  | with_reducible refine g_fld ?_
  | with_reducible refine g_meth ?_
  | with_reducible refine g_chain ?_
  | with_reducible refine g_yes ?_
  | with_reducible refine g_make ?_
  | with_reducible refine g_makeK ?_
  | with_reducible refine g_gsub ?_
  | with_reducible refine g_sfld ?_
  | with_reducible refine g_un ?_
  | with_reducible refine g_bm ?_
  | with_reducible refine g_iteT ?_
  | with_reducible refine g_iteF ?_
  | with_reducible refine g_I0 ?_
  | with_reducible refine g_add ?_
  | with_reducible refine g_sub ?_
  | ((with_reducible refine' g_var ?hv ?_); (case hv => rfl))
  | ((with_reducible refine g_eq ?hv ?_); (case hv => rfl))
  | ((with_reducible refine g_ne ?hv ?_); (case hv => rfl)))
local macro_rules | `(tactic| walk_at "rd") => `(tactic| repeat (walk_at "rd1"))

local macro_rules | `(tactic| walk_at "ty") => `(tactic| first | exact .non | exact .bl _ | exact .int _ | exact .str _ | exact .lst (by assumption) | exact .tup (by assumption) | exact .dK (by assumption) | exact .kTup (by assumption) (by assumption))
local macro_rules | `(tactic| walk_at "isiF") => `(tactic| refine g_isi (by walk_at "ty") (b := false) (by decide +kernel) ?_)
local macro_rules | `(tactic| walk_at "isiT") => `(tactic| refine g_isi (by walk_at "ty") (b := true) (by decide +kernel) ?_)

def spBent (K : PySem.W.Frag) (m : Nat) : Sp := fun vs H Q _ => ∃ (a cn : Addr) (at_ : Int) (v : V) (c : Nat) (b : List Tr) (xs : List V), vs = [.ref a, .int at_, v, .ref cn] ∧ TupV K H a xs ∧ RepB K H b xs ∧ okB b ∧ dpB b ≤ m ∧ mB b ≤ 1000 ∧ OddV K H v ∧ H cn = some (.lst [.int c]) ∧
  ∀ l ys H', Sx cn H H' → H' cn = some (.lst [.int ((bB at_ b c).2 : Nat)]) → TupV K H' l ys → RepB K H' (bB at_ b c).1 ys → Q (.ref l) H'
theorem bent_step {k m : Nat} {spS : Sp} (hk : 1 ≤ k) (T : Txt K mg) (D : Def K mg "_law_bent" s_law_bent ["_law_block", "_law_at", "_law_odd_here", "_law_count"]) (c_law_bent : Cal P w K mg base k "_law_bent" spS) (hS : m = 0 ∨ spS = spBent K (m - 1)) : Cal P w K mg base (k + 1) "_law_bent" (spBent K m) := by
  refine cal_of D sc_law_bent (fun vs H Q E h => ?_) (fun f cdv A outer st H vs Q E hr h => ?_)
  · obtain ⟨a, cn, at_, v, c, b, xs, rfl, _⟩ := h
    rfl
  · obtain ⟨a, cn, at_, v, c, b, xs, rfl, ta, rb, ob, hd, hmb, ov, hc, q⟩ := h
    have hu : (A.deeper (envOfC "_law_bent" (defScope s_law_bent) st.heap.objs.size f cdv)).units + 64 < cLine := hr.units
    refine ⟨_, (pss_cons (ps_set (i := 4) sc_law_bent.nd rfl (Or.inl rfl) (pe_lst pa_nil))
      (pss_cons (ps_for PassesOwn.never rfl (pi_tup (pv 0)) (pg_name (i := 5) sc_law_bent.nd rfl (Or.inl rfl)) (pss_cons (ps_set (i := 6) sc_law_bent.nd rfl (Or.inl rfl) (pe_ix ix_list (pv 3) pe_int (fun _ _ => rfl)))
      (pss_cons (ps_asg (pe_op op_add (pv 6) pe_int) (pg_sub (pv 3) pe_int set_list))
      (pss_cons (ps_set (i := 7) sc_law_bent.nd rfl (Or.inl rfl) (pe_ifExp (pt_cmpR op_in_seq (pe_ix ix_tup (pv 5) pe_int (fun _ _ => rfl)) (pe_tup (pa_cons pe_str (pa_cons pe_str pa_nil))) (by rfl)) (pe_slice sl_tup (pv 5) (po_some pe_int) po_none) (pe_tup pa_nil)))
      (pss_cons (ps_setLc (i := 8) (own := [("_law_one", 9)]) (g := gName 9) (by rfl) sc_law_bent.nd rfl rfl (sw_true rfl rfl rfl (by decide +kernel)) (pi_tup (pv 7)) (blkOk_by (own := [("_law_one", 9)]) (N := N_law_bent) (sc := defScope s_law_bent) (by decide +kernel)) (fun _ _ _ _ _ => pg_name (i := 9) sc_law_bent.nd rfl (Or.inl rfl)) (fun _ _ _ _ _ => pts_nil) (fun _ _ _ _ _ => (pe_f c_law_bent hr (Nat.le_refl _) (by rfl) (pa_cons (pv 9) (pa_cons (pv 1) (pa_cons (pv 2) (pa_cons (pv 3) pa_nil)))))))
      (pss_one (ps_if (pt_cmpR op_eq (pv 6) (pv 1) (nomark _)) (pss_one (ps_expr (pe_bm PySem.F.plainAttrs_list PySem.F.slot_list_append PySem.F.type_list_append mt_append (pv 4) (pa_cons (pv 2) pa_nil)))) (pss_one (ps_expr (pe_bm PySem.F.plainAttrs_list PySem.F.slot_list_append PySem.F.type_list_append mt_append (pv 4) (pa_cons (pe_ifExp (pt_cmpR (op_ne0 hu) (pv 7) (pe_tup pa_nil) (nomark _)) (pe_op op_catT (pe_tup (pa_cons (pe_ix ix_tup (pv 5) pe_int (fun _ _ => rfl)) pa_nil)) (pe_callTy call_tuple_of (by rfl) T.n_tuple (by decide +kernel) (pa_cons (pv 8) pa_nil))) (pv 5)) pa_nil)))))))))))
      (pss_one (ps_ret (pe_callTy call_tuple_of (by rfl) T.n_tuple (by decide +kernel) (pa_cons (pv 4) pa_nil)))))), ?_⟩
    walk_at "rd"
    refine lstG_same (by exact Nat.le_of_ble_eq_true rfl) fun F H1 F0 S1 hF1 => ?_
    have nFc : F ≠ cn := fun z => by rw [z, hc] at F0; cases F0
    walk_at "rd"
    refine g_for (g_itup ?_)
    walk_at "rd"
    have hbl := len_mB b
    refine ⟨a, rfl, ⟨xs, (TupV.ext S1 ta).sq⟩, ?_⟩
    refine for_tup (K := K) (a := a) (xs := xs) (fun i σ H' => ∃ (o5 o6 o7 o8 o9 : Option V) (c' : Nat) (fs : List V) (dn : List Tr), σ = [some (.ref a), some (.int at_), some v, some (.ref cn), some (.ref F), o5, o6, o7, o8, o9] ∧ Sx cn H H' ∧ H' cn = some (.lst [.int (c' : Nat)]) ∧ H' F = some (.lst fs) ∧ RepB K H' dn fs ∧ dn.length = i ∧
      bB at_ b c = (dn ++ (bB at_ (b.drop i) c').1, (bB at_ (b.drop i) c').2))
      ⟨_, _, _, _, _, c, [], [], rfl, Same.sx S1, S1 _ _ hc, hF1, by unfold RepB; rfl, rfl, rfl⟩ (fun i σ H' _ ⟨_, _, _, _, _, _, _, _, _, e, hc', _⟩ => (ta.kp (kp_cell hc hc' e)).sq) ?_ ?_
    · rintro i x σ H2 hx ⟨o5, o6, o7, o8, o9, c', fs, dn, rfl, sx2, hc2, hF2, rb2, hdn, hf⟩
      obtain ⟨t, ht, rt⟩ := rb.get hx
      obtain ⟨hi, ht'⟩ := List.getElem?_eq_some_iff.mp ht
      obtain ⟨okt, dpt, mt⟩ := getB ht ob
      have hfs := rb2.len
      have ef : bB at_ (b.drop i) c' = ((bT at_ t c').1 :: (bB at_ (b.drop (i + 1)) (bT at_ t c').2).1, (bB at_ (b.drop (i + 1)) (bT at_ t c').2).2) := by
        rw [List.drop_eq_getElem_cons hi, ht']
        simp only [bB]
      have fin : ∀ (H3 : Hp) (y : V) (u : Tr) (n : Nat) (o5 o6 o7 o8 o9 : Option V), bT at_ t c' = (u, n) → Sx cn H H3 → H3 cn = some (.lst [.int (n : Nat)]) → H3 F = some (.lst fs) → RepB K H3 dn fs → RepT K H3 u y →
          ∃ (p5 p6 p7 p8 p9 : Option V) (c' : Nat) (gs : List V) (dm : List Tr), [some (.ref a), some (.int at_), some v, some (.ref cn), some (.ref F), o5, o6, o7, o8, o9] = [some (.ref a), some (.int at_), some v, some (.ref cn), some (.ref F), p5, p6, p7, p8, p9] ∧ Sx cn H (upd H3 F (.lst (fs ++ [y]))) ∧ upd H3 F (.lst (fs ++ [y])) cn = some (.lst [.int (c' : Nat)]) ∧ upd H3 F (.lst (fs ++ [y])) F = some (.lst gs) ∧ RepB K (upd H3 F (.lst (fs ++ [y]))) dm gs ∧ dm.length = i + 1 ∧
          bB at_ b c = (dm ++ (bB at_ (b.drop (i + 1)) c').1, (bB at_ (b.drop (i + 1)) c').2) := by
        intro H3 y u n p5 p6 p7 p8 p9 eT sx3 hc3 hF3 rb3 rt3
        refine ⟨_, _, _, _, _, n, fs ++ [y], dn ++ [u], rfl, sx_fresh F0 sx3, by rw [upd_ne nFc.symm]; exact hc3, upd_same, RepB.kp (Kp.upd hF3) _ _ (rb3.app (RepB.one rt3)), by rw [List.length_append, hdn]; rfl, ?_⟩
        rw [hf, ef, eT, List.append_assoc]
        rfl
      walk_at "rd"
      refine g_ixL (SqL.of hc2) (v := .int (c' : Nat)) (atI_nat (j := 0) rfl) ?_
      walk_at "rd"
      refine g_setc hc2 fun H3 sx3 hc3 => ?_
      have hc3 : H3 cn = some (.lst [.int ((c' + 1 : Nat) : Int)]) := hc3
      have sx03 := sx2.trans sx3
      have kp3 := kp_cell hc hc3 sx03
      have rt3 := RepT.kp kp3 _ _ rt
      have hF3 := sx3 _ _ nFc hF2
      have rb3 := RepB.kp (kp_cell hc2 hc3 sx3) _ _ rb2
      clear hF2 rb2 hc2 sx2
      walk_at "rd"
      have eT := bT_L at_ t c'
      by_cases hh : holdsT t = true
      · obtain ⟨pa, z, cs, rfl, tv, hz, rl, mk⟩ := rt3.heldL hh
        refine g_ixT tv.sq (v := .str z) (atI_nat (j := 0) rfl) ?_
        walk_at "rd"
        refine tupG_same (by exact Nat.le_of_ble_eq_true rfl) fun p4 H4 _ S4 hp4 => ?_
        refine ⟨p4, _, rfl, .inr (SqT.of hp4), rfl, rfl, ?_⟩
        walk_at "rd"
        refine g_andC (by rcases hz with rfl | rfl <;> decide +kernel) ?_
        refine g_sl1 ?_
        walk_at "rd"
        have tv4 := TupV.ext S4 tv
        refine ⟨pa, _, rfl, tv4.sq, ?_, fun u hu0 => ?_⟩
        · intro y
          have z1 := y.1
          rw [show (V.str z :: cs.map V.ref).length = (cs.map V.ref).length + 1 from rfl, six1] at z1
          cases z1
        rw [cut1]
        have tuT : TupV K (upd H4 u (.tup (cs.map V.ref))) u (cs.map V.ref) := ⟨.tup upd_same, SqT.of upd_same⟩
        have S35 : Same H3 (upd H4 u (.tup (cs.map V.ref))) := Same.trans S4 (same_new hu0)
        generalize (upd H4 u (.tup (cs.map V.ref))) = H5 at tuT S35 ⊢
        have hc5 := S35 _ _ hc3
        have hF5 := S35 _ _ hF3
        have rb5 := RepB.kp (Kp.of S35) _ _ rb3
        have sx05 := sx03.trans (Same.sx (p := cn) S35)
        have rl5 := rl.kp (Kp.of S35)
        have tv5 := TupV.ext S35 tv
        walk_at "rd"
        refine g_lc (g_itup ?_)
        walk_at "rd"
        refine ⟨u, rfl, ⟨_, tuT.sq⟩, fun L hL => ?_⟩
        have nLc : L ≠ cn := fun z => by rw [z, hc5] at hL; cases hL
        refine lc_tup (K := K) (a := u) (xs := cs.map V.ref) (fun j H' => ∃ (c2 : Nat) (bs : List (List Tr)) (ds : List Addr), Sx cn H5 H' ∧ H' cn = some (.lst [.int (c2 : Nat)]) ∧ H' L = some (.lst (ds.map V.ref)) ∧ RepL K H' bs ds ∧ bs.length = j ∧ bL at_ (blocks t) (c' + 1) = (bs ++ (bL at_ ((blocks t).drop j) c2).1, (bL at_ ((blocks t).drop j) c2).2))
          ⟨c' + 1, [], [], sx_fresh hL (Sx.refl _), by rw [upd_ne nLc.symm]; exact hc5, upd_same, rfl, rfl, rfl⟩ (fun i H' _ ⟨_, _, _, e, hc', _⟩ => (tuT.kp (kp_cell hc5 hc' e)).sq) ?_ ?_
        · rintro j y H6 hy ⟨c2, bs, ds, sx6, hc6, hL6, rl6, hbs, hg⟩
          rw [List.getElem?_map] at hy
          obtain ⟨cc, hcc, rfl⟩ := Option.map_eq_some_iff.mp hy
          obtain ⟨b', xs', hb', tc, rc⟩ := rl5.get hcc
          obtain ⟨okb, dpb, mb⟩ := getT hb' okt
          have em := hS.resolve_left (by omega)
          have kp6 := kp_cell hc5 hc6 sx6
          obtain ⟨hj, hbj⟩ := List.getElem?_eq_some_iff.mp hb'
          have hj2 := blocks_le t
          have hds := rl6.len
          rw [List.drop_eq_getElem_cons hj, hbj] at hg
          simp only [bL] at hg
          walk_at "rd"
          refine ⟨rfl, ?_⟩
          walk_at "rd"
          rw [em]
          refine ⟨cc, cn, at_, v, c2, b', xs', rfl, tc.kp kp6, RepB.kp kp6 _ _ rc, okb, by omega, by omega, OddV.kp ((kp3.trans (Kp.of S35)).trans kp6) ov, hc6, fun l ys H7 sx7 hc7 tl rl7 => ?_⟩
          have hL7 := sx7 _ _ nLc hL6
          refine ⟨_, hL7, small1000 (by rw [List.length_map]; omega), (bB at_ b' c2).2, bs ++ [(bB at_ b' c2).1], ds ++ [l], sx_fresh hL (sx6.trans sx7), by rw [upd_ne nLc.symm]; exact hc7, by rw [upd_same, List.map_append]; rfl, ?_, by rw [List.length_append, hbs]; rfl, ?_⟩
          · exact RepL.kp (Kp.upd hL7) ((rl6.kp (kp_cell hc6 hc7 sx7)).app ⟨l, [], ys, rfl, tl, rl7, rfl⟩)
          · rw [hg, List.append_assoc]
            rfl
        · rintro H6 ⟨c2, bs, ds, sx6, hc6, hL6, rl6, hbs, hg⟩
          rw [List.length_map, rl.len, List.drop_length] at hg
          have hg : bL at_ (blocks t) (c' + 1) = (bs, c2) := by rw [hg]; simp [bL]
          have hbs : bs.length = (blocks t).length := by rw [hbs, List.length_map, rl.len]
          have hF6 := sx6 _ _ nFc hF5
          have kp6 := kp_cell hc5 hc6 sx6
          have rb6 := RepB.kp kp6 _ _ rb5
          have sx06 := sx05.trans sx6
          have tv6 := tv5.kp kp6
          rw [hg] at eT
          walk_at "rd"
          refine g_ite (fun e1 => ?_) (fun e1 => ?_)
          · have n1 : (c' : Int) = at_ := V.int.inj (of_decide_eq_true e1)
            rw [if_pos n1] at eT
            walk_at "rd"
            refine ⟨.inl ⟨rfl, _, SqL.of hF6⟩, ?_⟩
            walk_at "rd"
            refine ⟨F, _, _, rfl, rfl, hF6, small1000 (by omega), ?_⟩
            exact fin H6 v .odd c2 _ _ _ _ _ eT sx06 hc6 hF6 rb6 (by unfold RepT; exact OddV.kp ((kp3.trans (Kp.of S35)).trans kp6) ov)
          · have n1 : (c' : Int) ≠ at_ := fun z => absurd (of_decide_eq_false e1) (by rw [z]; simp)
            rw [if_neg n1] at eT
            walk_at "rd"
            refine ⟨.inl ⟨rfl, _, SqL.of hF6⟩, ?_⟩
            walk_at "rd"
            refine tupG_same (by exact Nat.le_of_ble_eq_true rfl) fun e0 H7 _ S7 he0 => ?_
            have okl : ∀ b ∈ blocks t, okB b := fun b' hb' => by
              obtain ⟨j, hj⟩ := List.mem_iff_getElem?.mp hb'
              exact (getT hj okt).1
            have ne0 : 0 < (blocks t).length := by cases t <;> first | (cases hh; done) | simp [blocks]
            refine ⟨_, .tup ((tuT.kp kp6).ext S7).sq (dpOfL (blocks t) cs okl (rl5.kp (kp6.trans (Kp.of S7)))), by simp only [PyData.canLay0, layL], .tup (SqT.of he0) .nil, ?_⟩
            walk_at "rd"
            refine g_andC (by
              cases eb : blocks t with
              | nil => rw [eb] at ne0; exact absurd ne0 (by decide)
              | cons b0 bs0 => simp only [List.map_cons, PyData.eqv, PyData.eqvAll]; rfl) ?_
            walk_at "rd"
            refine g_ixT (TupV.ext S7 tv6).sq (v := .str z) (atI_nat (j := 0) rfl) ?_
            walk_at "rd"
            refine tupG_same (by exact Nat.le_of_ble_eq_true rfl) fun t1 H8 _ S8 ht1 => ?_
            walk_at "rd"
            have S68 := Same.trans S7 S8
            refine ⟨L, _, rfl, .inl ⟨SqL.of (S68 _ _ hL6), fun t2 ht2 => ?_⟩⟩
            have hds := rl6.len
            refine ⟨t1, t2, _, _, rfl, rfl, SqT.of (same_new ht2 _ _ ht1), SqT.of upd_same, (by intro z; cases z), sz_le (show ([V.str z] : List V).length + (ds.map V.ref).length ≤ 1000 by rw [List.length_map]; have := blocks_le t; simp only [List.length_cons, List.length_nil]; omega), fun z => ?_, fun _ r hr0 => ?_⟩
            · have := congrArg List.length z
              rw [List.length_map, hds, hbs] at this
              simp only [List.length_nil] at this
              omega
            have S9 : Same H6 (upd (upd H8 t2 (.tup (ds.map V.ref))) r (.tup ([.str z] ++ ds.map V.ref))) := Same.trans S68 (Same.trans (same_new ht2) (same_new hr0))
            have tr : TupV K (upd (upd H8 t2 (.tup (ds.map V.ref))) r (.tup ([.str z] ++ ds.map V.ref))) r (.str z :: ds.map V.ref) := ⟨.tup upd_same, SqT.of upd_same⟩
            generalize upd (upd H8 t2 (.tup (ds.map V.ref))) r (.tup ([.str z] ++ ds.map V.ref)) = H9 at S9 tr ⊢
            have hF9 := S9 _ _ hF6
            refine ⟨F, _, _, rfl, rfl, hF9, small1000 (by omega), ?_⟩
            exact fin H9 _ (reb t bs) c2 _ _ _ _ _ eT (sx06.trans (Same.sx S9)) (S9 _ _ hc6) hF9 (RepB.kp (Kp.of S9) _ _ rb6) (mk H9 bs ds r hbs (rl6.kp (Kp.of S9)) tr)
      · have hh' : holdsT t = false := by simpa using hh
        obtain ⟨pa, z, zs, rfl, tv, hz⟩ := rt3.word okt hh'
        refine g_ixT tv.sq (v := .str z) (atI_nat (j := 0) rfl) ?_
        walk_at "rd"
        refine tupG_same (by exact Nat.le_of_ble_eq_true rfl) fun p4 H4 _ S4 hp4 => ?_
        refine ⟨p4, _, rfl, .inr (SqT.of hp4), rfl, rfl, ?_⟩
        walk_at "rd"
        refine g_andC0 hz ?_
        walk_at "rd"
        refine tupG_same (by exact Nat.le_of_ble_eq_true rfl) fun u H5 _ S5 hu5 => ?_
        have S35 := Same.trans S4 S5
        have hc5 := S35 _ _ hc3
        have hF5 := S35 _ _ hF3
        have rb5 := RepB.kp (Kp.of S35) _ _ rb3
        have sx05 := sx03.trans (Same.sx (p := cn) S35)
        have rt5 := RepT.kp (Kp.of S35) _ _ rt3
        walk_at "rd"
        refine g_lc (g_itup ?_)
        walk_at "rd"
        refine ⟨u, rfl, ⟨_, SqT.of hu5⟩, fun L hL => ?_⟩
        refine lc_tup (K := K) (a := u) (xs := []) (fun j H' => H' = upd H5 L (.lst [])) rfl (fun i H' _ e => by rw [e]; exact SqT.of (same_new hL _ _ hu5)) ?_ ?_
        · rintro j y H6 hy _
          cases hy
        · rintro H6 rfl
          have S6 := same_new (o := .lst []) hL
          have S36 := Same.trans S35 S6
          have hF6 := S6 _ _ hF5
          have hc6 := S6 _ _ hc5
          have rb6 := RepB.kp (Kp.of S6) _ _ rb5
          have rt6 := RepT.kp (Kp.of S6) _ _ rt5
          have sx06 := sx05.trans (Same.sx (p := cn) S6)
          have hu6 := S6 _ _ hu5
          generalize upd H5 L (.lst []) = H6 at S6 S36 hF6 hc6 rb6 rt6 sx06 hu6 ⊢
          rw [blocks_no hh'] at eT
          walk_at "rd"
          refine g_ite (fun e1 => ?_) (fun e1 => ?_)
          · have n1 : (c' : Int) = at_ := V.int.inj (of_decide_eq_true e1)
            rw [if_pos n1] at eT
            walk_at "rd"
            refine ⟨.inl ⟨rfl, _, SqL.of hF6⟩, ?_⟩
            walk_at "rd"
            refine ⟨F, _, _, rfl, rfl, hF6, small1000 (by omega), ?_⟩
            exact fin H6 v .odd (c' + 1) _ _ _ _ _ eT sx06 hc6 hF6 rb6 (by unfold RepT; exact OddV.kp (kp3.trans (Kp.of S36)) ov)
          · have n1 : (c' : Int) ≠ at_ := fun z => absurd (of_decide_eq_false e1) (by rw [z]; simp)
            rw [if_neg n1] at eT
            walk_at "rd"
            refine ⟨.inl ⟨rfl, _, SqL.of hF6⟩, ?_⟩
            walk_at "rd"
            refine tupG_same (by exact Nat.le_of_ble_eq_true rfl) fun e0 H7 _ S7 he0 => ?_
            refine ⟨.tuple [], .tup (SqT.of (S7 _ _ hu6)) .nil, by simp only [PyData.canLay0, PyData.canLayAll0], .tup (SqT.of he0) .nil, ?_⟩
            walk_at "rd"
            refine g_andC0 (by simp only [PyData.eqv, PyData.eqvAll]; rfl) ?_
            walk_at "rd"
            have hF7 := S7 _ _ hF6
            have er : reb t [] = t := by cases t <;> first | rfl | cases hh'
            refine ⟨F, _, _, rfl, rfl, hF7, small1000 (by omega), ?_⟩
            exact fin H7 _ t (c' + 1) _ _ _ _ _ (by rw [eT]; simp only [bL]; rw [er]) (sx06.trans (Same.sx S7)) (S7 _ _ hc6) hF7 (RepB.kp (Kp.of S7) _ _ rb6) (RepT.kp (Kp.of S7) _ _ rt6)
    · rintro σ H2 ⟨o5, o6, o7, o8, o9, c', fs, dn, rfl, sx2, hc2, hF2, rb2, hdn, hf⟩
      rw [← rb.len, List.drop_length] at hf
      have hf : bB at_ b c = (dn, c') := by rw [hf]; simp [bB]
      walk_at "rd"
      refine ⟨F, fs, rfl, .inl ⟨SqL.of hF2, fun l hl => ?_⟩⟩
      have nlc : l ≠ cn := fun z => by rw [z, hc2] at hl; cases hl
      refine q l fs _ (sx2.trans (Same.sx (same_new hl))) (by rw [upd_ne nlc.symm, hc2, hf]) ⟨.tup upd_same, SqT.of upd_same⟩ ?_
      rw [hf]
      exact RepB.kp (Kp.of (same_new hl)) _ _ rb2
theorem ok_bent (T : Txt K mg) (D : Def K mg "_law_bent" s_law_bent ["_law_block", "_law_at", "_law_odd_here", "_law_count"]) : Cal P w K mg base 5 "_law_bent" (spBent K 3) := by
  have b : Cal P w K mg base 1 "_law_bent" spNo := cal_of D sc_law_bent (fun vs H Q E h => h.elim) (fun f cdv A outer s H vs Q E hr h => h.elim)
  have s0 := bent_step (m := 0) (by decide) T D b (.inl rfl)
  have s1 := bent_step (m := 1) (by decide) T D s0 (.inr rfl)
  have s2 := bent_step (m := 2) (by decide) T D s1 (.inr rfl)
  exact bent_step (m := 3) (by decide) T D s2 (.inr rfl)
end
end K2

namespace K2
open PySem PySem.Spec PyProof.Rows L2 Mc Mx
mutual
theorem mT_bent (a : Int) : ∀ (t : Tr) (c : Nat), mT (bT a t c).1 ≤ mT t
  | .leaf i, c => by simp only [bT]; split <;> simp [mT]
  | .odd, c => by simp [bT]
  | .may b, c => by
    have := mB_bent a b (c + 1)
    simp only [bT]
    split <;> simp only [mT] <;> omega
  | .both b e, c => by
    have := mB_bent a b (c + 1)
    have := mB_bent a e (bB a b (c + 1)).2
    simp only [bT]
    split <;> simp only [mT] <;> omega
theorem mB_bent (a : Int) : ∀ (b : List Tr) (c : Nat), mB (bB a b c).1 ≤ mB b
  | [], c => by simp [bB]
  | t :: b, c => by
    have := mT_bent a t c
    have := mB_bent a b (bT a t c).2
    simp only [bB, mB]
    omega
end
theorem wr_last (n : Nat) : wr [(.leaf 4, 0)] n = if n = 12 then some 12 else none := by
  by_cases h : n = 12
  · subst h; rfl
  · rw [if_neg h]
    rw [wr_no (fun z => by rcases z with z | ⟨z, _⟩ | z; exact h z; omega; cases z)]
    rfl
theorem pio_call (b : List Tr) : pio (b ++ [.leaf 4]) 0 = pio b 0 ++ [(.leaf 4, 0)] := by
  rw [pio_app, pio_cons, pio_nil]
  unfold one
  simp only [kids, ite_self, List.append_nil]
theorem eq_str (z : Str) : PyData.eqv (.str z) (.str z) = true := by simp only [PyData.eqv]; exact beq_self_eq_true z
theorem eq_pair (z : Str) (i : Int) : PyData.eqv (.list [.str z, .int i]) (.list [.str z, .int i]) = true := by
  simp only [PyData.eqv, PyData.eqvAll, Bool.and_true, Bool.and_eq_true]
  exact ⟨beq_self_eq_true z, beq_self_eq_true i⟩
theorem sh_str {z : Str} (h : ∀ c ∈ z.cps.toList, c < 1000) : SeqAt.shaped (.str z) = true := by
  unfold SeqAt.shaped
  simp only [PyData.canLay0, lay_str h, PyData.depth]
  rfl
theorem sh_pair {z : Str} {i : Int} (h : ∀ c ∈ z.cps.toList, c < 1000) : SeqAt.shaped (.list [.str z, .int i]) = true := by
  unfold SeqAt.shaped
  simp only [PyData.canLay0, PyData.canLayAll0, lay_str h, PyData.depth, PyData.depthAll]
  rfl
section
variable {P : Program} {w : World} {K : PySem.W.Frag} {mg : Str → Option Value} {base : Heap}
local macro_rules | `(tactic| walk_at "rd1") => `(tactic| first
  | with_reducible refine g_seq ?_
  | with_reducible refine g_asg ?_
  | with_reducible refine g_name ?_
  | with_reducible refine g_c ?_
  | with_reducible refine g_op ?_
  | with_reducible refine g_ifS ?_
  | with_reducible refine g_if ?_
  | with_reducible refine g_test ?_
  | with_reducible refine g_B ?_
  | with_reducible refine g_bl ?_
  | with_reducible refine g_blV ?_
  | with_reducible refine g_not ?_
  | with_reducible refine g_and ?_
  | with_reducible refine g_or ?_
  | with_reducible refine g_notV ?_
  | with_reducible refine g_andV ?_
  | with_reducible refine g_orV ?_
  | with_reducible refine g_ret ?_
  | with_reducible refine g_drop ?_
  | with_reducible refine g_next ?_
  | with_reducible refine g_retN ?_
  | with_reducible refine g_call ?_
  | with_reducible refine g_cb ?_
  | with_reducible refine g_cons ?_
  | with_reducible refine g_nil ?_
  | with_reducible refine g_tup ?_
  | with_reducible refine g_lst ?_
  | with_reducible refine g_prop ?_
  | with_reducible refine g_fld ?_
  | with_reducible refine g_meth ?_
  | with_reducible refine g_chain ?_
  | with_reducible refine g_yes ?_
  | with_reducible refine g_make ?_
  | with_reducible refine g_makeK ?_
  | with_reducible refine g_gsub ?_
  | with_reducible refine g_sfld ?_
  | with_reducible refine g_un ?_
  | with_reducible refine g_bm ?_
  | with_reducible refine g_iteT ?_
  | with_reducible refine g_iteF ?_
  | with_reducible refine g_I0 ?_
  | with_reducible refine g_add ?_
  | with_reducible refine g_sub ?_
  | ((with_reducible refine' g_var ?hv ?_); (case hv => rfl))
  | ((with_reducible refine g_eq ?hv ?_); (case hv => rfl))
  | ((with_reducible refine g_ne ?hv ?_); (case hv => rfl)))
local macro_rules | `(tactic| walk_at "rd") => `(tactic| repeat (walk_at "rd1"))

local macro_rules | `(tactic| walk_at "ty") => `(tactic| first | exact .non | exact .bl _ | exact .int _ | exact .str _ | exact .lst (by assumption) | exact .tup (by assumption) | exact .dK (by assumption) | exact .kTup (by assumption) (by assumption))
local macro_rules | `(tactic| walk_at "isiF") => `(tactic| refine g_isi (by walk_at "ty") (b := false) (by decide +kernel) ?_)
local macro_rules | `(tactic| walk_at "isiT") => `(tactic| refine g_isi (by walk_at "ty") (b := true) (by decide +kernel) ?_)

theorem g_par {σ : L2.St} {H : Hp} {D : Ends} {i j : Nat} {ta : TA} (q : ta σ H fun vs H1 => ∃ v w, vs = [v, w] ∧ D.nx ((σ.set i (some v)).set j (some w)) H1) : tPar i j ta D σ H := q
theorem same_sx {p : Addr} {H H1 H2 : Hp} (p0 : H p = none) (S : Same H H1) (e : Sx p H1 H2) : Same H H2 := fun b o k => e b o (ne_of_none k p0) (S b o k)

def spLaw (K : PySem.W.Frag) : Sp := fun vs H Q _ => ∃ (a : Addr) (ns : List Int), vs = [.ref a] ∧ SqL K H a (ns.map V.int) ∧ ns.length ≤ 63 ∧ ∀ H', Q (.bl true) H'
theorem ok_law {f : Addr} {fd : FuncData} (F : Fun K "law" "law" s_law f fd) (T : Txt K mg) (c_law_pool : Cal P w K mg base 1 "_law_pool" (spPool K)) (c_law_draw : Cal P w K mg base 1 "_law_draw" spDraw)
    (c_law_odd : Cal P w K mg base 2 "_law_odd" (spOdd K)) (c_law_tree : Cal P w K mg base 5 "_law_tree" (spTree K 3)) (c_law_first : Cal P w K mg base 4 "_law_first" (spFirst K 2)) (c_law_bent : Cal P w K mg base 5 "_law_bent" (spBent K 3))
    (c_law_many : Cal P w K mg base 5 "_law_many" (spMany K 3)) (c_law_told : Cal P w K mg base 12 "_law_told" (spTold K)) : FnG P w K mg base CX0 13 f fd ["_law_script"] (spLaw K) := by
  refine fnG_of F sc_law (fun vs H Q E h => ?_) (fun cdv A outer s H vs Q E hgA hr h => ?_)
  · obtain ⟨a, ns, rfl, _⟩ := h
    rfl
  · obtain ⟨a, ns, rfl, hS, hlen, k⟩ := h
    have hu : (A.deeper (envOfC "law" (defScope s_law) s.heap.objs.size f cdv)).units + 64 < cLine := hr.units
    refine ⟨_, (pss_cons (ps_for PassesOwn.never rfl (pi_range1 (by rfl) T.n_range (pa_cons (pe_callB (call_max2 rfl) (by rfl) T.n_max (by decide +kernel) (pa_cons pe_int (pa_cons (pe_callB (call_min2 rfl) (by rfl) T.n_min (by decide +kernel) (pa_cons (pe_callB call_len_seq (by rfl) T.n_len (by decide +kernel) (pa_cons (pv 0) pa_nil)) (pa_cons pe_int pa_nil))) pa_nil))) pa_nil)) (pg_name (i := 1) sc_law.nd rfl (Or.inl rfl)) (pss_cons (ps_set (i := 2) sc_law.nd rfl (Or.inr rfl) (pe_f c_law_pool hr (by decide) (by rfl) (pa_cons (pv 0) (pa_cons (pv 1) pa_nil))))
      (pss_one (ps_for PassesOwn.never rfl (pi_range1 (by rfl) T.n_range (pa_cons pe_int pa_nil)) (pg_name (i := 3) sc_law.nd rfl (Or.inl rfl)) (pss_cons (ps_set (i := 4) sc_law.nd rfl (Or.inl rfl) (pe_callTy call_tuple_of (by rfl) T.n_tuple (by decide +kernel) (pa_cons (pe_lc (own := [("_law_place", 5)]) (g := gName 5) (by rfl) sc_law.nd (pi_range1 (by rfl) T.n_range (pa_cons (pe_op op_add pe_int (pe_f c_law_draw hr (by decide) (by rfl) (pa_cons (pv 2) (pa_cons pe_int pa_nil)))) pa_nil)) (blkOk_by (own := [("_law_place", 5)]) (N := N_law) (sc := defScope s_law) (by decide +kernel)) (fun _ _ _ _ _ => pg_name (i := 5) sc_law.nd rfl (Or.inl rfl)) (fun _ _ _ _ _ => pts_nil) (fun _ _ _ _ _ => (pe_f c_law_tree hr (by decide) (by rfl) (pa_cons (pv 2) (pa_cons pe_int pa_nil))))) pa_nil)))
      (pss_cons (ps_par (i := 6) (j := 7) (by rfl) sc_law.nd rfl rfl (by decide) rfl rfl (pa_cons (pe_f c_law_draw hr (by decide) (by rfl) (pa_cons (pv 2) (pa_cons pe_int pa_nil))) (pa_cons (pe_f c_law_odd hr (by decide) (by rfl) (pa_cons (pv 2) pa_nil)) pa_nil)) (by rfl))
      (pss_cons (ps_set (i := 8) sc_law.nd rfl (Or.inl rfl) (pe_f c_law_first hr (by decide) (by rfl) (pa_cons (pv 4) (pa_cons (pv 6) (pa_cons pe_int (pa_cons (pe_lst (pa_cons pe_int pa_nil)) pa_nil))))))
      (pss_cons (ps_set (i := 9) sc_law.nd rfl (Or.inl rfl) (pe_f c_law_told hr (by decide) (by rfl) (pa_cons (pe_f c_law_bent hr (by decide) (by rfl) (pa_cons (pv 4) (pa_cons (pv 6) (pa_cons (pv 7) (pa_cons (pe_lst (pa_cons pe_int pa_nil)) pa_nil))))) pa_nil)))
      (pss_cons (ps_if (pt_cmpR (op_neD hu) (pv 9) (pe_ifExp (pt_cmpR op_isN (pv 8) pe_non (nomark _)) pe_str (pe_lst (pa_cons pe_str (pa_cons (pv 8) pa_nil)))) (nomark _)) (pss_one (ps_ret pe_bl)) pss_nil)
      (pss_cons (ps_set (i := 8) sc_law.nd rfl (Or.inl rfl) (pe_f c_law_first hr (by decide) (by rfl) (pa_cons (pv 4) (pa_cons (pe_un un_neg pe_int) (pa_cons pe_int (pa_cons (pe_lst (pa_cons pe_int pa_nil)) pa_nil))))))
      (pss_one (ps_if (pt_cmpR (op_neD hu) (pe_f c_law_told hr (by decide) (by rfl) (pa_cons (pe_op op_catT (pv 4) (pe_tup (pa_cons (pe_tup (pa_cons pe_str (pa_cons pe_str (pa_cons pe_str pa_nil)))) pa_nil))) pa_nil)) (pe_ifExp (pt_cmpR op_notN (pv 8) pe_non (nomark _)) (pe_lst (pa_cons pe_str (pa_cons (pv 8) pa_nil))) (pe_ifExp (pt_cmpR op_ge (pe_f c_law_many hr (by decide) (by rfl) (pa_cons (pv 4) pa_nil)) pe_int (nomark _)) (pe_lst (pa_cons pe_str (pa_cons pe_int pa_nil))) pe_str)) (nomark _)) (pss_one (ps_ret pe_bl)) pss_nil))))))))))))
      (pss_one (ps_ret pe_bl))), ?_⟩
    walk_at "rd"
    refine g_for (g_irng ?_)
    walk_at "rd"
    refine ⟨a, _, rfl, .inl hS, ?_⟩
    walk_at "rd"
    refine ⟨_, _, rfl, ?_⟩
    walk_at "rd"
    refine ⟨_, _, rfl, ?_⟩
    walk_at "rd"
    obtain ⟨j, ej, j0, j8⟩ : ∃ j : Int, (if (if (8 : Int) < ((ns.map V.int).length : Int) then 8 else ((ns.map V.int).length : Int)) > 1 then (if (8 : Int) < ((ns.map V.int).length : Int) then 8 else ((ns.map V.int).length : Int)) else 1) = j ∧ 0 ≤ j ∧ j ≤ 8 := by
      refine ⟨_, rfl, ?_, ?_⟩ <;> (split <;> split <;> omega)
    rw [ej]
    refine ⟨j, rfl, by omega, by omega, ?_⟩
    refine for_range (lo := 0) (n := j.toNat) (fun i σ H' => ∃ o1 o2 o3 o4 o5 o6 o7 o8 o9 : Option V, σ = [some (.ref a), o1, o2, o3, o4, o5, o6, o7, o8, o9] ∧ Same H H') ⟨_, _, _, _, _, _, _, _, _, rfl, Same.refl _⟩ ?_ ?_
    · rintro kk σ H1 hi ⟨o1, o2, o3, o4, o5, o6, o7, o8, o9, rfl, S1⟩
      walk_at "rd"
      refine ⟨a, 0 + (kk : Int), ns, rfl, sqL_ext S1 hS, by omega, by omega, fun p H2 p0 S2 pl2 => ?_⟩
      walk_at "rd"
      dsimp only
      refine g_for (g_irng ?_)
      walk_at "rd"
      refine ⟨6, rfl, by decide, by decide, ?_⟩
      have p00 := none_of S1 p0
      have S02 := Same.trans S1 S2
      clear S2 p0 S1 hi
      refine for_range (lo := 0) (n := 6) (fun i σ H' => ∃ o1 o3 o4 o5 o6 o7 o8 o9 : Option V, σ = [some (.ref a), o1, some (.ref p), o3, o4, o5, o6, o7, o8, o9] ∧ Same H H' ∧ PoolAt H' p) ⟨_, _, _, _, _, _, _, _, rfl, S02, pl2⟩ ?_ ?_
      · rintro ii σ H3 hi ⟨o1', o3', o4', o5', o6', o7', o8', o9', rfl, S3, pl3⟩
        walk_at "rd"
        refine g_lc (g_irng ?_)
        walk_at "rd"
        refine ⟨p, 5, rfl, pl3, by decide, by decide, fun many H4 m0 m1 pl4 sx4 => ?_⟩
        walk_at "rd"
        refine ⟨1 + many, rfl, by omega, by omega, fun L hL => ?_⟩
        have npL := pl4.off hL
        have L3 : H3 L = none := Sx.free pl4 sx4 hL
        refine lc_range (lo := 0) (n := (1 + many).toNat) (fun i H' => ∃ (ts : List Tr) (vs : List V), ts.length = i ∧ H' L = some (.lst vs) ∧ RepB K H' ts vs ∧ okB ts ∧ mB ts ≤ i * 22 ∧ dpB ts ≤ 3 ∧ PoolAt H' p ∧ Sx p H3 H') ?_ ?_ ?_
        · exact ⟨[], [], rfl, upd_same, by unfold RepB; rfl, by unfold okB; trivial, by unfold mB; omega, by unfold dpB; omega, pl4.upd npL, sx_fresh L3 sx4⟩
        · rintro i H5 hi ⟨ts, vs, hn, hl5, rb5, ok5, mb5, db5, pl5, sx5⟩
          walk_at "rd"
          refine ⟨rfl, ?_⟩
          walk_at "rd"
          refine ⟨p, 3, rfl, Nat.le_refl _, pl5, fun v t H6 rt okt mt dt pl6 sx6 => ?_⟩
          have mt : mT t ≤ 22 := mt
          have hl6 := sx6 _ _ npL.symm hl5
          have kp6 := kp_sx pl5 pl6 sx6
          have hvs := rb5.len
          refine ⟨vs, hl6, small1000 (by omega), ts ++ [t], vs ++ [v], by rw [List.length_append, hn]; rfl, upd_same, ?_, okB_app ok5 (okB_one okt), ?_, ?_, pl6.upd npL, sx_fresh L3 (sx5.trans sx6)⟩
          · exact RepB.kp (Kp.upd hl6) _ _ ((RepB.kp kp6 _ _ rb5).app (RepB.one rt))
          · rw [mB_app, mB_one, Nat.add_mul]; omega
          · rw [dpB_app, dpB_one]; omega
        · rintro H5 ⟨ts, vs, hn, hl5, rb5, ok5, mb5, db5, pl5, sx5⟩
          have hvs := rb5.len
          have ts0 : 1 ≤ ts.length := by omega
          have mb : mB ts ≤ 110 := Nat.le_trans mb5 (by omega)
          refine ⟨L, vs, rfl, .inl ⟨SqL.of hl5, fun c hc => ?_⟩⟩
          have S5 := same_new (o := .tup vs) hc
          have tc : TupV K (upd H5 c (.tup vs)) c vs := ⟨.tup upd_same, SqT.of upd_same⟩
          generalize upd H5 c (.tup vs) = H6 at S5 tc ⊢
          have rb6 := RepB.kp (Kp.of S5) _ _ rb5
          have pl6 := pl5.ext S5
          have S06 : Same H H6 := Same.trans (same_sx p00 S3 sx5) S5
          clear sx5 S5 hl5 rb5 pl5 sx4 pl4 hL L3 npL S3 pl3 mb5 hn
          walk_at "rd"
          refine g_par ?_
          walk_at "rd"
          refine ⟨p, 16, rfl, pl6, by decide, by decide, fun at_ H7 a0 a1 pl7 sx7 => ?_⟩
          walk_at "rd"
          refine ⟨p, rfl, pl7, fun v H8 ov pl8 sx8 => ?_⟩
          have sx68 := sx7.trans sx8
          have kp8 := kp_sx pl6 pl8 sx68
          have S08 := same_sx p00 S06 sx68
          have tc8 := tc.kp kp8
          have rb8 := RepB.kp kp8 _ _ rb6
          clear sx7 sx8 sx68 pl7 pl6 rb6 tc S06 kp8
          walk_at "rd"
          refine ⟨_, _, rfl, ?_⟩
          walk_at "rd"
          -- the first place, told
          refine lstG_same (by exact Nat.le_of_ble_eq_true rfl) fun cn H9 cn0 S9 hcn => ?_
          walk_at "rd"
          refine ⟨c, cn, at_, 0, 0, ts, vs, rfl, TupV.ext S9 tc8, RepB.kp (Kp.of S9) _ _ rb8, ok5, by decide, by decide, hcn, fun H10 c' sx10 hc10 _ => ?_⟩
          have S10 : Same H8 H10 := same_sx cn0 S9 sx10
          walk_at "rd"
          refine lstG_same (by exact Nat.le_of_ble_eq_true rfl) fun cn2 H11 cn20 S11 hcn2 => ?_
          walk_at "rd"
          have S811 := Same.trans S10 S11
          refine ⟨c, cn2, at_, v, 0, ts, vs, rfl, TupV.ext S811 tc8, RepB.kp (Kp.of S811) _ _ rb8, ok5, db5, by omega, OddV.kp (Kp.of S811) ov, hcn2, fun l ys H12 sx12 hc12 tl rl => ?_⟩
          have S12 : Same H8 H12 := Same.trans S10 (same_sx cn20 S11 sx12)
          walk_at "rd"
          have hfb := first_bent ok5 at_
          have hwk := wkB_bent at_ ts 0 ok5
          have hpl : (pio (bB at_ ts 0).1 0).length ≤ 1000 := Nat.le_trans (pioB_le _ _) (Nat.le_trans (mB_bent at_ ts 0) (by omega))
          generalize (fB at_ ts 0 0).1 = fo at hfb ⊢
          cases fo with
          | some n =>
            refine ⟨l, _, ys, rfl, tl, rl, hpl, .inl ⟨n, hfb, fun l2 H13 S13 hl2 => ?_⟩⟩
            walk_at "rd"
            refine ⟨rfl, ?_⟩
            walk_at "rd"
            refine g_andC0 (by rfl) ?_
            walk_at "rd"
            refine lstG_same (by exact Nat.le_of_ble_eq_true rfl) fun l3 H14 _ S14 hl3 => ?_
            have S814 := Same.trans S12 (Same.trans S13 S14)
            refine ⟨.list [.str sB, .int (n : Nat)], .list [.str sB, .int (n : Nat)], .lst (SqL.of (S14 _ _ hl2)) (.cons (.str _) (.cons (.int _) .nil)), .lst (SqL.of hl3) (.cons (.str _) (.cons (.int _) .nil)), sh_pair (by decide +kernel), sh_pair (by decide +kernel), ?_⟩
            walk_at "rd"
            rw [eq_pair]
            show (if false = true then _ else _)
            walk_at "rd"
            refine ⟨_, rfl, ?_⟩
            walk_at "rd"
            refine lstG_same (by exact Nat.le_of_ble_eq_true rfl) fun cn3 H15 cn30 S15 hcn3 => ?_
            walk_at "rd"
            have S815 := Same.trans S814 S15
            refine ⟨c, cn3, -1, 0, 0, ts, vs, rfl, TupV.ext S815 tc8, RepB.kp (Kp.of S815) _ _ rb8, ok5, by decide, by decide, hcn3, fun H16 c2 sx16 hc16 _ => ?_⟩
            have S816 : Same H8 H16 := Same.trans S814 (same_sx cn30 S15 sx16)
            walk_at "rd"
            refine tupG_same (by exact Nat.le_of_ble_eq_true rfl) fun t1 H17 _ S17 ht1 => ?_
            walk_at "rd"
            refine tupG_same (by exact Nat.le_of_ble_eq_true rfl) fun t2 H18 _ S18 ht2 => ?_
            have S818 := Same.trans S816 (Same.trans S17 S18)
            have hvne : vs ≠ [] := fun z => by rw [z] at hvs; rw [hvs] at ts0; exact absurd ts0 (by decide)
            have vlen : vs.length ≤ 500 := by have := len_mB ts; omega
            refine ⟨c, t2, _, _, rfl, rfl, (TupV.ext S818 tc8).sq, SqT.of ht2, hvne, sz_le (show vs.length + 1 ≤ 1000 by omega), (fun z => by cases z), fun _ r hr0 => ?_⟩
            have S19 : Same H18 (upd H18 r (.tup (vs ++ [.ref t1]))) := same_new hr0
            have tr : TupV K (upd H18 r (.tup (vs ++ [.ref t1]))) r (vs ++ [.ref t1]) := ⟨.tup upd_same, SqT.of upd_same⟩
            generalize upd H18 r (.tup (vs ++ [.ref t1])) = H19 at S19 tr ⊢
            have S819 := Same.trans S818 S19
            have rb19 : RepB K H19 (ts ++ [.leaf 4]) (vs ++ [.ref t1]) := by
              refine (RepB.kp (Kp.of S819) _ _ rb8).app (RepB.one ?_)
              unfold RepT
              exact ⟨t1, rfl, TupV.ext (Same.trans S18 S19) ⟨.tup ht1, SqT.of ht1⟩⟩
            have hpl2 : (pio (ts ++ [.leaf 4]) 0).length ≤ 1000 := by
              have := pioB_le ts 0
              rw [pio_call, List.length_append]
              simp only [List.length_cons, List.length_nil]
              omega
            obtain ⟨hm1, hm2⟩ := first_many ok5
            have hwr : wr (pio (ts ++ [.leaf 4]) 0) 0 = if (wr (pio ts 0) 0).isSome then wr (pio ts 0) 0 else wr [(.leaf 4, 0)] (0 + (pio ts 0).length) := by rw [pio_call, wr_app]
            rw [hm1] at hwr
            generalize (fB (-1) ts 0 0).1 = fo2 at hm1 hm2 hwr ⊢
            cases fo2 with
            | some n =>
              refine ⟨r, _, _, rfl, tr, rb19, hpl2, .inl ⟨n, hwr, fun l4 H20 S20 hl4 => ?_⟩⟩
              walk_at "rd"
              refine ⟨rfl, ?_⟩
              walk_at "rd"
              refine g_andC (by rfl) ?_
              walk_at "rd"
              refine lstG_same (by exact Nat.le_of_ble_eq_true rfl) fun l5 H21 _ S21 hl5 => ?_
              have S821 := Same.trans S819 (Same.trans S20 S21)
              refine ⟨.list [.str sB, .int (n : Nat)], .list [.str sB, .int (n : Nat)], .lst (SqL.of (S21 _ _ hl4)) (.cons (.str _) (.cons (.int _) .nil)), .lst (SqL.of hl5) (.cons (.str _) (.cons (.int _) .nil)), sh_pair (by decide +kernel), sh_pair (by decide +kernel), ?_⟩
              walk_at "rd"
              rw [eq_pair]
              show (if false = true then _ else _)
              walk_at "rd"
              exact ⟨_, _, _, _, _, _, _, _, rfl, Same.trans S08 S821, pl8.ext S821⟩
            | none =>
              have hn := hm2 rfl
              have hwr : wr (pio (ts ++ [.leaf 4]) 0) 0 = wr [(.leaf 4, 0)] (0 + (pio ts 0).length) := hwr
              rw [Nat.zero_add, wr_last] at hwr
              have h12 := wr_short hm1
              by_cases n12 : (pio ts 0).length = 12
              · rw [if_pos n12] at hwr
                refine ⟨r, _, _, rfl, tr, rb19, hpl2, .inl ⟨12, hwr, fun l4 H20 S20 hl4 => ?_⟩⟩
                have S820 := Same.trans S819 S20
                walk_at "rd"
                refine ⟨rfl, ?_⟩
                walk_at "rd"
                refine g_andC0 (by rfl) ?_
                walk_at "rd"
                refine ⟨c, ts, vs, rfl, TupV.ext S820 tc8, RepB.kp (Kp.of S820) _ _ rb8, ok5, db5, by omega, fun H21 S21 => ?_⟩
                walk_at "rd"
                refine g_andC (decide_eq_true (by omega)) ?_
                walk_at "rd"
                refine lstG_same (by exact Nat.le_of_ble_eq_true rfl) fun l5 H22 _ S22 hl5 => ?_
                have S822 := Same.trans S820 (Same.trans S21 S22)
                refine ⟨.list [.str sB, .int 12], .list [.str sB, .int 12], .lst (SqL.of (S22 _ _ (S21 _ _ hl4))) (.cons (.str _) (.cons (.int _) .nil)), .lst (SqL.of hl5) (.cons (.str _) (.cons (.int _) .nil)), sh_pair (by decide +kernel), sh_pair (by decide +kernel), ?_⟩
                walk_at "rd"
                rw [eq_pair]
                show (if false = true then _ else _)
                walk_at "rd"
                exact ⟨_, _, _, _, _, _, _, _, rfl, Same.trans S08 S822, pl8.ext S822⟩
              · rw [if_neg n12] at hwr
                have mem : Tr.leaf (0 + 4) ∈ csOf (pio (ts ++ [.leaf 4]) 0) := by
                  rw [pio_call]
                  unfold csOf
                  rw [List.filter_append, List.map_append]
                  exact List.mem_append_right _ (by simp [isCallT])
                refine ⟨r, _, _, rfl, tr, rb19, hpl2, .inr (.inr ⟨hwr, ⟨0, mem⟩, fun H20 S20 => ?_⟩)⟩
                have S820 := Same.trans S819 S20
                walk_at "rd"
                refine ⟨rfl, ?_⟩
                walk_at "rd"
                refine g_andC0 (by rfl) ?_
                walk_at "rd"
                refine ⟨c, ts, vs, rfl, TupV.ext S820 tc8, RepB.kp (Kp.of S820) _ _ rb8, ok5, db5, by omega, fun H21 S21 => ?_⟩
                walk_at "rd"
                refine g_andC0 (decide_eq_false (by omega)) ?_
                walk_at "rd"
                have S821 := Same.trans S820 S21
                refine ⟨.str sNone, .str sNone, .str _, .str _, sh_str (by decide +kernel), sh_str (by decide +kernel), ?_⟩
                walk_at "rd"
                rw [eq_str]
                show (if false = true then _ else _)
                walk_at "rd"
                exact ⟨_, _, _, _, _, _, _, _, rfl, Same.trans S08 S821, pl8.ext S821⟩
          | none =>
            refine ⟨l, _, ys, rfl, tl, rl, hpl, .inr (.inl ⟨hfb, (wr_fine hfb hwk).1, fun H14 S14 => ?_⟩)⟩
            have S814 := Same.trans S12 S14
            walk_at "rd"
            refine ⟨rfl, ?_⟩
            walk_at "rd"
            refine g_andC (by rfl) ?_
            walk_at "rd"
            refine ⟨.str sMade, .str sMade, .str _, .str _, sh_str (by decide +kernel), sh_str (by decide +kernel), ?_⟩
            walk_at "rd"
            rw [eq_str]
            show (if false = true then _ else _)
            walk_at "rd"
            refine ⟨_, rfl, ?_⟩
            walk_at "rd"
            refine lstG_same (by exact Nat.le_of_ble_eq_true rfl) fun cn3 H15 cn30 S15 hcn3 => ?_
            walk_at "rd"
            have S815 := Same.trans S814 S15
            refine ⟨c, cn3, -1, 0, 0, ts, vs, rfl, TupV.ext S815 tc8, RepB.kp (Kp.of S815) _ _ rb8, ok5, by decide, by decide, hcn3, fun H16 c2 sx16 hc16 _ => ?_⟩
            have S816 : Same H8 H16 := Same.trans S814 (same_sx cn30 S15 sx16)
            walk_at "rd"
            refine tupG_same (by exact Nat.le_of_ble_eq_true rfl) fun t1 H17 _ S17 ht1 => ?_
            walk_at "rd"
            refine tupG_same (by exact Nat.le_of_ble_eq_true rfl) fun t2 H18 _ S18 ht2 => ?_
            have S818 := Same.trans S816 (Same.trans S17 S18)
            have hvne : vs ≠ [] := fun z => by rw [z] at hvs; rw [hvs] at ts0; exact absurd ts0 (by decide)
            have vlen : vs.length ≤ 500 := by have := len_mB ts; omega
            refine ⟨c, t2, _, _, rfl, rfl, (TupV.ext S818 tc8).sq, SqT.of ht2, hvne, sz_le (show vs.length + 1 ≤ 1000 by omega), (fun z => by cases z), fun _ r hr0 => ?_⟩
            have S19 : Same H18 (upd H18 r (.tup (vs ++ [.ref t1]))) := same_new hr0
            have tr : TupV K (upd H18 r (.tup (vs ++ [.ref t1]))) r (vs ++ [.ref t1]) := ⟨.tup upd_same, SqT.of upd_same⟩
            generalize upd H18 r (.tup (vs ++ [.ref t1])) = H19 at S19 tr ⊢
            have S819 := Same.trans S818 S19
            have rb19 : RepB K H19 (ts ++ [.leaf 4]) (vs ++ [.ref t1]) := by
              refine (RepB.kp (Kp.of S819) _ _ rb8).app (RepB.one ?_)
              unfold RepT
              exact ⟨t1, rfl, TupV.ext (Same.trans S18 S19) ⟨.tup ht1, SqT.of ht1⟩⟩
            have hpl2 : (pio (ts ++ [.leaf 4]) 0).length ≤ 1000 := by
              have := pioB_le ts 0
              rw [pio_call, List.length_append]
              simp only [List.length_cons, List.length_nil]
              omega
            obtain ⟨hm1, hm2⟩ := first_many ok5
            have hwr : wr (pio (ts ++ [.leaf 4]) 0) 0 = if (wr (pio ts 0) 0).isSome then wr (pio ts 0) 0 else wr [(.leaf 4, 0)] (0 + (pio ts 0).length) := by rw [pio_call, wr_app]
            rw [hm1] at hwr
            generalize (fB (-1) ts 0 0).1 = fo2 at hm1 hm2 hwr ⊢
            cases fo2 with
            | some n =>
              refine ⟨r, _, _, rfl, tr, rb19, hpl2, .inl ⟨n, hwr, fun l4 H20 S20 hl4 => ?_⟩⟩
              walk_at "rd"
              refine ⟨rfl, ?_⟩
              walk_at "rd"
              refine g_andC (by rfl) ?_
              walk_at "rd"
              refine lstG_same (by exact Nat.le_of_ble_eq_true rfl) fun l5 H21 _ S21 hl5 => ?_
              have S821 := Same.trans S819 (Same.trans S20 S21)
              refine ⟨.list [.str sB, .int (n : Nat)], .list [.str sB, .int (n : Nat)], .lst (SqL.of (S21 _ _ hl4)) (.cons (.str _) (.cons (.int _) .nil)), .lst (SqL.of hl5) (.cons (.str _) (.cons (.int _) .nil)), sh_pair (by decide +kernel), sh_pair (by decide +kernel), ?_⟩
              walk_at "rd"
              rw [eq_pair]
              show (if false = true then _ else _)
              walk_at "rd"
              exact ⟨_, _, _, _, _, _, _, _, rfl, Same.trans S08 S821, pl8.ext S821⟩
            | none =>
              have hn := hm2 rfl
              have hwr : wr (pio (ts ++ [.leaf 4]) 0) 0 = wr [(.leaf 4, 0)] (0 + (pio ts 0).length) := hwr
              rw [Nat.zero_add, wr_last] at hwr
              have h12 := wr_short hm1
              by_cases n12 : (pio ts 0).length = 12
              · rw [if_pos n12] at hwr
                refine ⟨r, _, _, rfl, tr, rb19, hpl2, .inl ⟨12, hwr, fun l4 H20 S20 hl4 => ?_⟩⟩
                have S820 := Same.trans S819 S20
                walk_at "rd"
                refine ⟨rfl, ?_⟩
                walk_at "rd"
                refine g_andC0 (by rfl) ?_
                walk_at "rd"
                refine ⟨c, ts, vs, rfl, TupV.ext S820 tc8, RepB.kp (Kp.of S820) _ _ rb8, ok5, db5, by omega, fun H21 S21 => ?_⟩
                walk_at "rd"
                refine g_andC (decide_eq_true (by omega)) ?_
                walk_at "rd"
                refine lstG_same (by exact Nat.le_of_ble_eq_true rfl) fun l5 H22 _ S22 hl5 => ?_
                have S822 := Same.trans S820 (Same.trans S21 S22)
                refine ⟨.list [.str sB, .int 12], .list [.str sB, .int 12], .lst (SqL.of (S22 _ _ (S21 _ _ hl4))) (.cons (.str _) (.cons (.int _) .nil)), .lst (SqL.of hl5) (.cons (.str _) (.cons (.int _) .nil)), sh_pair (by decide +kernel), sh_pair (by decide +kernel), ?_⟩
                walk_at "rd"
                rw [eq_pair]
                show (if false = true then _ else _)
                walk_at "rd"
                exact ⟨_, _, _, _, _, _, _, _, rfl, Same.trans S08 S822, pl8.ext S822⟩
              · rw [if_neg n12] at hwr
                have mem : Tr.leaf (0 + 4) ∈ csOf (pio (ts ++ [.leaf 4]) 0) := by
                  rw [pio_call]
                  unfold csOf
                  rw [List.filter_append, List.map_append]
                  exact List.mem_append_right _ (by simp [isCallT])
                refine ⟨r, _, _, rfl, tr, rb19, hpl2, .inr (.inr ⟨hwr, ⟨0, mem⟩, fun H20 S20 => ?_⟩)⟩
                have S820 := Same.trans S819 S20
                walk_at "rd"
                refine ⟨rfl, ?_⟩
                walk_at "rd"
                refine g_andC0 (by rfl) ?_
                walk_at "rd"
                refine ⟨c, ts, vs, rfl, TupV.ext S820 tc8, RepB.kp (Kp.of S820) _ _ rb8, ok5, db5, by omega, fun H21 S21 => ?_⟩
                walk_at "rd"
                refine g_andC0 (decide_eq_false (by omega)) ?_
                walk_at "rd"
                have S821 := Same.trans S820 S21
                refine ⟨.str sNone, .str sNone, .str _, .str _, sh_str (by decide +kernel), sh_str (by decide +kernel), ?_⟩
                walk_at "rd"
                rw [eq_str]
                show (if false = true then _ else _)
                walk_at "rd"
                exact ⟨_, _, _, _, _, _, _, _, rfl, Same.trans S08 S821, pl8.ext S821⟩
      · rintro σ H3 ⟨o1', o3', o4', o5', o6', o7', o8', o9', rfl, S3, pl3⟩
        exact ⟨_, _, _, _, _, _, _, _, _, rfl, S3⟩
    · rintro σ H1 ⟨o1, o2, o3, o4, o5, o6, o7, o8, o9, rfl, S1⟩
      walk_at "rd"
      exact k _
end
end K2

namespace K2
open PySem PySem.Spec PyProof.Rows L2 Mc Mx
abbrev FI (K : PySem.W.Frag) (go f : Addr) (fd : FuncData) : Prop := FunD K "__init__" "Policy.__init__" (defArgs s_Policyinit) (defBody s_Policyinit) (defScope s_Policyinit) [] (kwsP go) f fd
theorem kc_nil {α : Type} {D : Addr} {t : Sem α} {r : α} (h : t = pure r) : KwChain D [] t r := h
theorem kc_cons {α β γ : Type} {D : Addr} {n : Str} {v : Value} {l : List (Str × Value)} {t : Sem α} {r : α} {k1 : Option Value → Sem β} {k2 : β → Sem γ} {k3 : γ → Sem α} {a : β} (h : t = ((nsGet D n >>= k1) >>= k2) >>= k3) (h1 : k1 (some v) = pure a)
    (h2 : KwChain D l (k2 a >>= k3) r) : KwChain D ((n, v) :: l) t r := ⟨β, γ, k1, k2, k3, a, h, h1, h2⟩
theorem b_none {go f : Addr} {fd : FuncData} {K : PySem.W.Frag} (F : FI K go f fd) : ∃ ds, Vals [.int 1, .non, .non, .bl false, .ref go] ds ∧ Binds K fd psP ds :=
  F.binds0 (ps := psP) 3 (by simp) rfl (fun D doc pm an cdv ct us ks h1 h2 => match us, ks, h1, h2 with
    | [_, _, _], [_, _, _, _, _], _, _ => kc_cons rfl rfl (kc_cons rfl rfl (kc_cons rfl rfl (kc_cons rfl rfl (kc_cons rfl rfl (kc_nil rfl))))))
theorem exm_is {K : PySem.W.Frag} {A B : Addr} {b : Bool} (be : PySem.W.subIn K (.ref B) (.type "BaseException") = some true) (ty : PySem.W.typeIn K (.ref B) = some (.type "type")) (hd : PySem.W.hasDictIn K B = true) (s : PySem.W.subIn K (.ref A) (.ref B) = some b) : PySem.W.exmOne K (.ref A) (.ref B) = some b := by
  obtain ⟨cd, hc, _⟩ := PySem.W.any_some hd
  unfold PySem.W.exmOne
  rw [be]
  show (if ((PySem.W.clsIn K B).isSome && PySem.W.typeIn K (.ref B) == some (.type "type")) = true then PySem.W.subIn K (.ref A) (.ref B) else none) = some b
  rw [hc, ty, s]
  simp
theorem all_mk {l : PySem.W.OpenLaw} {w : World} {K : PySem.W.Frag} {h : Heap} {mg : Str → Option Value} {fa : Addr} {fg0 : Addr} {odg0 ang0 : Option Addr} {slg0 : Array (Option Value)} {ocg0 dcg0 pmg0 cdg0 ctg0 kVg0 : Value} {fg1 : Addr} {odg1 ang1 : Option Addr} {slg1 : Array (Option Value)} {ocg1 dcg1 pmg1 cdg1 ctg1 kVg1 : Value} {fg2 : Addr} {odg2 ang2 : Option Addr} {slg2 : Array (Option Value)} {ocg2 dcg2 pmg2 cdg2 ctg2 kVg2 : Value} {fg3 : Addr} {odg3 ang3 : Option Addr} {slg3 : Array (Option Value)} {ocg3 dcg3 pmg3 cdg3 ctg3 kVg3 : Value} {fg4 : Addr} {odg4 ang4 : Option Addr} {slg4 : Array (Option Value)} {ocg4 dcg4 pmg4 cdg4 ctg4 kVg4 : Value} {fg5 : Addr} {odg5 ang5 : Option Addr} {slg5 : Array (Option Value)} {ocg5 dcg5 pmg5 cdg5 ctg5 kVg5 : Value} {fg6 : Addr} {odg6 ang6 : Option Addr} {slg6 : Array (Option Value)} {ocg6 dcg6 pmg6 cdg6 ctg6 kVg6 : Value} {fg7 : Addr} {odg7 ang7 : Option Addr} {slg7 : Array (Option Value)} {ocg7 dcg7 pmg7 cdg7 ctg7 kVg7 : Value} {fg8 : Addr} {odg8 ang8 : Option Addr} {slg8 : Array (Option Value)} {ocg8 dcg8 pmg8 cdg8 ctg8 kVg8 : Value} {fg9 : Addr} {odg9 ang9 : Option Addr} {slg9 : Array (Option Value)} {ocg9 dcg9 pmg9 cdg9 ctg9 kVg9 : Value} {fg10 : Addr} {odg10 ang10 : Option Addr} {slg10 : Array (Option Value)} {ocg10 dcg10 pmg10 cdg10 ctg10 kVg10 : Value} {fg11 : Addr} {odg11 ang11 : Option Addr} {slg11 : Array (Option Value)} {ocg11 dcg11 pmg11 cdg11 ctg11 kVg11 : Value} {fg12 : Addr} {odg12 ang12 : Option Addr} {slg12 : Array (Option Value)} {ocg12 dcg12 pmg12 cdg12 ctg12 kVg12 : Value} {fg13 : Addr} {odg13 ang13 : Option Addr} {slg13 : Array (Option Value)} {ocg13 dcg13 pmg13 cdg13 ctg13 kVg13 : Value} {fg14 : Addr} {odg14 ang14 : Option Addr} {slg14 : Array (Option Value)} {ocg14 dcg14 pmg14 cdg14 ctg14 kVg14 : Value} {fg15 : Addr} {odg15 ang15 : Option Addr} {slg15 : Array (Option Value)} {ocg15 dcg15 pmg15 cdg15 ctg15 kVg15 : Value} {fg16 : Addr} {odg16 ang16 : Option Addr} {slg16 : Array (Option Value)} {ocg16 dcg16 pmg16 cdg16 ctg16 kVg16 : Value} {fg17 : Addr} {odg17 ang17 : Option Addr} {slg17 : Array (Option Value)} {ocg17 dcg17 pmg17 cdg17 ctg17 kVg17 : Value} {fg18 : Addr} {odg18 ang18 : Option Addr} {slg18 : Array (Option Value)} {ocg18 dcg18 pmg18 cdg18 ctg18 kVg18 : Value} {fg19 : Addr} {odg19 ang19 : Option Addr} {slg19 : Array (Option Value)} {ocg19 dcg19 pmg19 cdg19 ctg19 kVg19 : Value} {fg20 : Addr} {odg20 ang20 : Option Addr} {slg20 : Array (Option Value)} {ocg20 dcg20 pmg20 cdg20 ctg20 kVg20 : Value} {fg21 : Addr} {odg21 ang21 : Option Addr} {slg21 : Array (Option Value)} {ocg21 dcg21 pmg21 cdg21 ctg21 kVg21 : Value} {fg22 : Addr} {odg22 ang22 : Option Addr} {slg22 : Array (Option Value)} {ocg22 dcg22 pmg22 cdg22 ctg22 kVg22 : Value} {fg23 : Addr} {odg23 ang23 : Option Addr} {slg23 : Array (Option Value)} {ocg23 dcg23 pmg23 cdg23 ctg23 kVg23 : Value} {fg24 : Addr} {odg24 ang24 : Option Addr} {slg24 : Array (Option Value)} {ocg24 dcg24 pmg24 cdg24 ctg24 kVg24 : Value} {fg25 : Addr} {odg25 ang25 : Option Addr} {slg25 : Array (Option Value)} {ocg25 dcg25 pmg25 cdg25 ctg25 kVg25 : Value} {fg26 : Addr} {odg26 ang26 : Option Addr} {slg26 : Array (Option Value)} {ocg26 dcg26 pmg26 cdg26 ctg26 kVg26 : Value} {fg27 : Addr} {odg27 ang27 : Option Addr} {slg27 : Array (Option Value)} {ocg27 dcg27 pmg27 cdg27 ctg27 kVg27 : Value} {fL : Addr} {odL anL : Option Addr} {slL : Array (Option Value)} {ocL dcL pmL cdL ctL kVL : Value} {tpio : Addr} {tkpio : Tok} {tpd : Option Addr} {tpn : Nat} {tps : Array (Option Value)} {fO : Addr} {odO anO : Option Addr} {slO : Array (Option Value)} {ocO dcO pmO cdO ctO kVO : Value} {tL : Tok} {tc0 : Tok} {tc1 : Tok} {tc2 : Tok} {tc3 : Tok} {tc4 : Tok} {tc5 : Tok} {tc6 : Tok} {tc7 : Tok} {C : Addr} {Dk : Addr} {fI : Addr} {odI anI : Option Addr} {slI : Array (Option Value)} {ocI dcI pmI cdI ctI : Value} {go : Addr} {tk1 tk2 : Tok} {gd : Option Addr} {gn : Nat} {gs : Array (Option Value)} {p_name : Addr} {r_name : List Value} {fpname : Addr} {odpname anpname : Option Addr} {slpname : Array (Option Value)} {ocpname dcpname pmpname cdpname ctpname kVpname : Value} {p_limit : Addr} {r_limit : List Value} {fplimit : Addr} {odplimit anplimit : Option Addr} {slplimit : Array (Option Value)} {ocplimit dcplimit pmplimit cdplimit ctplimit kVplimit : Value} {p_tries : Addr} {r_tries : List Value} {fptries : Addr} {odptries anptries : Option Addr} {slptries : Array (Option Value)} {ocptries dcptries pmptries cdptries ctptries kVptries : Value} {p_pauses : Addr} {r_pauses : List Value} {fppauses : Addr} {odppauses anppauses : Option Addr} {slppauses : Array (Option Value)} {ocppauses dcppauses pmppauses cdppauses ctppauses kVppauses : Value} {p_early : Addr} {r_early : List Value} {fpearly : Addr} {odpearly anpearly : Option Addr} {slpearly : Array (Option Value)} {ocpearly dcpearly pmpearly cdpearly ctpearly kVpearly : Value} {CS : Addr} {fS : Addr} {odS anS : Option Addr} {slS : Array (Option Value)} {ocS dcS pmS cdS ctS kVS : Value} {CP : Addr} {nmP qnP : Str} {NP : Addr} {bsP bmP : List Value} {snP : List Str} {subP : List Value} {abP : Bool} {colP : Option Bool} {ddP : Option Addr} {k0P k1P k2P k3P k5P : Option Value} {fP cP ccP : Addr} {odP anP cddP cldP : Option Addr} {oslP ccsP cslP : Array (Option Value)} {ocP kVP dcP pmP ctP cclP clP : Value} {vsP : Array Value} {flP : Str} {tfP : Tok} {CU : Addr} {nmU qnU : Str} {NU : Addr} {bsU : List Value} {snU : List Str} {subU : List Value} {abU : Bool} {colU : Option Bool} {ddU : Option Addr} {k0U k1U k2U k3U k5U : Option Value} {fU cU ccU : Addr} {odU anU cddU cldU : Option Addr} {oslU ccsU cslU : Array (Option Value)} {ocU kVU dcU pmU ctU cclU clU : Value} {vsU : Array Value} {flU : Str} {tfU : Tok}
    (X : K.In h) (G : h.Ns mainGlobals mg) (hfa : mg "law" = some (.ref fa))
    (ag0 : PySem.W.nsIn K mainGlobals "is_integer" = some (some (.ref fg0)))
    (lg0 : K.lookup fg0 = some ⟨ocg0, odg0, .func (PySem.W.fnOf "is_integer" "is_integer" (defArgs s_is_integer) (defBody s_is_integer) (defScope s_is_integer) .none kVg0 dcg0 pmg0 ang0 cdg0 ctg0), slg0⟩)
    (cg0 : PySem.W.codeIn K cdg0 "is_integer" = true)
    (kg0 : PySem.W.keepIn K (.ref fg0) = true)
    (ag1 : PySem.W.nsIn K mainGlobals "is_between" = some (some (.ref fg1)))
    (lg1 : K.lookup fg1 = some ⟨ocg1, odg1, .func (PySem.W.fnOf "is_between" "is_between" (defArgs s_is_between) (defBody s_is_between) (defScope s_is_between) .none kVg1 dcg1 pmg1 ang1 cdg1 ctg1), slg1⟩)
    (cg1 : PySem.W.codeIn K cdg1 "is_between" = true)
    (kg1 : PySem.W.keepIn K (.ref fg1) = true)
    (ag2 : PySem.W.nsIn K mainGlobals "is_name" = some (some (.ref fg2)))
    (lg2 : K.lookup fg2 = some ⟨ocg2, odg2, .func (PySem.W.fnOf "is_name" "is_name" (defArgs s_is_name) (defBody s_is_name) (defScope s_is_name) .none kVg2 dcg2 pmg2 ang2 cdg2 ctg2), slg2⟩)
    (cg2 : PySem.W.codeIn K cdg2 "is_name" = true)
    (kg2 : PySem.W.keepIn K (.ref fg2) = true)
    (ag3 : PySem.W.nsIn K mainGlobals "is_part" = some (some (.ref fg3)))
    (lg3 : K.lookup fg3 = some ⟨ocg3, odg3, .func (PySem.W.fnOf "is_part" "is_part" (defArgs s_is_part) (defBody s_is_part) (defScope s_is_part) .none kVg3 dcg3 pmg3 ang3 cdg3 ctg3), slg3⟩)
    (cg3 : PySem.W.codeIn K cdg3 "is_part" = true)
    (kg3 : PySem.W.keepIn K (.ref fg3) = true)
    (ag4 : PySem.W.nsIn K mainGlobals "is_call" = some (some (.ref fg4)))
    (lg4 : K.lookup fg4 = some ⟨ocg4, odg4, .func (PySem.W.fnOf "is_call" "is_call" (defArgs s_is_call) (defBody s_is_call) (defScope s_is_call) .none kVg4 dcg4 pmg4 ang4 cdg4 ctg4), slg4⟩)
    (cg4 : PySem.W.codeIn K cdg4 "is_call" = true)
    (kg4 : PySem.W.keepIn K (.ref fg4) = true)
    (ag5 : PySem.W.nsIn K mainGlobals "holds_blocks" = some (some (.ref fg5)))
    (lg5 : K.lookup fg5 = some ⟨ocg5, odg5, .func (PySem.W.fnOf "holds_blocks" "holds_blocks" (defArgs s_holds_blocks) (defBody s_holds_blocks) (defScope s_holds_blocks) .none kVg5 dcg5 pmg5 ang5 cdg5 ctg5), slg5⟩)
    (cg5 : PySem.W.codeIn K cdg5 "holds_blocks" = true)
    (kg5 : PySem.W.keepIn K (.ref fg5) = true)
    (ag6 : PySem.W.nsIn K mainGlobals "calls_in_order" = some (some (.ref fg6)))
    (lg6 : K.lookup fg6 = some ⟨ocg6, odg6, .func (PySem.W.fnOf "calls_in_order" "calls_in_order" (defArgs s_calls_in_order) (defBody s_calls_in_order) (defScope s_calls_in_order) .none kVg6 dcg6 pmg6 ang6 cdg6 ctg6), slg6⟩)
    (cg6 : PySem.W.codeIn K cdg6 "calls_in_order" = true)
    (kg6 : PySem.W.keepIn K (.ref fg6) = true)
    (ag7 : PySem.W.nsIn K mainGlobals "block_span" = some (some (.ref fg7)))
    (lg7 : K.lookup fg7 = some ⟨ocg7, odg7, .func (PySem.W.fnOf "block_span" "block_span" (defArgs s_block_span) (defBody s_block_span) (defScope s_block_span) .none kVg7 dcg7 pmg7 ang7 cdg7 ctg7), slg7⟩)
    (cg7 : PySem.W.codeIn K cdg7 "block_span" = true)
    (kg7 : PySem.W.keepIn K (.ref fg7) = true)
    (ag8 : PySem.W.nsIn K mainGlobals "part_span" = some (some (.ref fg8)))
    (lg8 : K.lookup fg8 = some ⟨ocg8, odg8, .func (PySem.W.fnOf "part_span" "part_span" (defArgs s_part_span) (defBody s_part_span) (defScope s_part_span) .none kVg8 dcg8 pmg8 ang8 cdg8 ctg8), slg8⟩)
    (cg8 : PySem.W.codeIn K cdg8 "part_span" = true)
    (kg8 : PySem.W.keepIn K (.ref fg8) = true)
    (ag9 : PySem.W.nsIn K mainGlobals "call_span" = some (some (.ref fg9)))
    (lg9 : K.lookup fg9 = some ⟨ocg9, odg9, .func (PySem.W.fnOf "call_span" "call_span" (defArgs s_call_span) (defBody s_call_span) (defScope s_call_span) .none kVg9 dcg9 pmg9 ang9 cdg9 ctg9), slg9⟩)
    (cg9 : PySem.W.codeIn K cdg9 "call_span" = true)
    (kg9 : PySem.W.keepIn K (.ref fg9) = true)
    (ag10 : PySem.W.nsIn K mainGlobals "accepts" = some (some (.ref fg10)))
    (lg10 : K.lookup fg10 = some ⟨ocg10, odg10, .func (PySem.W.fnOf "accepts" "accepts" (defArgs s_accepts) (defBody s_accepts) (defScope s_accepts) .none kVg10 dcg10 pmg10 ang10 cdg10 ctg10), slg10⟩)
    (cg10 : PySem.W.codeIn K cdg10 "accepts" = true)
    (kg10 : PySem.W.keepIn K (.ref fg10) = true)
    (ag11 : PySem.W.nsIn K mainGlobals "_wrong_field" = some (some (.ref fg11)))
    (lg11 : K.lookup fg11 = some ⟨ocg11, odg11, .func (PySem.W.fnOf "_wrong_field" "_wrong_field" (defArgs s_wrong_field) (defBody s_wrong_field) (defScope s_wrong_field) .none kVg11 dcg11 pmg11 ang11 cdg11 ctg11), slg11⟩)
    (cg11 : PySem.W.codeIn K cdg11 "_wrong_field" = true)
    (kg11 : PySem.W.keepIn K (.ref fg11) = true)
    (ag12 : PySem.W.nsIn K mainGlobals "_are_pauses" = some (some (.ref fg12)))
    (lg12 : K.lookup fg12 = some ⟨ocg12, odg12, .func (PySem.W.fnOf "_are_pauses" "_are_pauses" (defArgs s_are_pauses) (defBody s_are_pauses) (defScope s_are_pauses) .none kVg12 dcg12 pmg12 ang12 cdg12 ctg12), slg12⟩)
    (cg12 : PySem.W.codeIn K cdg12 "_are_pauses" = true)
    (kg12 : PySem.W.keepIn K (.ref fg12) = true)
    (ag13 : PySem.W.nsIn K mainGlobals "_is_ending" = some (some (.ref fg13)))
    (lg13 : K.lookup fg13 = some ⟨ocg13, odg13, .func (PySem.W.fnOf "_is_ending" "_is_ending" (defArgs s_is_ending) (defBody s_is_ending) (defScope s_is_ending) .none kVg13 dcg13 pmg13 ang13 cdg13 ctg13), slg13⟩)
    (cg13 : PySem.W.codeIn K cdg13 "_is_ending" = true)
    (kg13 : PySem.W.keepIn K (.ref fg13) = true)
    (ag14 : PySem.W.nsIn K mainGlobals "_all_pauses" = some (some (.ref fg14)))
    (lg14 : K.lookup fg14 = some ⟨ocg14, odg14, .func (PySem.W.fnOf "_all_pauses" "_all_pauses" (defArgs s_all_pauses) (defBody s_all_pauses) (defScope s_all_pauses) .none kVg14 dcg14 pmg14 ang14 cdg14 ctg14), slg14⟩)
    (cg14 : PySem.W.codeIn K cdg14 "_all_pauses" = true)
    (kg14 : PySem.W.keepIn K (.ref fg14) = true)
    (ag15 : PySem.W.nsIn K mainGlobals "_check_policies" = some (some (.ref fg15)))
    (lg15 : K.lookup fg15 = some ⟨ocg15, odg15, .func (PySem.W.fnOf "_check_policies" "_check_policies" (defArgs s_check_policies) (defBody s_check_policies) (defScope s_check_policies) .none kVg15 dcg15 pmg15 ang15 cdg15 ctg15), slg15⟩)
    (cg15 : PySem.W.codeIn K cdg15 "_check_policies" = true)
    (kg15 : PySem.W.keepIn K (.ref fg15) = true)
    (ag16 : PySem.W.nsIn K mainGlobals "_check_services" = some (some (.ref fg16)))
    (lg16 : K.lookup fg16 = some ⟨ocg16, odg16, .func (PySem.W.fnOf "_check_services" "_check_services" (defArgs s_check_services) (defBody s_check_services) (defScope s_check_services) .none kVg16 dcg16 pmg16 ang16 cdg16 ctg16), slg16⟩)
    (cg16 : PySem.W.codeIn K cdg16 "_check_services" = true)
    (kg16 : PySem.W.keepIn K (.ref fg16) = true)
    (ag17 : PySem.W.nsIn K mainGlobals "_is_service" = some (some (.ref fg17)))
    (lg17 : K.lookup fg17 = some ⟨ocg17, odg17, .func (PySem.W.fnOf "_is_service" "_is_service" (defArgs s_is_service) (defBody s_is_service) (defScope s_is_service) .none kVg17 dcg17 pmg17 ang17 cdg17 ctg17), slg17⟩)
    (cg17 : PySem.W.codeIn K cdg17 "_is_service" = true)
    (kg17 : PySem.W.keepIn K (.ref fg17) = true)
    (ag18 : PySem.W.nsIn K mainGlobals "_check_parts" = some (some (.ref fg18)))
    (lg18 : K.lookup fg18 = some ⟨ocg18, odg18, .func (PySem.W.fnOf "_check_parts" "_check_parts" (defArgs s_check_parts) (defBody s_check_parts) (defScope s_check_parts) .none kVg18 dcg18 pmg18 ang18 cdg18 ctg18), slg18⟩)
    (cg18 : PySem.W.codeIn K cdg18 "_check_parts" = true)
    (kg18 : PySem.W.keepIn K (.ref fg18) = true)
    (ag19 : PySem.W.nsIn K mainGlobals "_check_names" = some (some (.ref fg19)))
    (lg19 : K.lookup fg19 = some ⟨ocg19, odg19, .func (PySem.W.fnOf "_check_names" "_check_names" (defArgs s_check_names) (defBody s_check_names) (defScope s_check_names) .none kVg19 dcg19 pmg19 ang19 cdg19 ctg19), slg19⟩)
    (cg19 : PySem.W.codeIn K cdg19 "_check_names" = true)
    (kg19 : PySem.W.keepIn K (.ref fg19) = true)
    (ag20 : PySem.W.nsIn K mainGlobals "_law_pool" = some (some (.ref fg20)))
    (lg20 : K.lookup fg20 = some ⟨ocg20, odg20, .func (PySem.W.fnOf "_law_pool" "_law_pool" (defArgs s_law_pool) (defBody s_law_pool) (defScope s_law_pool) .none kVg20 dcg20 pmg20 ang20 cdg20 ctg20), slg20⟩)
    (cg20 : PySem.W.codeIn K cdg20 "_law_pool" = true)
    (kg20 : PySem.W.keepIn K (.ref fg20) = true)
    (ag21 : PySem.W.nsIn K mainGlobals "_law_draw" = some (some (.ref fg21)))
    (lg21 : K.lookup fg21 = some ⟨ocg21, odg21, .func (PySem.W.fnOf "_law_draw" "_law_draw" (defArgs s_law_draw) (defBody s_law_draw) (defScope s_law_draw) .none kVg21 dcg21 pmg21 ang21 cdg21 ctg21), slg21⟩)
    (cg21 : PySem.W.codeIn K cdg21 "_law_draw" = true)
    (kg21 : PySem.W.keepIn K (.ref fg21) = true)
    (ag22 : PySem.W.nsIn K mainGlobals "_law_told" = some (some (.ref fg22)))
    (lg22 : K.lookup fg22 = some ⟨ocg22, odg22, .func (PySem.W.fnOf "_law_told" "_law_told" (defArgs s_law_told) (defBody s_law_told) (defScope s_law_told) .none kVg22 dcg22 pmg22 ang22 cdg22 ctg22), slg22⟩)
    (cg22 : PySem.W.codeIn K cdg22 "_law_told" = true)
    (kg22 : PySem.W.keepIn K (.ref fg22) = true)
    (ag23 : PySem.W.nsIn K mainGlobals "_law_odd" = some (some (.ref fg23)))
    (lg23 : K.lookup fg23 = some ⟨ocg23, odg23, .func (PySem.W.fnOf "_law_odd" "_law_odd" (defArgs s_law_odd) (defBody s_law_odd) (defScope s_law_odd) .none kVg23 dcg23 pmg23 ang23 cdg23 ctg23), slg23⟩)
    (cg23 : PySem.W.codeIn K cdg23 "_law_odd" = true)
    (kg23 : PySem.W.keepIn K (.ref fg23) = true)
    (ag24 : PySem.W.nsIn K mainGlobals "_law_tree" = some (some (.ref fg24)))
    (lg24 : K.lookup fg24 = some ⟨ocg24, odg24, .func (PySem.W.fnOf "_law_tree" "_law_tree" (defArgs s_law_tree) (defBody s_law_tree) (defScope s_law_tree) .none kVg24 dcg24 pmg24 ang24 cdg24 ctg24), slg24⟩)
    (cg24 : PySem.W.codeIn K cdg24 "_law_tree" = true)
    (kg24 : PySem.W.keepIn K (.ref fg24) = true)
    (ag25 : PySem.W.nsIn K mainGlobals "_law_bent" = some (some (.ref fg25)))
    (lg25 : K.lookup fg25 = some ⟨ocg25, odg25, .func (PySem.W.fnOf "_law_bent" "_law_bent" (defArgs s_law_bent) (defBody s_law_bent) (defScope s_law_bent) .none kVg25 dcg25 pmg25 ang25 cdg25 ctg25), slg25⟩)
    (cg25 : PySem.W.codeIn K cdg25 "_law_bent" = true)
    (kg25 : PySem.W.keepIn K (.ref fg25) = true)
    (ag26 : PySem.W.nsIn K mainGlobals "_law_first" = some (some (.ref fg26)))
    (lg26 : K.lookup fg26 = some ⟨ocg26, odg26, .func (PySem.W.fnOf "_law_first" "_law_first" (defArgs s_law_first) (defBody s_law_first) (defScope s_law_first) .none kVg26 dcg26 pmg26 ang26 cdg26 ctg26), slg26⟩)
    (cg26 : PySem.W.codeIn K cdg26 "_law_first" = true)
    (kg26 : PySem.W.keepIn K (.ref fg26) = true)
    (ag27 : PySem.W.nsIn K mainGlobals "_law_many" = some (some (.ref fg27)))
    (lg27 : K.lookup fg27 = some ⟨ocg27, odg27, .func (PySem.W.fnOf "_law_many" "_law_many" (defArgs s_law_many) (defBody s_law_many) (defScope s_law_many) .none kVg27 dcg27 pmg27 ang27 cdg27 ctg27), slg27⟩)
    (cg27 : PySem.W.codeIn K cdg27 "_law_many" = true)
    (kg27 : PySem.W.keepIn K (.ref fg27) = true)
    (aL : PySem.W.nsIn K mainGlobals "law" = some (some (.ref fL)))
    (lL : K.lookup fL = some ⟨ocL, odL, .func (PySem.W.fnOf "law" "law" (defArgs s_law) (defBody s_law) (defScope s_law) .none kVL dcL pmL anL cdL ctL), slL⟩)
    (cL : PySem.W.codeIn K cdL "law" = true)
    (kL : PySem.W.keepIn K (.ref fL) = true)
    (aO : PySem.W.nsIn K mainGlobals "parts_in_order" = some (some (.ref fO)))
    (lO : K.lookup fO = some ⟨ocO, odO, .func (PySem.W.fnOf "parts_in_order" "parts_in_order" (defArgs s_parts_in_order) (defBody s_parts_in_order) (defScope s_parts_in_order) (.ref tpio) kVO dcO pmO anO cdO ctO), slO⟩)
    (cO : PySem.W.codeIn K cdO "parts_in_order" = true)
    (kO : PySem.W.keepIn K (.ref fO) = true)
    (dpio : K.lookup tpio = some ⟨.type "tuple", tpd, .seq #[.int 0 tkpio] tpn, tps⟩)
    (z_isinstance : PySem.W.nsIn K mainGlobals "isinstance" = some none)
    (z_int : PySem.W.nsIn K mainGlobals "int" = some none)
    (z_bool : PySem.W.nsIn K mainGlobals "bool" = some none)
    (z_str : PySem.W.nsIn K mainGlobals "str" = some none)
    (z_tuple : PySem.W.nsIn K mainGlobals "tuple" = some none)
    (z_len : PySem.W.nsIn K mainGlobals "len" = some none)
    (z_all : PySem.W.nsIn K mainGlobals "all" = some none)
    (z_range : PySem.W.nsIn K mainGlobals "range" = some none)
    (z_repr : PySem.W.nsIn K mainGlobals "repr" = some none)
    (z_max : PySem.W.nsIn K mainGlobals "max" = some none)
    (z_min : PySem.W.nsIn K mainGlobals "min" = some none)
    (z_list : PySem.W.nsIn K mainGlobals "list" = some none)
    (z_enumerate : PySem.W.nsIn K mainGlobals "enumerate" = some none)
    (z_sum : PySem.W.nsIn K mainGlobals "sum" = some none)
    (z_super : PySem.W.nsIn K mainGlobals "super" = some none)
    (gLET : PySem.W.nsIn K mainGlobals "LETTERS" = some (some (.str letters tL)))
    (gc0 : PySem.W.nsIn K mainGlobals "MOST_LIMIT" = some (some (.int 20 tc0)))
    (gc1 : PySem.W.nsIn K mainGlobals "MOST_TRIES" = some (some (.int 3 tc1)))
    (gc2 : PySem.W.nsIn K mainGlobals "MOST_TICKS" = some (some (.int 20 tc2)))
    (gc3 : PySem.W.nsIn K mainGlobals "MOST_AROUND" = some (some (.int 1 tc3)))
    (gc4 : PySem.W.nsIn K mainGlobals "MOST_POLICIES" = some (some (.int 8 tc4)))
    (gc5 : PySem.W.nsIn K mainGlobals "MOST_SERVICES" = some (some (.int 6 tc5)))
    (gc6 : PySem.W.nsIn K mainGlobals "MOST_PARTS" = some (some (.int 12 tc6)))
    (gc7 : PySem.W.nsIn K mainGlobals "MOST_SPAN" = some (some (.int 400 tc7)))
    (aC : PySem.W.nsIn K mainGlobals "Policy" = some (some (.ref C)))
    (aI : PySem.W.findIn K (.ref C) "__init__" = some (some (.ref fI)))
    (lI : K.lookup fI = some ⟨ocI, odI, .func (PySem.W.fnOf "__init__" "Policy.__init__" (defArgs s_Policyinit) (defBody s_Policyinit) (defScope s_Policyinit) .none (.ref Dk) dcI pmI anI cdI ctI), slI⟩)
    (cI : PySem.W.codeIn K cdI "Policy.__init__" = true)
    (kI : PySem.W.keepIn K (.ref fI) = true)
    (iI : PySem.W.isFn K (.ref fI) = true)
    (d1 : PySem.W.nsIn K Dk "tries" = some (some (.int 1 tk1)))
    (d2 : PySem.W.nsIn K Dk "pauses" = some (some .none))
    (d3 : PySem.W.nsIn K Dk "early" = some (some .none))
    (d4 : PySem.W.nsIn K Dk "lossy" = some (some (.bool false)))
    (d5 : PySem.W.nsIn K Dk "ending" = some (some (.ref go)))
    (d6 : K.lookup go = some ⟨.type "tuple", gd, .seq #[.str "go" tk2] gn, gs⟩)
    (pg : PySem.W.plainGet K C Str.empty = true)
    (hd : PySem.W.hasDictIn K C = true)
    (po : PySem.W.plainOver K C = true)
    (sa : PySem.W.findIn K (.ref C) "__setattr__" = some (some (.builtin "object.__setattr__")))
    (mk : PySem.W.makesIn K C = true)
    (kc : PySem.W.keepIn K (.ref C) = true)
    (n1 : PySem.W.findIn K (.ref C) "_name" = some none)
    (n2 : PySem.W.findIn K (.ref C) "_limit" = some none)
    (n3 : PySem.W.findIn K (.ref C) "_tries" = some none)
    (n4 : PySem.W.findIn K (.ref C) "_pauses" = some none)
    (n5 : PySem.W.findIn K (.ref C) "_early" = some none)
    (n6 : PySem.W.findIn K (.ref C) "_lossy" = some none)
    (n7 : PySem.W.findIn K (.ref C) "_ending" = some none)
    (ob : PySem.W.mroIn K C (.type "object") = some true)
    (ha : PySem.W.findIn K (.ref C) "__class__" = some (some (.builtin "object.__class__")))
    (hn : PySem.W.specialIn K (.builtin "object.__class__") "__get__" = some (some (.builtin "getset_descriptor.__get__")))
    (htk : PySem.W.takesIn K (.builtin "object.__class__") = some true)
    (p1_name : PySem.W.findIn K (.ref C) "name" = some (some (.ref p_name)))
    (p2_name : PySem.W.specialIn K (.ref p_name) "__get__" = some (some (.builtin "property.__get__")))
    (p3_name : PySem.W.takesIn K (.ref p_name) = some true)
    (apname : PySem.W.recIn K p_name "property" = some ((.ref fpname) :: r_name))
    (lpname : K.lookup fpname = some ⟨ocpname, odpname, .func (PySem.W.fnOf "name" "Policy.name" (defArgs s_Policy_name) (defBody s_Policy_name) (defScope s_Policy_name) .none kVpname dcpname pmpname anpname cdpname ctpname), slpname⟩)
    (cpname : PySem.W.codeIn K cdpname "Policy.name" = true)
    (kpname : PySem.W.keepIn K (.ref fpname) = true)
    (p1_limit : PySem.W.findIn K (.ref C) "limit" = some (some (.ref p_limit)))
    (p2_limit : PySem.W.specialIn K (.ref p_limit) "__get__" = some (some (.builtin "property.__get__")))
    (p3_limit : PySem.W.takesIn K (.ref p_limit) = some true)
    (aplimit : PySem.W.recIn K p_limit "property" = some ((.ref fplimit) :: r_limit))
    (lplimit : K.lookup fplimit = some ⟨ocplimit, odplimit, .func (PySem.W.fnOf "limit" "Policy.limit" (defArgs s_Policy_limit) (defBody s_Policy_limit) (defScope s_Policy_limit) .none kVplimit dcplimit pmplimit anplimit cdplimit ctplimit), slplimit⟩)
    (cplimit : PySem.W.codeIn K cdplimit "Policy.limit" = true)
    (kplimit : PySem.W.keepIn K (.ref fplimit) = true)
    (p1_tries : PySem.W.findIn K (.ref C) "tries" = some (some (.ref p_tries)))
    (p2_tries : PySem.W.specialIn K (.ref p_tries) "__get__" = some (some (.builtin "property.__get__")))
    (p3_tries : PySem.W.takesIn K (.ref p_tries) = some true)
    (aptries : PySem.W.recIn K p_tries "property" = some ((.ref fptries) :: r_tries))
    (lptries : K.lookup fptries = some ⟨ocptries, odptries, .func (PySem.W.fnOf "tries" "Policy.tries" (defArgs s_Policy_tries) (defBody s_Policy_tries) (defScope s_Policy_tries) .none kVptries dcptries pmptries anptries cdptries ctptries), slptries⟩)
    (cptries : PySem.W.codeIn K cdptries "Policy.tries" = true)
    (kptries : PySem.W.keepIn K (.ref fptries) = true)
    (p1_pauses : PySem.W.findIn K (.ref C) "pauses" = some (some (.ref p_pauses)))
    (p2_pauses : PySem.W.specialIn K (.ref p_pauses) "__get__" = some (some (.builtin "property.__get__")))
    (p3_pauses : PySem.W.takesIn K (.ref p_pauses) = some true)
    (appauses : PySem.W.recIn K p_pauses "property" = some ((.ref fppauses) :: r_pauses))
    (lppauses : K.lookup fppauses = some ⟨ocppauses, odppauses, .func (PySem.W.fnOf "pauses" "Policy.pauses" (defArgs s_Policy_pauses) (defBody s_Policy_pauses) (defScope s_Policy_pauses) .none kVppauses dcppauses pmppauses anppauses cdppauses ctppauses), slppauses⟩)
    (cppauses : PySem.W.codeIn K cdppauses "Policy.pauses" = true)
    (kppauses : PySem.W.keepIn K (.ref fppauses) = true)
    (p1_early : PySem.W.findIn K (.ref C) "early" = some (some (.ref p_early)))
    (p2_early : PySem.W.specialIn K (.ref p_early) "__get__" = some (some (.builtin "property.__get__")))
    (p3_early : PySem.W.takesIn K (.ref p_early) = some true)
    (apearly : PySem.W.recIn K p_early "property" = some ((.ref fpearly) :: r_early))
    (lpearly : K.lookup fpearly = some ⟨ocpearly, odpearly, .func (PySem.W.fnOf "early" "Policy.early" (defArgs s_Policy_early) (defBody s_Policy_early) (defScope s_Policy_early) .none kVpearly dcpearly pmpearly anpearly cdpearly ctpearly), slpearly⟩)
    (cpearly : PySem.W.codeIn K cdpearly "Policy.early" = true)
    (kpearly : PySem.W.keepIn K (.ref fpearly) = true)
    (aS : PySem.W.nsIn K mainGlobals "System" = some (some (.ref CS)))
    (aSi : PySem.W.findIn K (.ref CS) "__init__" = some (some (.ref fS)))
    (lS : K.lookup fS = some ⟨ocS, odS, .func (PySem.W.fnOf "__init__" "System.__init__" (defArgs s_Systeminit) (defBody s_Systeminit) (defScope s_Systeminit) .none kVS dcS pmS anS cdS ctS), slS⟩)
    (cS : PySem.W.codeIn K cdS "System.__init__" = true)
    (kS : PySem.W.keepIn K (.ref fS) = true)
    (iS : PySem.W.isFn K (.ref fS) = true)
    (pgS : PySem.W.plainGet K CS Str.empty = true)
    (hdS : PySem.W.hasDictIn K CS = true)
    (poS : PySem.W.plainOver K CS = true)
    (saS : PySem.W.findIn K (.ref CS) "__setattr__" = some (some (.builtin "object.__setattr__")))
    (mkS : PySem.W.makesIn K CS = true)
    (kcS : PySem.W.keepIn K (.ref CS) = true)
    (nS1 : PySem.W.findIn K (.ref CS) "_policies" = some none)
    (nS2 : PySem.W.findIn K (.ref CS) "_blocks" = some none)
    (nS3 : PySem.W.findIn K (.ref CS) "_spans" = some none)
    (tp : PySem.W.nsIn K cStatics "thirdparty.any" = some none)
    (top : (l.prog.main.scope.names.lookup ("super" : Str)).isSome = false)
    (gP : PySem.W.nsIn K mainGlobals "InvalidPart" = some (some (.ref CP)))
    (xP : K.lookup CP = some (excClassObj nmP qnP CP NP bsP bmP true snP subP abP colP ddP k0P k1P k2P k3P k5P "ValueError.__new__"))
    (rvP : PySem.HandSPX.refsVE bmP = true)
    (saP : PySem.W.findIn K (.ref CP) "__setattr__" = some (some (.builtin "object.__setattr__")))
    (beP : PySem.W.subIn K (.ref CP) (.type "BaseException") = some true)
    (tyP : PySem.W.typeIn K (.ref CP) = some (.type "type"))
    (kpP : PySem.W.keepIn K (.ref CP) = true)
    (suP : PySem.W.ks_superIn K CP CP "__init__" = some (some (.builtin "ValueError.__init__")))
    (veP : PySem.W.subIn K (.ref CP) (.type "ValueError") = some true)
    (gaP : PySem.W.findIn K (.ref CP) "__getattribute__" = some (some (.builtin "BaseException.__getattribute__")))
    (ggP : PySem.W.findIn K (.ref CP) "__getattr__" = some none)
    (hdP : PySem.W.hasDictIn K CP = true)
    (nfP : PySem.W.findIn K (.ref CP) "service" = some none)
    (iP : PySem.W.findIn K (.ref CP) "__init__" = some (some (.ref fP)))
    (lP : K.lookup fP = some ⟨ocP, odP, .func (PySem.W.ksFn "__init__" "InvalidPart.__init__" (defArgs s_InvalidPartinit) (defBody s_InvalidPartinit) (defScope s_InvalidPartinit) .none kVP dcP pmP anP (.ref cP) ctP ccP), oslP⟩)
    (tP : PySem.W.typeIn K (.ref fP) = some (.type "function"))
    (cdP : PySem.W.codeIn K (.ref cP) "InvalidPart.__init__" = true)
    (lcP : K.lookup cP = some ⟨cclP, cddP, .fields vsP, ccsP⟩)
    (v2P : vsP[2]? = some (.str flP tfP))
    (fiP : ((l.prog.main.file : Str) == flP) = true)
    (llP : K.lookup ccP = some ⟨clP, cldP, .cell (some (.ref CP)), cslP⟩)
    (nfP2 : PySem.W.findIn K (.ref CP) "place" = some none)
    (gU : PySem.W.nsIn K mainGlobals "UnknownName" = some (some (.ref CU)))
    (xU : K.lookup CU = some (excClassObj nmU qnU CU NU bsU tlLE true snU subU abU colU ddU k0U k1U k2U k3U k5U "LookupError.__new__"))
    (saU : PySem.W.findIn K (.ref CU) "__setattr__" = some (some (.builtin "object.__setattr__")))
    (beU : PySem.W.subIn K (.ref CU) (.type "BaseException") = some true)
    (tyU : PySem.W.typeIn K (.ref CU) = some (.type "type"))
    (kpU : PySem.W.keepIn K (.ref CU) = true)
    (suU : PySem.W.ks_superIn K CU CU "__init__" = some (some (.builtin "LookupError.__init__")))
    (veU : PySem.W.subIn K (.ref CU) (.type "LookupError") = some true)
    (gaU : PySem.W.findIn K (.ref CU) "__getattribute__" = some (some (.builtin "BaseException.__getattribute__")))
    (ggU : PySem.W.findIn K (.ref CU) "__getattr__" = some none)
    (hdU : PySem.W.hasDictIn K CU = true)
    (nfU : PySem.W.findIn K (.ref CU) "value" = some none)
    (iU : PySem.W.findIn K (.ref CU) "__init__" = some (some (.ref fU)))
    (lU : K.lookup fU = some ⟨ocU, odU, .func (PySem.W.ksFn "__init__" "UnknownName.__init__" (defArgs s_UnknownNameinit) (defBody s_UnknownNameinit) (defScope s_UnknownNameinit) .none kVU dcU pmU anU (.ref cU) ctU ccU), oslU⟩)
    (tU : PySem.W.typeIn K (.ref fU) = some (.type "function"))
    (cdU : PySem.W.codeIn K (.ref cU) "UnknownName.__init__" = true)
    (lcU : K.lookup cU = some ⟨cclU, cddU, .fields vsU, ccsU⟩)
    (v2U : vsU[2]? = some (.str flU tfU))
    (fiU : ((l.prog.main.file : Str) == flU) = true)
    (llU : K.lookup ccU = some ⟨clU, cldU, .cell (some (.ref CU)), cslU⟩)
    (subPP : PySem.W.subIn K (.ref CP) (.ref CP) = some true)
    (subUP : PySem.W.subIn K (.ref CU) (.ref CP) = some false)
    (subUU : PySem.W.subIn K (.ref CU) (.ref CU) = some true)
    : ∃ fd : FuncData, (∀ (s : Shared) (v : Value), BindsTo s fd ⟨[v], []⟩ [("_law_script", v)]) ∧ ∀ base : Heap, K.In base → base.Ns mainGlobals mg → Mc.FnG l.prog w K mg base CX0 13 fa fd ["_law_script"] (spLaw K) := by
  have Dg0 : Mc.Def K mg "is_integer" s_is_integer ["value"] := ⟨fg0, _, fun_mk (st := s_is_integer) lg0 cg0 kg0, PySem.W.mg_of X G ag0, (fun_mk (st := s_is_integer) lg0 cg0 kg0).binds (ps := ["value"]) fun _ _ _ _ _ _ us hl => match us, hl with | [_], _ => rfl⟩
  have Dg1 : Mc.Def K mg "is_between" s_is_between ["value", "least", "most"] := ⟨fg1, _, fun_mk (st := s_is_between) lg1 cg1 kg1, PySem.W.mg_of X G ag1, (fun_mk (st := s_is_between) lg1 cg1 kg1).binds (ps := ["value", "least", "most"]) fun _ _ _ _ _ _ us hl => match us, hl with | [_, _, _], _ => rfl⟩
  have Dg2 : Mc.Def K mg "is_name" s_is_name ["value"] := ⟨fg2, _, fun_mk (st := s_is_name) lg2 cg2 kg2, PySem.W.mg_of X G ag2, (fun_mk (st := s_is_name) lg2 cg2 kg2).binds (ps := ["value"]) fun _ _ _ _ _ _ us hl => match us, hl with | [_], _ => rfl⟩
  have Dg3 : Mc.Def K mg "is_part" s_is_part ["value"] := ⟨fg3, _, fun_mk (st := s_is_part) lg3 cg3 kg3, PySem.W.mg_of X G ag3, (fun_mk (st := s_is_part) lg3 cg3 kg3).binds (ps := ["value"]) fun _ _ _ _ _ _ us hl => match us, hl with | [_], _ => rfl⟩
  have Dg4 : Mc.Def K mg "is_call" s_is_call ["part"] := ⟨fg4, _, fun_mk (st := s_is_call) lg4 cg4 kg4, PySem.W.mg_of X G ag4, (fun_mk (st := s_is_call) lg4 cg4 kg4).binds (ps := ["part"]) fun _ _ _ _ _ _ us hl => match us, hl with | [_], _ => rfl⟩
  have Dg5 : Mc.Def K mg "holds_blocks" s_holds_blocks ["value"] := ⟨fg5, _, fun_mk (st := s_holds_blocks) lg5 cg5 kg5, PySem.W.mg_of X G ag5, (fun_mk (st := s_holds_blocks) lg5 cg5 kg5).binds (ps := ["value"]) fun _ _ _ _ _ _ us hl => match us, hl with | [_], _ => rfl⟩
  have Dg6 : Mc.Def K mg "calls_in_order" s_calls_in_order ["block"] := ⟨fg6, _, fun_mk (st := s_calls_in_order) lg6 cg6 kg6, PySem.W.mg_of X G ag6, (fun_mk (st := s_calls_in_order) lg6 cg6 kg6).binds (ps := ["block"]) fun _ _ _ _ _ _ us hl => match us, hl with | [_], _ => rfl⟩
  have Dg7 : Mc.Def K mg "block_span" s_block_span ["block", "policies"] := ⟨fg7, _, fun_mk (st := s_block_span) lg7 cg7 kg7, PySem.W.mg_of X G ag7, (fun_mk (st := s_block_span) lg7 cg7 kg7).binds (ps := ["block", "policies"]) fun _ _ _ _ _ _ us hl => match us, hl with | [_, _], _ => rfl⟩
  have Dg8 : Mc.Def K mg "part_span" s_part_span ["part", "policies"] := ⟨fg8, _, fun_mk (st := s_part_span) lg8 cg8 kg8, PySem.W.mg_of X G ag8, (fun_mk (st := s_part_span) lg8 cg8 kg8).binds (ps := ["part", "policies"]) fun _ _ _ _ _ _ us hl => match us, hl with | [_, _], _ => rfl⟩
  have Dg9 : Mc.Def K mg "call_span" s_call_span ["policy"] := ⟨fg9, _, fun_mk (st := s_call_span) lg9 cg9 kg9, PySem.W.mg_of X G ag9, (fun_mk (st := s_call_span) lg9 cg9 kg9).binds (ps := ["policy"]) fun _ _ _ _ _ _ us hl => match us, hl with | [_], _ => rfl⟩
  have Dg10 : Mc.Def K mg "accepts" s_accepts ["field", "value"] := ⟨fg10, _, fun_mk (st := s_accepts) lg10 cg10 kg10, PySem.W.mg_of X G ag10, (fun_mk (st := s_accepts) lg10 cg10 kg10).binds (ps := ["field", "value"]) fun _ _ _ _ _ _ us hl => match us, hl with | [_, _], _ => rfl⟩
  have Dg11 : Mc.Def K mg "_wrong_field" s_wrong_field ["limit", "tries", "pauses", "early", "lossy", "ending"] := ⟨fg11, _, fun_mk (st := s_wrong_field) lg11 cg11 kg11, PySem.W.mg_of X G ag11, (fun_mk (st := s_wrong_field) lg11 cg11 kg11).binds (ps := ["limit", "tries", "pauses", "early", "lossy", "ending"]) fun _ _ _ _ _ _ us hl => match us, hl with | [_, _, _, _, _, _], _ => rfl⟩
  have Dg12 : Mc.Def K mg "_are_pauses" s_are_pauses ["value", "tries"] := ⟨fg12, _, fun_mk (st := s_are_pauses) lg12 cg12 kg12, PySem.W.mg_of X G ag12, (fun_mk (st := s_are_pauses) lg12 cg12 kg12).binds (ps := ["value", "tries"]) fun _ _ _ _ _ _ us hl => match us, hl with | [_, _], _ => rfl⟩
  have Dg13 : Mc.Def K mg "_is_ending" s_is_ending ["value"] := ⟨fg13, _, fun_mk (st := s_is_ending) lg13 cg13 kg13, PySem.W.mg_of X G ag13, (fun_mk (st := s_is_ending) lg13 cg13 kg13).binds (ps := ["value"]) fun _ _ _ _ _ _ us hl => match us, hl with | [_], _ => rfl⟩
  have Dg14 : Mc.Def K mg "_all_pauses" s_all_pauses ["tries", "pauses", "early"] := ⟨fg14, _, fun_mk (st := s_all_pauses) lg14 cg14 kg14, PySem.W.mg_of X G ag14, (fun_mk (st := s_all_pauses) lg14 cg14 kg14).binds (ps := ["tries", "pauses", "early"]) fun _ _ _ _ _ _ us hl => match us, hl with | [_, _, _], _ => rfl⟩
  have Dg15 : Mc.Def K mg "_check_policies" s_check_policies ["policies"] := ⟨fg15, _, fun_mk (st := s_check_policies) lg15 cg15 kg15, PySem.W.mg_of X G ag15, (fun_mk (st := s_check_policies) lg15 cg15 kg15).binds (ps := ["policies"]) fun _ _ _ _ _ _ us hl => match us, hl with | [_], _ => rfl⟩
  have Dg16 : Mc.Def K mg "_check_services" s_check_services ["services"] := ⟨fg16, _, fun_mk (st := s_check_services) lg16 cg16 kg16, PySem.W.mg_of X G ag16, (fun_mk (st := s_check_services) lg16 cg16 kg16).binds (ps := ["services"]) fun _ _ _ _ _ _ us hl => match us, hl with | [_], _ => rfl⟩
  have Dg17 : Mc.Def K mg "_is_service" s_is_service ["row"] := ⟨fg17, _, fun_mk (st := s_is_service) lg17 cg17 kg17, PySem.W.mg_of X G ag17, (fun_mk (st := s_is_service) lg17 cg17 kg17).binds (ps := ["row"]) fun _ _ _ _ _ _ us hl => match us, hl with | [_], _ => rfl⟩
  have Dg18 : Mc.Def K mg "_check_parts" s_check_parts ["service", "block"] := ⟨fg18, _, fun_mk (st := s_check_parts) lg18 cg18 kg18, PySem.W.mg_of X G ag18, (fun_mk (st := s_check_parts) lg18 cg18 kg18).binds (ps := ["service", "block"]) fun _ _ _ _ _ _ us hl => match us, hl with | [_, _], _ => rfl⟩
  have Dg19 : Mc.Def K mg "_check_names" s_check_names ["block", "ahead", "policies"] := ⟨fg19, _, fun_mk (st := s_check_names) lg19 cg19 kg19, PySem.W.mg_of X G ag19, (fun_mk (st := s_check_names) lg19 cg19 kg19).binds (ps := ["block", "ahead", "policies"]) fun _ _ _ _ _ _ us hl => match us, hl with | [_, _, _], _ => rfl⟩
  have Dg20 : Mc.Def K mg "_law_pool" s_law_pool ["_law_script", "_law_k"] := ⟨fg20, _, fun_mk (st := s_law_pool) lg20 cg20 kg20, PySem.W.mg_of X G ag20, (fun_mk (st := s_law_pool) lg20 cg20 kg20).binds (ps := ["_law_script", "_law_k"]) fun _ _ _ _ _ _ us hl => match us, hl with | [_, _], _ => rfl⟩
  have Dg21 : Mc.Def K mg "_law_draw" s_law_draw ["_law_pool_here", "_law_many_here"] := ⟨fg21, _, fun_mk (st := s_law_draw) lg21 cg21 kg21, PySem.W.mg_of X G ag21, (fun_mk (st := s_law_draw) lg21 cg21 kg21).binds (ps := ["_law_pool_here", "_law_many_here"]) fun _ _ _ _ _ _ us hl => match us, hl with | [_, _], _ => rfl⟩
  have Dg22 : Mc.Def K mg "_law_told" s_law_told ["_law_block"] := ⟨fg22, _, fun_mk (st := s_law_told) lg22 cg22 kg22, PySem.W.mg_of X G ag22, (fun_mk (st := s_law_told) lg22 cg22 kg22).binds (ps := ["_law_block"]) fun _ _ _ _ _ _ us hl => match us, hl with | [_], _ => rfl⟩
  have Dg23 : Mc.Def K mg "_law_odd" s_law_odd ["_law_pool_here"] := ⟨fg23, _, fun_mk (st := s_law_odd) lg23 cg23 kg23, PySem.W.mg_of X G ag23, (fun_mk (st := s_law_odd) lg23 cg23 kg23).binds (ps := ["_law_pool_here"]) fun _ _ _ _ _ _ us hl => match us, hl with | [_], _ => rfl⟩
  have Dg24 : Mc.Def K mg "_law_tree" s_law_tree ["_law_pool_here", "_law_depth"] := ⟨fg24, _, fun_mk (st := s_law_tree) lg24 cg24 kg24, PySem.W.mg_of X G ag24, (fun_mk (st := s_law_tree) lg24 cg24 kg24).binds (ps := ["_law_pool_here", "_law_depth"]) fun _ _ _ _ _ _ us hl => match us, hl with | [_, _], _ => rfl⟩
  have Dg25 : Mc.Def K mg "_law_bent" s_law_bent ["_law_block", "_law_at", "_law_odd_here", "_law_count"] := ⟨fg25, _, fun_mk (st := s_law_bent) lg25 cg25 kg25, PySem.W.mg_of X G ag25, (fun_mk (st := s_law_bent) lg25 cg25 kg25).binds (ps := ["_law_block", "_law_at", "_law_odd_here", "_law_count"]) fun _ _ _ _ _ _ us hl => match us, hl with | [_, _, _, _], _ => rfl⟩
  have Dg26 : Mc.Def K mg "_law_first" s_law_first ["_law_block", "_law_at", "_law_depth", "_law_count"] := ⟨fg26, _, fun_mk (st := s_law_first) lg26 cg26 kg26, PySem.W.mg_of X G ag26, (fun_mk (st := s_law_first) lg26 cg26 kg26).binds (ps := ["_law_block", "_law_at", "_law_depth", "_law_count"]) fun _ _ _ _ _ _ us hl => match us, hl with | [_, _, _, _], _ => rfl⟩
  have Dg27 : Mc.Def K mg "_law_many" s_law_many ["_law_block"] := ⟨fg27, _, fun_mk (st := s_law_many) lg27 cg27 kg27, PySem.W.mg_of X G ag27, (fun_mk (st := s_law_many) lg27 cg27 kg27).binds (ps := ["_law_block"]) fun _ _ _ _ _ _ us hl => match us, hl with | [_], _ => rfl⟩
  have T : Txt K mg := ⟨PySem.W.mg_none_of X G z_isinstance, PySem.W.mg_none_of X G z_int, PySem.W.mg_none_of X G z_bool, PySem.W.mg_none_of X G z_str, PySem.W.mg_none_of X G z_tuple, PySem.W.mg_none_of X G z_len, PySem.W.mg_none_of X G z_all, PySem.W.mg_none_of X G z_range, PySem.W.mg_none_of X G z_repr, PySem.W.mg_none_of X G z_max, PySem.W.mg_none_of X G z_min, PySem.W.mg_none_of X G z_list, PySem.W.mg_none_of X G z_enumerate, PySem.W.mg_none_of X G z_sum, ⟨_, PySem.W.mg_of X G gLET, ⟨_, rfl⟩⟩, ⟨_, PySem.W.mg_of X G gc0, ⟨_, rfl⟩⟩, ⟨_, PySem.W.mg_of X G gc1, ⟨_, rfl⟩⟩, ⟨_, PySem.W.mg_of X G gc2, ⟨_, rfl⟩⟩, ⟨_, PySem.W.mg_of X G gc3, ⟨_, rfl⟩⟩, ⟨_, PySem.W.mg_of X G gc4, ⟨_, rfl⟩⟩, ⟨_, PySem.W.mg_of X G gc5, ⟨_, rfl⟩⟩, ⟨_, PySem.W.mg_of X G gc6, ⟨_, rfl⟩⟩, ⟨_, PySem.W.mg_of X G gc7, ⟨_, rfl⟩⟩⟩
  have scP : Mx.SupC l.prog K mg CP := ⟨⟨⟨_, _, _, _, _, _, _, _, _, _, _, _, _, _, _, xP, rvP⟩, saP, beP, tyP, kpP⟩, suP, veP, tp, PySem.W.mg_none_of X G z_super, top⟩
  have sdP : Mx.SupD l.prog K "__init__" "InvalidPart.__init__" (defArgs s_InvalidPartinit) (defBody s_InvalidPartinit) (defScope s_InvalidPartinit) CP fP _ cP ccP := ⟨_, _, _, _, _, _, _, _, _, _, _, _, _, _, _, _, _, _, rfl, lP, cdP, lcP, v2P, fiP, llP⟩
  have xfP : XfC K CP := ⟨gaP, ggP, beP, hdP⟩
  have glP := PySem.W.mg_of X G gP
  have scU : Mx.SupCB "LookupError" "LookupError.__new__" "LookupError.__init__" tlLE l.prog K mg CU := ⟨⟨⟨_, _, _, _, _, _, _, _, _, _, _, _, _, _, xU⟩, saU, beU, tyU, kpU⟩, suU, veU, tp, PySem.W.mg_none_of X G z_super, top⟩
  have sdU : Mx.SupD l.prog K "__init__" "UnknownName.__init__" (defArgs s_UnknownNameinit) (defBody s_UnknownNameinit) (defScope s_UnknownNameinit) CU fU _ cU ccU := ⟨_, _, _, _, _, _, _, _, _, _, _, _, _, _, _, _, _, _, rfl, lU, cdU, lcU, v2U, fiU, llU⟩
  have xfU : XfC K CU := ⟨gaU, ggU, beU, hdU⟩
  have glU := PySem.W.mg_of X G gU
  have cl : Cls K C := ⟨pg, hd, po, sa⟩
  have TC : CTxt K C := ⟨cl, n1, n2, n3, n4, n5, n6, n7⟩
  have TS : STx K CS := ⟨⟨pgS, hdS, poS, saS⟩, nS1, nS2, nS3⟩
  have gP := PySem.W.mg_of X G aC
  have gS := PySem.W.mg_of X G aS
  have IC : ICls K C := ⟨ha, hn, htk, ob⟩
  have tgo : ∀ H, TupV K H go En.go.vs := fun H => ⟨.kTup d6 rfl, .inr ⟨_, #[.str "go" tk2], _, d6, rfl, rfl, (by show 1 ≤ sizeLine; decide), .cons ⟨_, rfl⟩ .nil⟩⟩
  have FD : FI K go fI _ := ⟨⟨_, _, _, _, _, _, _, _, _, _, rfl, lI, cI, .inl ⟨rfl, rfl⟩, .inr ⟨Dk, rfl, by
    intro q hq
    simp only [kwsP, List.mem_cons, List.not_mem_nil, or_false] at hq
    rcases hq with rfl | rfl | rfl | rfl | rfl
    · exact ⟨_, d1, ⟨_, rfl⟩⟩
    · exact ⟨_, d2, rfl⟩
    · exact ⟨_, d3, rfl⟩
    · exact ⟨_, d4, rfl⟩
    · exact ⟨_, d5, rfl⟩⟩⟩, kI⟩
  have DO : DefP K mg := ⟨fO, _, ⟨⟨_, _, _, _, _, _, _, _, _, _, rfl, lO, cO, .inr ⟨by simp, tpio, _, [.int 0 tkpio], tpn, rfl, dpio, rfl, .cons ⟨_, rfl⟩ .nil⟩, .inl rfl⟩, kO⟩, PySem.W.mg_of X G aO⟩
  obtain ⟨ds0, v0, b0⟩ := b_none FD
  have M : Mk K C fI := ⟨mk, aI, iI, kc⟩
  have FS := fun_mk (st := s_Systeminit) lS cS kS
  have bS := FS.binds (ps := psS) fun _ _ _ _ _ _ us hl => match us, hl with | [_, _, _], _ => rfl
  have MS : Mk K CS fS := ⟨mkS, aSi, iS, kcS⟩
  have F_name := fun_mk (st := s_Policy_name) lpname cpname kpname
  have b_name := F_name.binds (ps := ["self"]) fun _ _ _ _ _ _ us hl => match us, hl with | [_], _ => rfl
  have F_limit := fun_mk (st := s_Policy_limit) lplimit cplimit kplimit
  have b_limit := F_limit.binds (ps := ["self"]) fun _ _ _ _ _ _ us hl => match us, hl with | [_], _ => rfl
  have F_tries := fun_mk (st := s_Policy_tries) lptries cptries kptries
  have b_tries := F_tries.binds (ps := ["self"]) fun _ _ _ _ _ _ us hl => match us, hl with | [_], _ => rfl
  have F_pauses := fun_mk (st := s_Policy_pauses) lppauses cppauses kppauses
  have b_pauses := F_pauses.binds (ps := ["self"]) fun _ _ _ _ _ _ us hl => match us, hl with | [_], _ => rfl
  have F_early := fun_mk (st := s_Policy_early) lpearly cpearly kpearly
  have b_early := F_early.binds (ps := ["self"]) fun _ _ _ _ _ _ us hl => match us, hl with | [_], _ => rfl
  have ef := hfa.symm.trans (PySem.W.mg_of X G aL)
  cases ef
  refine ⟨PySem.W.fnOf "law" "law" (defArgs s_law) (defBody s_law) (defScope s_law) .none kVL dcL pmL anL cdL ctL, fun s v => .of_eq rfl, fun base _ _ => ?_⟩
  · have c_int := ok_is_integer (P := l.prog) (w := w) (base := base) T Dg0
    have c_btw := ok_is_between T Dg1 c_int
    have c_nm := ok_is_name (P := l.prog) (w := w) (base := base) T Dg2
    have c_are := ok_are_pauses T Dg12 c_btw
    have c_end := ok_is_ending T Dg13 c_btw
    have c_acc := ok_accepts T Dg10 c_btw c_end
    have c_wf := ok_wrong_field T Dg11 c_btw c_are c_acc
    have c_all := ok_all_pauses (P := l.prog) (w := w) (base := base) T Dg14
    have GI := ok_init FD T TC c_nm c_wf c_all
    have EP : Mx.ExK l.prog w K mg base "InvalidPart" CP fP _ ["self", "service", "place"] (spEx2 CP) := ⟨iP, tP, ok_InvalidPart sdP scP nfP nfP2, .all (fun us hl => match us, hl with | [_, _, _], _ => rfl), glP⟩
    have EU : Mx.ExK l.prog w K mg base "UnknownName" CU fU _ ["self", "value"] (Mx.spEx CU "value") := ⟨iU, tU, ok_UnknownName sdU scU nfU, .all (fun us hl => match us, hl with | [_, _], _ => rfl), glU⟩
    have pr_name : Prp l.prog w K mg base 1 C "name" (getSp C "_name") := prp_of F_name ⟨p1_name, p2_name, p3_name, ⟨_, apname⟩⟩ sc_Policy_name rfl cl n1 b_name
    have pr_limit : Prp l.prog w K mg base 1 C "limit" (getSp C "_limit") := prp_of F_limit ⟨p1_limit, p2_limit, p3_limit, ⟨_, aplimit⟩⟩ sc_Policy_limit rfl cl n2 b_limit
    have pr_tries : Prp l.prog w K mg base 1 C "tries" (getSp C "_tries") := prp_of F_tries ⟨p1_tries, p2_tries, p3_tries, ⟨_, aptries⟩⟩ sc_Policy_tries rfl cl n3 b_tries
    have pr_pauses : Prp l.prog w K mg base 1 C "pauses" (getSp C "_pauses") := prp_of F_pauses ⟨p1_pauses, p2_pauses, p3_pauses, ⟨_, appauses⟩⟩ sc_Policy_pauses rfl cl n4 b_pauses
    have pr_early : Prp l.prog w K mg base 1 C "early" (getSp C "_early") := prp_of F_early ⟨p1_early, p2_early, p3_early, ⟨_, apearly⟩⟩ sc_Policy_early rfl cl n5 b_early
    have PRS : Prps l.prog w K mg base C := ⟨pr_name, pr_limit, pr_tries, pr_pauses, pr_early⟩
    have c_pool := ok_pool (P := l.prog) (w := w) (base := base) T Dg20
    have c_draw := ok_draw (P := l.prog) (w := w) (base := base) T Dg21
    have c_call := ok_is_call (P := l.prog) (w := w) (base := base) T Dg4
    have c_holds := ok_holds_blocks (P := l.prog) (w := w) (base := base) T Dg5
    have c_part := ok_is_part T Dg3 c_btw c_nm c_call c_holds
    have c_pio := ok_pio T DO c_holds
    have c_calls := ok_calls T Dg6 c_pio c_call
    have c_cspan := ok_call_span T Dg9 PRS
    have c_bspan := ok_block_span T Dg7 Dg8 c_call c_cspan
    have c_cpol := ok_chk_pol T Dg15 PRS TC IC gP
    have c_isv := ok_is_service T Dg17 c_nm
    have c_csv := ok_chk_serv T Dg16 c_isv
    have c_cpt := ok_chk_parts T Dg18 c_pio c_holds c_part scP EP
    have c_cnm := ok_chk_names T Dg19 c_calls scU EU
    have GS := ok_sys FS T TS pr_name c_cpol c_csv c_cpt c_cnm c_bspan
    have c_told := ok_told Dg22 M GI gP b0 v0 tgo MS GS gS bS EP EU xfP xfU nfP nfP2 nfU (exm_is beP tyP hdP subPP) (exm_is beP tyP hdP subUP) (exm_is beU tyU hdU subUU)
    have c_odd := ok_odd T Dg23 c_draw
    have c_tree := ok_tree T Dg24 c_draw
    have c_first := ok_first (P := l.prog) (w := w) (base := base) T Dg26
    have c_bent := ok_bent (P := l.prog) (w := w) (base := base) T Dg25
    have c_many := ok_many (P := l.prog) (w := w) (base := base) T Dg27
    have FL := fun_mk (st := s_law) lL cL kL
    exact ok_law FL T c_pool c_draw c_odd c_tree c_first c_bent c_many c_told
end K2
open PySem PySem.W PyProof.Rows in
set_option maxRecDepth 100000 in
set_option maxHeartbeats 0 in
theorem PySem.Challenge.cw_mostcalls_k07_parts_refused_holds : PySem.Challenge.rw_mostcalls_k07_parts_refused.Holds := by
  w_on; o_law; k_head; (case hw => w_witness2)
  k_fill
  refine Mc.walk_run (l := PySem.Challenge.rw_mostcalls_k07_parts_refused) (n := 63) (k := 13) (sp := fun K => K2.spLaw K) (x := "_law_script") rfl (by decide) rfl ⟨rfl, by decide, by decide⟩ (fun w h Y => PySem.W.kIn_of Y) ?F (fun K H a ns h1 _ h3 => ⟨a, ns, rfl, h3, h1, fun _ => rfl⟩)
  case F =>
    intro w mg fa h KX G hmg
    refine' K2.all_mk KX G hmg ?ag0 ?lg0 ?cg0 ?kg0 ?ag1 ?lg1 ?cg1 ?kg1 ?ag2 ?lg2 ?cg2 ?kg2 ?ag3 ?lg3 ?cg3 ?kg3 ?ag4 ?lg4 ?cg4 ?kg4 ?ag5 ?lg5 ?cg5 ?kg5 ?ag6 ?lg6 ?cg6 ?kg6 ?ag7 ?lg7 ?cg7 ?kg7 ?ag8 ?lg8 ?cg8 ?kg8 ?ag9 ?lg9 ?cg9 ?kg9 ?ag10 ?lg10 ?cg10 ?kg10 ?ag11 ?lg11 ?cg11 ?kg11 ?ag12 ?lg12 ?cg12 ?kg12 ?ag13 ?lg13 ?cg13 ?kg13 ?ag14 ?lg14 ?cg14 ?kg14 ?ag15 ?lg15 ?cg15 ?kg15 ?ag16 ?lg16 ?cg16 ?kg16 ?ag17 ?lg17 ?cg17 ?kg17 ?ag18 ?lg18 ?cg18 ?kg18 ?ag19 ?lg19 ?cg19 ?kg19 ?ag20 ?lg20 ?cg20 ?kg20 ?ag21 ?lg21 ?cg21 ?kg21 ?ag22 ?lg22 ?cg22 ?kg22 ?ag23 ?lg23 ?cg23 ?kg23 ?ag24 ?lg24 ?cg24 ?kg24 ?ag25 ?lg25 ?cg25 ?kg25 ?ag26 ?lg26 ?cg26 ?kg26 ?ag27 ?lg27 ?cg27 ?kg27 ?aL ?lL ?cL ?kL ?aO ?lO ?cO ?kO ?dpio ?z_isinstance ?z_int ?z_bool ?z_str ?z_tuple ?z_len ?z_all ?z_range ?z_repr ?z_max ?z_min ?z_list ?z_enumerate ?z_sum ?z_super ?gLET ?gc0 ?gc1 ?gc2 ?gc3 ?gc4 ?gc5 ?gc6 ?gc7 ?aC ?aI ?lI ?cI ?kI ?iI ?d1 ?d2 ?d3 ?d4 ?d5 ?d6 ?pg ?hd ?po ?sa ?mk ?kc ?n1 ?n2 ?n3 ?n4 ?n5 ?n6 ?n7 ?ob ?ha ?hn ?htk ?p1_name ?p2_name ?p3_name ?apname ?lpname ?cpname ?kpname ?p1_limit ?p2_limit ?p3_limit ?aplimit ?lplimit ?cplimit ?kplimit ?p1_tries ?p2_tries ?p3_tries ?aptries ?lptries ?cptries ?kptries ?p1_pauses ?p2_pauses ?p3_pauses ?appauses ?lppauses ?cppauses ?kppauses ?p1_early ?p2_early ?p3_early ?apearly ?lpearly ?cpearly ?kpearly ?aS ?aSi ?lS ?cS ?kS ?iS ?pgS ?hdS ?poS ?saS ?mkS ?kcS ?nS1 ?nS2 ?nS3 ?tp ?top ?gP ?xP ?rvP ?saP ?beP ?tyP ?kpP ?suP ?veP ?gaP ?ggP ?hdP ?nfP ?iP ?lP ?tP ?cdP ?lcP ?v2P ?fiP ?llP ?nfP2 ?gU ?xU ?saU ?beU ?tyU ?kpU ?suU ?veU ?gaU ?ggU ?hdU ?nfU ?iU ?lU ?tU ?cdU ?lcU ?v2U ?fiU ?llU ?subPP ?subUP ?subUU
    (case ag0 => k_is)
    (case lg0 => k_is)
    (case cg0 => k_is)
    (case kg0 => k_is)
    (case ag1 => k_is)
    (case lg1 => k_is)
    (case cg1 => k_is)
    (case kg1 => k_is)
    (case ag2 => k_is)
    (case lg2 => k_is)
    (case cg2 => k_is)
    (case kg2 => k_is)
    (case ag3 => k_is)
    (case lg3 => k_is)
    (case cg3 => k_is)
    (case kg3 => k_is)
    (case ag4 => k_is)
    (case lg4 => k_is)
    (case cg4 => k_is)
    (case kg4 => k_is)
    (case ag5 => k_is)
    (case lg5 => k_is)
    (case cg5 => k_is)
    (case kg5 => k_is)
    (case ag6 => k_is)
    (case lg6 => k_is)
    (case cg6 => k_is)
    (case kg6 => k_is)
    (case ag7 => k_is)
    (case lg7 => k_is)
    (case cg7 => k_is)
    (case kg7 => k_is)
    (case ag8 => k_is)
    (case lg8 => k_is)
    (case cg8 => k_is)
    (case kg8 => k_is)
    (case ag9 => k_is)
    (case lg9 => k_is)
    (case cg9 => k_is)
    (case kg9 => k_is)
    (case ag10 => k_is)
    (case lg10 => k_is)
    (case cg10 => k_is)
    (case kg10 => k_is)
    (case ag11 => k_is)
    (case lg11 => k_is)
    (case cg11 => k_is)
    (case kg11 => k_is)
    (case ag12 => k_is)
    (case lg12 => k_is)
    (case cg12 => k_is)
    (case kg12 => k_is)
    (case ag13 => k_is)
    (case lg13 => k_is)
    (case cg13 => k_is)
    (case kg13 => k_is)
    (case ag14 => k_is)
    (case lg14 => k_is)
    (case cg14 => k_is)
    (case kg14 => k_is)
    (case ag15 => k_is)
    (case lg15 => k_is)
    (case cg15 => k_is)
    (case kg15 => k_is)
    (case ag16 => k_is)
    (case lg16 => k_is)
    (case cg16 => k_is)
    (case kg16 => k_is)
    (case ag17 => k_is)
    (case lg17 => k_is)
    (case cg17 => k_is)
    (case kg17 => k_is)
    (case ag18 => k_is)
    (case lg18 => k_is)
    (case cg18 => k_is)
    (case kg18 => k_is)
    (case ag19 => k_is)
    (case lg19 => k_is)
    (case cg19 => k_is)
    (case kg19 => k_is)
    (case ag20 => k_is)
    (case lg20 => k_is)
    (case cg20 => k_is)
    (case kg20 => k_is)
    (case ag21 => k_is)
    (case lg21 => k_is)
    (case cg21 => k_is)
    (case kg21 => k_is)
    (case ag22 => k_is)
    (case lg22 => k_is)
    (case cg22 => k_is)
    (case kg22 => k_is)
    (case ag23 => k_is)
    (case lg23 => k_is)
    (case cg23 => k_is)
    (case kg23 => k_is)
    (case ag24 => k_is)
    (case lg24 => k_is)
    (case cg24 => k_is)
    (case kg24 => k_is)
    (case ag25 => k_is)
    (case lg25 => k_is)
    (case cg25 => k_is)
    (case kg25 => k_is)
    (case ag26 => k_is)
    (case lg26 => k_is)
    (case cg26 => k_is)
    (case kg26 => k_is)
    (case ag27 => k_is)
    (case lg27 => k_is)
    (case cg27 => k_is)
    (case kg27 => k_is)
    (case aL => k_is)
    (case lL => k_is)
    (case cL => k_is)
    (case kL => k_is)
    (case aO => k_is)
    (case lO => k_is)
    (case cO => k_is)
    (case kO => k_is)
    (case dpio => k_is)
    (case z_isinstance => k_is)
    (case z_int => k_is)
    (case z_bool => k_is)
    (case z_str => k_is)
    (case z_tuple => k_is)
    (case z_len => k_is)
    (case z_all => k_is)
    (case z_range => k_is)
    (case z_repr => k_is)
    (case z_max => k_is)
    (case z_min => k_is)
    (case z_list => k_is)
    (case z_enumerate => k_is)
    (case z_sum => k_is)
    (case z_super => k_is)
    (case gLET => k_is)
    (case gc0 => k_is)
    (case gc1 => k_is)
    (case gc2 => k_is)
    (case gc3 => k_is)
    (case gc4 => k_is)
    (case gc5 => k_is)
    (case gc6 => k_is)
    (case gc7 => k_is)
    (case aC => k_is)
    (case aI => k_is)
    (case lI => k_is)
    (case cI => k_is)
    (case kI => k_is)
    (case iI => k_is)
    (case d1 => k_is)
    (case d2 => k_is)
    (case d3 => k_is)
    (case d4 => k_is)
    (case d5 => k_is)
    (case d6 => k_is)
    (case pg => k_is)
    (case hd => k_is)
    (case po => k_is)
    (case sa => k_is)
    (case mk => k_is)
    (case kc => k_is)
    (case n1 => k_is)
    (case n2 => k_is)
    (case n3 => k_is)
    (case n4 => k_is)
    (case n5 => k_is)
    (case n6 => k_is)
    (case n7 => k_is)
    (case ob => k_is)
    (case ha => k_is)
    (case hn => k_is)
    (case htk => k_is)
    (case p1_name => k_is)
    (case p2_name => k_is)
    (case p3_name => k_is)
    (case apname => k_is)
    (case lpname => k_is)
    (case cpname => k_is)
    (case kpname => k_is)
    (case p1_limit => k_is)
    (case p2_limit => k_is)
    (case p3_limit => k_is)
    (case aplimit => k_is)
    (case lplimit => k_is)
    (case cplimit => k_is)
    (case kplimit => k_is)
    (case p1_tries => k_is)
    (case p2_tries => k_is)
    (case p3_tries => k_is)
    (case aptries => k_is)
    (case lptries => k_is)
    (case cptries => k_is)
    (case kptries => k_is)
    (case p1_pauses => k_is)
    (case p2_pauses => k_is)
    (case p3_pauses => k_is)
    (case appauses => k_is)
    (case lppauses => k_is)
    (case cppauses => k_is)
    (case kppauses => k_is)
    (case p1_early => k_is)
    (case p2_early => k_is)
    (case p3_early => k_is)
    (case apearly => k_is)
    (case lpearly => k_is)
    (case cpearly => k_is)
    (case kpearly => k_is)
    (case aS => k_is)
    (case aSi => k_is)
    (case lS => k_is)
    (case cS => k_is)
    (case kS => k_is)
    (case iS => k_is)
    (case pgS => k_is)
    (case hdS => k_is)
    (case poS => k_is)
    (case saS => k_is)
    (case mkS => k_is)
    (case kcS => k_is)
    (case nS1 => k_is)
    (case nS2 => k_is)
    (case nS3 => k_is)
    (case tp => k_is)
    (case top => first | rfl | decide +kernel)
    (case gP => k_is)
    (case xP => k_is)
    (case rvP => first | decide +kernel | rfl)
    (case saP => k_is)
    (case beP => k_is)
    (case tyP => k_is)
    (case kpP => k_is)
    (case suP => first | ks_is | k_is | kernel_rfl)
    (case veP => k_is)
    (case gaP => k_is)
    (case ggP => k_is)
    (case hdP => k_is)
    (case nfP => k_is)
    (case iP => k_is)
    (case lP => k_is)
    (case tP => k_is)
    (case cdP => k_is)
    (case lcP => k_is)
    (case v2P => first | rfl | decide +kernel)
    (case fiP => first | rfl | decide +kernel)
    (case llP => k_is)
    (case nfP2 => k_is)
    (case gU => k_is)
    (case xU => k_is)
    (case saU => k_is)
    (case beU => k_is)
    (case tyU => k_is)
    (case kpU => k_is)
    (case suU => first | ks_is | k_is | kernel_rfl)
    (case veU => k_is)
    (case gaU => k_is)
    (case ggU => k_is)
    (case hdU => k_is)
    (case nfU => k_is)
    (case iU => k_is)
    (case lU => k_is)
    (case tU => k_is)
    (case cdU => k_is)
    (case lcU => k_is)
    (case v2U => first | rfl | decide +kernel)
    (case fiU => first | rfl | decide +kernel)
    (case llU => k_is)
    (case subPP => k_is)
    (case subUP => k_is)
    (case subUU => k_is)
