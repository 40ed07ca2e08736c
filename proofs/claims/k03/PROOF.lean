import PyProof.Rows.All
import Wide.All
import OpenK.AllK
import Wide.FinOn
import HandS.ForMost
import HandS.EndBits
import HandS.MakeKwOnly
import HandS.Property
import HandS.IsInst
import HandS.TupMul
import PyProof.ReprRoads
import HandS.Walk
import HandS.ExcInit
import HandS.ExcOwn
import HandS.TryMany
import HandS.ExcField
import HandS.Nested
import KE.KExcSuper
import PySem.Challenge.RW_mostcalls_k03_policies_refused
set_option Elab.async false
set_option maxRecDepth 100000
set_option linter.all false
set_option maxHeartbeats 4000000
namespace Mc
open PySem PySem.Spec PyProof.Rows L2

/-! ### repr of data -/
def rRepr (K : PySem.W.Frag) : List V → Hp → VK → Prop := fun xs H Q =>
  ∃ (a : Addr) (d : PyData), xs = [.ref a] ∧ Dp K H (.ref a) d ∧ d.showable = true ∧ d.hasDict = false ∧ d.depth ≤ 40 ∧ d.shown.length ≤ sizeLine ∧ Q (.str d.shown) H

theorem call_repr {X : Cx} (hg : X.A.guards = some []) (hu : X.A.units + 64 < cLine) : CallR X (.builtin "repr") (rRepr X.K) := by
  intro pins s σ H xs us Q I r h
  obtain ⟨a, d, rfl, hd, hs, hx, hdp, hz, q⟩ := h
  cases r with
  | cons ru rn =>
    cases rn
    cases ru
    obtain ⟨as, R⟩ := Dp.reads I d _ _ hd rfl
    exact repr_of_reads' R hs (fun e => by rw [hx] at e; cases e) hg (by omega) (fun b o e => e)
      (fun h' u tk hk => ⟨.str d.shown, H, I.kept hk, ⟨u, rfl⟩, q⟩) hz

/-! ### a def that is run where no repr is under way -/
structure FnG (P : Program) (w : World) (K : PySem.W.Frag) (mg : Str → Option Value) (base : Heap) (CX : CXT) (k : Nat) (f : Addr) (fd : FuncData) (ps : List Str) (sp : Sp) : Prop where
  len : ∀ vs H Q E, sp vs H Q E → vs.length = ps.length
  run : ∀ (A : Around) (outer : List Env) (s : Shared) (H : Hp) (args : Args) (us : List Value) (vs : List V) (Q : VK) (E : XK),
    A.guards = some [] → Room k A → Env0 P w K mg base A outer s H → BindsTo s fd args (ps.zip us) → Vals vs us → sp vs H Q E →
    codeAny (model P w) A (.call (.ref f) args) (CR CX outer P w H s Q E) s

theorem fnG_of {CX : CXT} {P : Program} {w : World} {K : PySem.W.Frag} {mg : Str → Option Value} {base : Heap} {k : Nat} {f : Addr} {x qual : Str} {st : Stmt} {fd : FuncData}
    {N ps : List Str} {sp : Sp} (F : Fun K x qual st f fd) (S : FnScope N ps (defScope st)) (len : ∀ vs H Q E, sp vs H Q E → vs.length = ps.length)
    (hbody : ∀ (cdv : Value) (A : Around) (outer : List Env) (s : Shared) (H : Hp) (vs : List V) (Q : VK) (E : XK), A.guards = some [] →
      Room k (A.deeper (envOfC qual (defScope st) s.heap.objs.size f cdv)) → sp vs H Q E →
      ∃ t, PSs (cxOf CX P w K mg base N qual (defScope st) f cdv A outer s H E).nox (defBody st) t ∧ t { nx := fun _ H' => Q .non H', rt := Q } (start N vs) H) :
    FnG P w K mg base CX (k + 1) f fd ps sp := by
  obtain ⟨oc, od, kV, doc, pm, an, cdv, ct, osl, rfl, lk, hcd⟩ := F.ex
  constructor
  · exact len
  intro A outer s H args us vs Q E hg room env bind rel want
  have inh : K.In s.heap := env.mod.kin.keeps fun b o e => (env.bs b o e).1
  have nol : s.heap.NoLimit := env.mod.nolimit.keeps fun b o e => (env.bs b o e).1
  have kinds : ∀ y ∈ ps.zip us, (defScope st).names.lookup y.1 = some .local ∨
      ((defScope st).names.lookup y.1 = some .cell ∧ ((cellsFrom (s.heap.objs.size + 1) (defScope st).names []).lookup y.1).isSome = true) := by
    rintro ⟨n, v⟩ hy
    have hn := (List.of_mem_zip hy).1
    rcases S.par n hn with q | q
    · exact Or.inl q
    · exact Or.inr ⟨q, PySem.W.cellsFrom_some _ _ _ (Or.inl q)⟩
  have go := hbody cdv A outer s H vs Q E hg (room.deeper _) want
  obtain ⟨t, ht0, hq⟩ := go
  have ht := ht0.nox
  refine codeAny_call_function room.depth (inh _ _ lk) rfl S.co S.gen rfl (PySem.W.codeRec_of inh hcd) (bind _ _ _ _ ?_)
  refine wpAny_newFunctionEnv_cells S.kind kinds fun en hen s1 inc => ?_
  subst hen
  refine ⟨nol.keeps inc.toInCall.keep, codeAny_func ?_⟩
  have J := inv_start (CX := CX) (E := E) S room.hd env (len _ _ _ _ want) rel inc
  have R := ht.run [] s1 (start N vs) H _ J hq
  refine wpAny_mono R ?_ (fun _ _ z => z)
  intro fl s' z
  cases fl with
  | next => obtain ⟨σ', H', J', q⟩ := z; exact ⟨V.non, H', J'.os, J'.bare, J'.base, J'.hok, rfl, q⟩
  | ret u => obtain ⟨v, σ', H', J', rv, q⟩ := z; exact ⟨v, H', J'.os, J'.bare, J'.base, J'.hok, rv, q⟩
  | brk => obtain ⟨_, _, _, q⟩ := z; exact False.elim q
  | cont => obtain ⟨_, _, _, q⟩ := z; exact False.elim q

/-! ### the law, run by the claim's caller -/
theorem law_run {P : Program} {w : World} {K : PySem.W.Frag} {mg mb : Str → Option Value} {k : Nat} {fa a : Addr} {fd : FuncData} {x : Str} {sp : Sp} {s1 : Shared} {vs : List Value} {ns : List Int}
    (inK : K.In s1.heap) (gl : s1.heap.Ns mainGlobals mg) (bl : s1.heap.Ns builtinsNs mb) (bb : ∀ y : Str, y ≠ "__name__" → mb y = bootBuiltins y) (nl : s1.heap.NoLimit) (ge : s1.gens = #[])
    (obj : s1.heap.get? a = some { cls := .type "list", data := .seq vs.toArray }) (hIn : IntsAre vs ns) (len : ns.length ≤ sizeLine) (room : Room k callerA)
    (F : ∀ base : Heap, K.In base → base.Ns mainGlobals mg → FnG P w K mg base CX0 k fa fd [x] sp) (bnd : ∀ (s : Shared) (u : Value), BindsTo s fd ⟨[u], []⟩ [(x, u)])
    (pr : ∀ H : Hp, Only H → SqL K H a (ns.map V.int) → sp [.ref a] H (fun v _ => v = .bl true) E0) :
    codeAny (model P w) callerA (.call (.ref fa) ⟨[.ref a], []⟩) (fun r s' => r = .ok (.ret (.bool true)) ∧ OldK s1.heap s'.heap ∧ s'.os = s1.os ∧ AllBare s'.gens) s1 := by
  have rel := vals_ints hIn
  have lv := hIn.length
  have main : ∀ H : Hp, Only H → SqL K H a (ns.map V.int) → HOk P w H s1.heap → (∀ b, H b ≠ none → b = a) → (H a ≠ none → K.lookup a = none) →
      codeAny (model P w) callerA (.call (.ref fa) ⟨[.ref a], []⟩) (fun r s' => r = .ok (.ret (.bool true)) ∧ OldK s1.heap s'.heap ∧ s'.os = s1.os ∧ AllBare s'.gens) s1 := by
    intro H onl sq hok onlyA freeK
    have noD : ∀ {b : Addr} {o : Obj} {es : Array DictEntry} {n : Nat}, s1.heap.get? b = some o → o.data = .dict es n → H b = none := by
      intro b o es n e d
      rcases hq : H b with _ | u
      · rfl
      · have eb : b = a := onlyA b (by rw [hq]; intro z; cases z)
        rw [eb, obj] at e
        cases e
        exact Data.noConfusion d
    have keepNs : ∀ {b : Addr} {m : Str → Option Value}, s1.heap.Ns b m → (hidT s1.heap H).Ns b m := by
      rintro b m ⟨o, es, n, e, d, r⟩
      exact ⟨o, es, n, hidT_get e (noD e d), d, r⟩
    have inB : K.In (hidT s1.heap H) := by
      intro b o e
      refine hidT_get (inK b o e) ?_
      rcases hq : H b with _ | u
      · rfl
      · have nn : H b ≠ none := by rw [hq]; intro z; cases z
        have eb := onlyA b nn
        rw [eb] at nn e
        rw [freeK nn] at e
        cases e
    obtain ⟨mc, c1, c2⟩ := nl
    have md : Mod K mg (hidT s1.heap H) := ⟨inB, keepNs gl, ⟨mb, keepNs bl, bb⟩, ⟨mc, keepNs c1, c2⟩⟩
    have env : Env0 P w K mg (hidT s1.heap H) callerA [] s1 H :=
      ⟨rfl, md, fun b o e => of_hidT e, Nat.le_of_eq (hidT_size _ _), trivial, (fun b hb => (List.not_mem_nil (show b ∈ ([] : List Addr) from hb)).elim), hok, AllBare.of_eq ge⟩
    have R := (F _ inB (keepNs gl)).run callerA [] s1 H ⟨[.ref a], []⟩ [.ref a] [.ref a] (fun v _ => v = .bl true) E0 rfl room env (bnd s1 (.ref a)) (.cons rfl .nil) (pr H onl sq)
    refine codeAny_mono R ?_
    intro r s' z
    match r, z with
    | .ok (.ret u), z =>
      obtain ⟨v, H', eo, br, un, hok', rv, ev⟩ := z
      subst ev
      cases rv
      refine ⟨rfl, OldK.of_keep ?_, eo, br⟩
      intro b o e
      rcases hq : H b with _ | u
      · exact un.keep b o e hq (fun z => (List.not_mem_nil (show b ∈ ([] : List Addr) from z)).elim) (fun z => (List.not_mem_nil z).elim)
      · rcases onl b with q | ⟨ob, xs, q⟩
        · rw [hq] at q
          cases q
        · have f1 := (hok b _ q).1
          have f2 := (hok' b _ (un.frzs b ob _ q)).1
          rw [e] at f1
          cases f1
          exact f2
  rcases hk : K.lookup a with _ | o
  · let H : Hp := fun b => if b = a then some (.frz { cls := .type "list", data := .seq vs.toArray } (.lst (ns.map V.int))) else none
    have at_a : H a = some (.frz { cls := .type "list", data := .seq vs.toArray } (.lst (ns.map V.int))) := if_pos rfl
    have off : ∀ b, b ≠ a → H b = none := fun b hb => if_neg hb
    refine main H (fun b => ?_) (.inl (.inr ⟨_, at_a⟩)) (fun b u z => ?_) (fun b z => ?_) (fun _ => hk)
    · by_cases hb : b = a
      · subst hb
        exact Or.inr ⟨_, _, at_a⟩
      · exact Or.inl (off b hb)
    · by_cases hb : b = a
      · subst hb
        rw [at_a] at z
        cases z
        exact ⟨obj, by rw [List.length_map]; exact len, vs, _, rel, obj⟩
      · rw [off b hb] at z
        cases z
    · by_cases hb : b = a
      · exact hb
      · exact absurd (off b hb) z
  · have e := inK a o hk
    rw [obj] at e
    cases e
    refine main (fun _ => none) (fun _ => Or.inl rfl) (Or.inr ⟨_, vs.toArray, _, hk, rfl, rfl, rfl, ?_, by simpa using rel⟩) (fun b u z => nomatch z) (fun b z => absurd rfl z) (fun z => absurd rfl z)
    rw [List.size_toArray, lv]
    exact len

theorem walk_run {l : PySem.W.OpenLaw} {n k : Nat} {q : Program} {loose : List Str} {XP : (Str → Option Value) → Heap → Prop} {YP : World → Heap → Prop} {d : DefRec} {K : Params → PySem.W.Frag} {sp : PySem.W.Frag → Sp} {x : Str}
    (hn : l.most = some n) (hn2 : n ≤ sizeLine) (hdf : d.params.defaults = []) (room : Room k callerA) (hY : ∀ (w : World) (h : Heap), YP w h → (K w.params).In h)
    (F : ∀ (w : World) (mg : Str → Option Value) (fa : Addr) (h : Heap), (K w.params).In h → h.Ns mainGlobals mg → mg d.name = some (.ref fa) →
      ∃ fd : FuncData, (∀ (s : Shared) (u : Value), BindsTo s fd ⟨[u], []⟩ [(x, u)]) ∧
        ∀ base : Heap, (K w.params).In base → base.Ns mainGlobals mg → FnG l.prog w (K w.params) mg base CX0 k fa fd [x] (sp (K w.params)))
    (pr : ∀ (K : PySem.W.Frag) (H : Hp) (a : Addr) (ns : List Int), ns.length ≤ n → (∀ z ∈ ns, Builtin.Int.intBits z ≤ 1048576) → SqL K H a (ns.map V.int) → sp K [.ref a] H (fun v _ => v = .bl true) E0) :
    PySem.W.WalkO q loose XP YP l.row.toRowW d [] (fun f vs => PySem.call f vs) := by
  refine Att.attach_callB hn hdf ?_
  intro w s0 s1 mg mb fa o pm cd doc a vs ns G Y ho hd hcd hmg hobj hints hlen hbits hg
  obtain ⟨fd, hb, hF⟩ := F w mg fa _ (hY w _ Y) G.T.g hmg
  exact law_run (hY w _ Y) G.T.g G.T.b G.T.builtins G.T.nolimit hg hobj hints (Nat.le_trans hlen hn2) room hF hb (fun H _ hS => pr _ H a ns hlen hbits hS)
end Mc

namespace Mc
open PySem PySem.Spec PyProof.Rows L2

/-! ### == and != of an instance with the text's own `__eq__` -/
/-- the other side's type -/
inductive RT (H : Hp) : V → Value → Prop where
  | non : RT H .non (.type "NoneType")
  | int (i : Int) : RT H (.int i) (.type "int")
  | bl (b : Bool) : RT H (.bl b) (.type "bool")
  | str (z : Str) : RT H (.str z) (.type "str")
  | lst {a : Addr} {xs : List V} (e : H a = some (.lst xs)) : RT H (.ref a) (.type "list")
  | dK {a : Addr} {xs : List (Key × V)} (e : H a = some (.dK xs)) : RT H (.ref a) (.type "dict")
  | ins {a C dx : Addr} {fs : List (Str × V)} (e : H a = some (.ins C dx fs)) : RT H (.ref a) (.ref C)

theorem typ_at {M : Model} {h : Heap} {y : Addr} {o : Obj} {c : Value} (ho : h.get? y = some o) (hc : o.cls = c) : PySem.W.Looks M h (typeOf (.ref y)) c :=
  hc ▸ (PySem.W.Looks.ld ho).andThen .now

theorem RT.looks {X : Cx} {pins : List (Addr × Obj)} {σ : L2.St} {H : Hp} {s : Shared} {M : Model} {y : V} {u t : Value} (I : Inv X pins σ H s) (r : RT H y t) (ru : RelV y u) : PySem.W.Looks M s.heap (typeOf u) t := by
  cases r with
  | non => cases (show u = Value.none from ru); exact PySem.W.Looks.of_pure rfl
  | int i => obtain ⟨k, q⟩ := (show ∃ k, u = Value.int i k from ru); cases q; exact PySem.W.Looks.of_pure rfl
  | bl b => cases (show u = Value.bool b from ru); exact PySem.W.Looks.of_pure rfl
  | str z => obtain ⟨k, q⟩ := (show ∃ k, u = Value.str z k from ru); cases q; exact PySem.W.Looks.of_pure rfl
  | @lst a xs e =>
    cases (show u = Value.ref a from ru)
    obtain ⟨_, _, n, _, h1⟩ := (show ObjOk X.prog X.w H s.heap a (.lst xs) from I.hok a _ e)
    exact typ_at h1 rfl
  | @dK a xs e =>
    cases (show u = Value.ref a from ru)
    obtain ⟨_, _, vs, _, o, es, ep, h1, h2, _⟩ := (show ObjOk X.prog X.w H s.heap a (.dK xs) from I.hok a _ e)
    exact typ_at h1 h2.1
  | @ins a C dx fs e =>
    cases (show u = Value.ref a from ru)
    obtain ⟨mA, J, _⟩ := ins_get I.hok e
    obtain ⟨od, J, _⟩ := J.look
    exact J.type

theorem nf_ins {K : PySem.W.Frag} {C : Addr} : PySem.W.notFirst K C (.ref C) = true := by simp [PySem.W.notFirst]
theorem nf_ty {K : PySem.W.Frag} {C : Addr} {n : String} {l : List Value} (e : fastBuiltinMro n = some l) (hl : l.contains (.ref C) = false) : PySem.W.notFirst K C (.type n) = true := by
  have q : PySem.W.subIn K (.type n) (.ref C) = some false := by
    show (fastBuiltinMro n).map (·.contains (.ref C)) = some false
    rw [e, Option.map_some, hl]
  simp [PySem.W.notFirst, q]
theorem nf_none {K : PySem.W.Frag} {C : Addr} : PySem.W.notFirst K C (.type "NoneType") = true := nf_ty (l := [.type "NoneType", .type "object"]) (by decide +kernel) (by simp)
theorem nf_int {K : PySem.W.Frag} {C : Addr} : PySem.W.notFirst K C (.type "int") = true := nf_ty (l := [.type "int", .type "object"]) (by decide +kernel) (by simp)
theorem nf_list {K : PySem.W.Frag} {C : Addr} : PySem.W.notFirst K C (.type "list") = true := nf_ty (l := [.type "list", .type "object"]) (by decide +kernel) (by simp)

section
variable {prog : Program} {w : World} {A : Around} {E : Value → Shared → Prop} {s : Shared} {K : PySem.W.Frag} {x C L f : Addr} {h0 : Heap} {m : Str → Option Value} {ox : Obj} {od : Option Obj} {b tb : Value}
open PySem.W
theorem bound_ne {M : Model} {args : List Value} {Q : Option Value → Shared → Prop} (X : K.In s.heap) (I : InstAt s.heap x ox C od) (hs : findIn K (.ref C) "__ne__" = some (some (.builtin "object.__ne__")))
    (h : wpAny M A (call (.builtin "object.__ne__") (.ref x :: args)) (fun v => Q (some v)) E s) : wpAny M A (callSpecialIfBound? (.ref x) "__ne__" args) Q E s := by
  have all : wpAny M A (call (.builtin "object.__ne__") ([.ref x] ++ args) >>= fun v => pure (some v)) Q E s :=
    wpAny_bind (wpAny_mono h (fun v s' q => wpAny_pure q) (fun _ _ q => q))
  simp only [callSpecialIfBound?, bindSpecialIfBound?]
  refine wpAny_holding (wpAny_bind (wpAny_bind (wpAny_bind (I.type.here ((looks_findIn X hs).here ?_)))))
  refine wpAny_bind (wpAny_askSetting (wpAny_ite ?_))
  split
  · exact wpAny_bind (wpAny_of_eq (F.cmp_object.ne.bind _) (wpAny_pure (by exact all)))
  · exact wpAny_tryCatch (wpAny_bind (wpAny_of_eq (F.cmp_object.ne.bind _) (wpAny_pure (by exact all))))

theorem ne_body (hu : A.units < cLine) (X : K.In s.heap) (I : InstAt s.heap x ox C od) (he : findIn K (.ref C) "__eq__" = some (some (.ref f))) (hf : isFn K (.ref f) = true) {Q : Fin → Shared → Prop}
    (h : wpAny (model prog w) A (call (.ref f) [.ref x, b]) (fun v s' => ∃ r, v = .bool r ∧ Q (.done (.ret (.bool (!r)))) s') E s) :
    wpAny (model prog w) A (Builtin.«object.__ne__» ⟨[.ref x, b], []⟩) Q E s := by
  unfold Builtin.«object.__ne__»
  repeat (first
    | with_reducible refine wpAny_cRoomFor hu ?_
    | (refine wpAny_bind (m := callSpecialIfBound? (.ref x) (Str.ofString "__eq__") [b]) (ifBound_K X I he hf (wpAny_mono h (fun v s' q => ?_) fun _ _ e => e)); obtain ⟨r, rfl, q⟩ := q)
    | exact q
    | exact wpAny_pure q
    | (refine wpAny_bind (m := truthy (.bool _)) (wpAny_truthy_bool ?_))
    | wp_step)

theorem ne_K (hu : A.units + 1 < cLine) (Fm : Fr h0 L s.heap m) (X0 : K.In h0) (I : InstAt s.heap x ox C od) (hb : Looks (model prog w) s.heap (typeOf b) tb) (hn : notFirst K C tb = true)
    (hs : findIn K (.ref C) "__ne__" = some (some (.builtin "object.__ne__"))) (he : findIn K (.ref C) "__eq__" = some (some (.ref f))) (hf : isFn K (.ref f) = true) (hm : mroIn K C (.type "object") = some true)
    {Q : Value → Shared → Prop} (h : wpAny (model prog w) A.in1 (call (.ref f) [.ref x, b]) (fun v s' => ∃ r, v = .bool r ∧ Q (.bool (!r)) s') E s) :
    wpAny (model prog w) A (richCompare .NotEq (.ref x) b) Q E s := by
  have X := X0.keeps Fm.keep
  have one : wpAny (model prog w) A (tryCompare (.ref x) (cmpInfo .NotEq).2.1 b) (fun r s' => ∃ v, r = some v ∧ Q v s') E s := by
    unfold tryCompare
    refine wpAny_bind (bound_ne X I hs (wpAny_call (codeAny_call_builtin F.cmp_object.ne.plain F.cmpEntry_ne (check_slot F.cmpKind_ne F.cmpSplit_ne (I.type.andThen (looks_mroIn X hm)) (F.cmpArgs_ne _ _) ?_))))
    refine ne_body (A := A.in1) (by show A.units + 1 < cLine; exact hu) X I he hf (wpAny_mono h (fun v s' q => ?_) fun _ _ e => e)
    obtain ⟨r, rfl, q⟩ := q
    first | exact ⟨r, rfl, wpAny_pure ⟨_, rfl, q⟩⟩ | exact ⟨r, rfl, ⟨_, rfl, q⟩⟩ | exact ⟨r, rfl, wpAny_pure (wpAny_pure ⟨_, rfl, q⟩)⟩
  unfold richCompare
  simp only [oneThing_ref]
  refine wpAny_holding (wpAny_bind (wpAny_cRoomFor (Nat.lt_of_succ_lt hu) ?_))
  refine wpAny_bind (I.type.here (wpAny_bind (hb.here ?_)))
  have fin : wpAny (model prog w) A (tryCompare (.ref x) (cmpInfo .NotEq).2.1 b) (fun r s' => ∃ v, r = some v ∧ Q v s') E s := one
  split
  · rename_i q
    have e : subIn K tb (.ref C) = some false := by
      rcases Bool.or_eq_true_iff.mp hn with e | e
      · rw [beq_iff_eq.mp e] at q
        simp at q
      · exact beq_iff_eq.mp e
    refine wpAny_bind ((looks_subIn X e).here ?_)
    simp only [Bool.false_eq_true, if_false]
    refine wpAny_bind (wpAny_mono one ?_ fun _ _ e => e)
    rintro r s' ⟨v, rfl, hq⟩
    exact wpAny_pure hq
  · refine wpAny_bind (wpAny_pure ?_)
    simp only [Bool.false_eq_true, if_false]
    refine wpAny_bind (wpAny_mono one ?_ fun _ _ e => e)
    rintro r s' ⟨v, rfl, hq⟩
    exact wpAny_pure hq
end

section
variable {X : Cx} {CX : CXT} {k : Nat} {C f : Addr} {fd : FuncData} {ps : List Str} {sp : Sp} {E : XK}
/-- the way a def is run from within, at another place that has the same frames -/
theorem run_in {A : Around} {pins : List (Addr × Obj)} {σ : L2.St} {H : Hp} {s : Shared} {Q : VK} {us : List Value} {vs : List V} (fr : A.frames = X.A.frames) (G : FnOk X.prog X.w X.K X.mg X.base CX k f fd ps sp) (hr : Room k A)
    (hb : Binds X.K fd ps []) (hx : Passes CX X E) (I : Inv X pins σ H s) (r : Vals vs us) (h : sp vs H Q E) : wpAny (model X.prog X.w) A (call (.ref f) us) (EP X pins σ Q) X.xe s := by
  have e0 : Env0 X.prog X.w X.K X.mg X.base A X.stack s H := by
    have e := I.env0
    exact ⟨fr.trans e.frames, e.mod, e.bs, e.bsz, e.funs, e.frf, e.hok, e.bare⟩
  have hl : (us ++ ([] : List Value)).length = ps.length := by
    rw [List.append_nil, ← r.length]
    exact G.len _ _ _ _ h
  have bd := hb s us I.kIn hl
  rw [List.append_nil] at bd
  refine wpAny_call (codeAny_mono (G.run A X.stack s H ⟨us, []⟩ us vs Q E hr e0 bd r h) ?_)
  intro z s' hz
  match z, hz with
  | .error e, hz => exact hx pins σ H s e s' I hz
  | .ok (.ret u), hz => exact I.after hz

def rCmpO (C : Addr) (sp : Sp) (E : XK) (K : PySem.W.Frag) (neg : Bool) : R2 := fun x y H Q => ∃ (a dx : Addr) (fs : List (Str × V)) (t : Value), x = .ref a ∧ H a = some (.ins C dx fs) ∧ RT H y t ∧ PySem.W.notFirst K C t = true ∧
  sp [x, y] H (fun v H' => ∃ b, v = .bl b ∧ Q (.bl (if neg then !b else b)) H') E

structure OwnCmp (K : PySem.W.Frag) (C f : Addr) : Prop where
  eq : PySem.W.findIn K (.ref C) "__eq__" = some (some (.ref f))
  fn : PySem.W.isFn K (.ref f) = true
  ne : PySem.W.findIn K (.ref C) "__ne__" = some (some (.builtin "object.__ne__"))
  ob : PySem.W.mroIn K C (.type "object") = some true

theorem op_eqO (G : FnOk X.prog X.w X.K X.mg X.base CX k f fd ps sp) (O : OwnCmp X.K C f) (hb : Binds X.K fd ps []) (hx : Passes CX X E) (hr : Room k X.A) : OpR X (compareOp .Eq) (rCmpO C sp E X.K false) := by
  intro pins s σ H x y u v Q I rx ry h
  obtain ⟨a, dx, fs, t, rfl, ha, rt, nf, q⟩ := h
  cases rx
  obtain ⟨mA, J, _⟩ := ins_get I.hok ha
  obtain ⟨od, J, _⟩ := J.look
  obtain ⟨m, hF⟩ := I.fr
  show wpAny (model X.prog X.w) X.A (richCompare .Eq (.ref a) v) (EP X pins σ Q) X.xe s
  refine PySem.W.cmp_K (op := .Eq) (tb := t) hr.units0 hF I.ok.mod.kin J (rt.looks I ry) nf O.eq O.fn ?_
  refine thn (run_in rfl G hr hb hx I (.cons (show RelV (.ref a) (.ref a) from rfl) (.cons ry .nil)) q) ?_
  rintro w s' ⟨z, H', I', rz, b, rfl, q'⟩
  cases rz
  exact ⟨.bl b, H', I', rfl, q'⟩

theorem op_neO (G : FnOk X.prog X.w X.K X.mg X.base CX k f fd ps sp) (O : OwnCmp X.K C f) (hb : Binds X.K fd ps []) (hx : Passes CX X E) (hr : Room (k + 1) X.A) : OpR X (compareOp .NotEq) (rCmpO C sp E X.K true) := by
  intro pins s σ H x y u v Q I rx ry h
  obtain ⟨a, dx, fs, t, rfl, ha, rt, nf, q⟩ := h
  cases rx
  obtain ⟨mA, J, _⟩ := ins_get I.hok ha
  obtain ⟨od, J, _⟩ := J.look
  obtain ⟨m, hF⟩ := I.fr
  show wpAny (model X.prog X.w) X.A (richCompare .NotEq (.ref a) v) (EP X pins σ Q) X.xe s
  refine ne_K (tb := t) (by have := hr.units; omega) hF I.ok.mod.kin J (rt.looks I ry) nf O.ne O.eq O.fn O.ob ?_
  refine thn (run_in (A := X.A.in1) rfl G hr.in1 hb hx I (.cons (show RelV (.ref a) (.ref a) from rfl) (.cons ry .nil)) q) ?_
  rintro w s' ⟨z, H', I', rz, b, rfl, q'⟩
  cases rz
  exact ⟨b, rfl, .bl (!b), H', I', rfl, q'⟩
end
end Mc

namespace Mc
open PySem PySem.Spec PyProof.Rows L2
open AutoSeq1 (wpAny_loadPart')

/-! ### a tuple times nought or one -/
theorem mul_nought (l : Addr) (y : Value) (n : Nat) (dd : Option Addr) (sl : Array (Option Value)) (u : Tok) :
    Meets (Builtin.«tuple.__mul__» ⟨[.ref l, .int 0 u], []⟩) (fun _ R s => s.heap.get? l = some { cls := .type "tuple", dict := dd, data := .seq #[y] n, slots := sl } ∧
      R (.ok (.ret (Value.ref s.heap.objs.size))) { s with heap := s.heap.push { cls := Value.type "tuple", data := Data.seq #[] }, toks := s.toks }) := by
  refine .of_wp ?_
  rintro prog w A R ⟨hp, g, d, tk, os⟩ ⟨hl, h⟩
  have f1 := AutoSeq1.idx_int
  wp_walk using wpAny_loadPart' hl
  exact ⟨_, rfl, h⟩
theorem mul_single (l : Addr) (y : Value) (n : Nat) (dd : Option Addr) (sl : Array (Option Value)) (u : Tok) :
    Meets (Builtin.«tuple.__mul__» ⟨[.ref l, .int 1 u], []⟩) (fun _ R s => s.heap.get? l = some { cls := .type "tuple", dict := dd, data := .seq #[y] n, slots := sl } ∧
      R (.ok (.ret (Value.ref l))) s) := by
  refine .of_wp ?_
  rintro prog w A R ⟨hp, g, d, tk, os⟩ ⟨hl, h⟩
  have f1 := AutoSeq1.idx_int
  wp_walk using wpAny_loadPart' hl
  exact ⟨_, rfl, h⟩

/-- (v,) * k, k of 0, 1, 2 -/
def rRepS (K : PySem.W.Frag) : R2 := fun x y H Q => ∃ (l : Addr) (k : Int) (v : V), x = .ref l ∧ y = .int k ∧ SqT K H l [v] ∧ 0 ≤ k ∧ k ≤ 1000 ∧
  (k = 1 → Q (.ref l) H) ∧ (k ≠ 1 → ∀ p, H p = none → Q (.ref p) (upd H p (.tup (List.replicate k.toNat v))))

theorem op_repS {X : Cx} : OpR X (binaryOp .Mult) (rRepS X.K) := by
  intro pins s σ H x y v u Q I rx ry h
  obtain ⟨l, k, z, rfl, rfl, hT, k0, k1, q1, q2⟩ := h
  by_cases hk : 2 ≤ k
  · refine op_repT pins s σ H (.ref l) (.int k) v u Q I rx ry ⟨l, k, [z], rfl, rfl, hT, by simp, hk, k1, (by show 1 ≤ 1000; decide), fun p hp => ?_⟩
    have e : (List.replicate k.toNat [z]).flatten = List.replicate k.toNat z := by
      generalize k.toNat = n
      induction n with
      | zero => rfl
      | succ n ih => rw [List.replicate_succ, List.flatten_cons, ih, List.replicate_succ]; rfl
    rw [e]
    exact q2 (by omega) p hp
  · cases rx
    obtain ⟨t, rfl⟩ := ry
    obtain ⟨its, r, ⟨⟨cls, dd, data, sl⟩, ho, hc, n, hd⟩, hs⟩ := I.tuple hT
    simp only at hc hd
    subst hc hd
    match its, r with
    | [y], .cons ry .nil =>
      have hk' : k = 0 ∨ k = 1 := by omega
      rcases hk' with rfl | rfl
      · refine wpAny_binaryOp_repeat_ref (T := "tuple") (U := "int") (by decide) ⟨_, ho, rfl⟩ (fun s' => typeIs_int s' 0 t) noFill_tuple_mul F.fills_int_mul F.slot_int_rmul repeat_tuple F.slot_int_index.lookup
          (call_meets F.slot_int_rmul (typeIs_int s 0 t) F.entry_int_rmul (F.args_int_rmul_2 _ _) (int_rmul_tuple 0 t l #[y] n dd sl)
            ⟨ho, rfl, ⟨_, ho, rfl⟩, call_meets F.slot_tuple_mul ⟨_, ho, rfl⟩ F.entry_tuple_mul (F.args_tuple_mul_2 _ _) (mul_nought l y n dd sl t) ⟨ho, ?_⟩⟩)
        refine ⟨.ref s.heap.objs.size, _, I.laid (t' := s.toks) (o := .tup []) (fun b ob q => Heap.get?_push_of_some _ q) (Nat.le_refl _) ?_, rfl, q2 (by decide) _ (I.hok.fresh (Nat.le_refl _))⟩
        exact ⟨Nat.zero_le _, _, .nil, IsTup.new _ _⟩
      · refine wpAny_binaryOp_repeat_ref (T := "tuple") (U := "int") (by decide) ⟨_, ho, rfl⟩ (fun s' => typeIs_int s' 1 t) noFill_tuple_mul F.fills_int_mul F.slot_int_rmul repeat_tuple F.slot_int_index.lookup
          (call_meets F.slot_int_rmul (typeIs_int s 1 t) F.entry_int_rmul (F.args_int_rmul_2 _ _) (int_rmul_tuple 1 t l #[y] n dd sl)
            ⟨ho, rfl, ⟨_, ho, rfl⟩, call_meets F.slot_tuple_mul ⟨_, ho, rfl⟩ F.entry_tuple_mul (F.args_tuple_mul_2 _ _) (mul_single l y n dd sl t) ⟨ho, ?_⟩⟩)
        exact ⟨.ref l, H, I, rfl, q1 rfl⟩
end Mc

namespace Mc
open PySem PySem.Spec PyProof.Rows L2

/-- a new tuple, a new list -/
abbrev TupG (Q : VK) (xs : List V) (H1 : Hp) : Prop := xs.length ≤ sizeLine ∧ ∀ p, H1 p = none → Q (.ref p) (upd H1 p (.tup xs))
abbrev LstG (Q : VK) (xs : List V) (H1 : Hp) : Prop := xs.length ≤ sizeLine ∧ ∀ p, H1 p = none → Q (.ref p) (upd H1 p (.lst xs))
section
variable {σ : L2.St} {H : Hp} {Q : VK} {QB : Bool → Hp → Prop} {QA : List V → Hp → Prop} {QS : L2.St → Hp → Prop} {D : Ends} {ta tb te : TE} {tt tu : TT} {t u : TS} {tr tk : TA} {r : R2} {v x y : V} {i : Nat} {K : PySem.W.Frag}
theorem g_var (h : σ[i]? = some (some v)) (q : Q v H) : tVar i σ H Q := ⟨v, h, q⟩
theorem g_c (q : Q v H) : tC v σ H Q := q
theorem g_op (q : ta σ H fun x H1 => tb σ H1 fun y H2 => r x y H2 Q) : tOp r ta tb σ H Q := q
theorem g_un {r : V → Hp → VK → Prop} (q : ta σ H fun x H1 => r x H1 Q) : tUn r ta σ H Q := q
theorem g_test (q : te σ H fun x H' => ∃ k, x = .bl k ∧ QB k H') : tTest te σ H QB := q
theorem g_B (q : te σ H fun x H' => ∃ k, x = .bl k ∧ QB k H') : tB te σ H QB := q
theorem g_bl {b : Bool} (q : QB b H) : ∃ k, V.bl b = .bl k ∧ QB k H := ⟨b, rfl, q⟩
theorem g_blV {b : Bool} {P : Bool → Prop} (q : P b) : ∃ k, V.bl b = .bl k ∧ P k := ⟨b, rfl, q⟩
theorem g_ifS (q : tt σ H fun b H1 => if b = true then t D σ H1 else u D σ H1) : tIfS tt t u D σ H := q
theorem g_if (q : tt σ H fun c H1 => if c = true then ta σ H1 Q else tb σ H1 Q) : tIf tt ta tb σ H Q := q
theorem g_not (q : tt σ H fun c H1 => QB (!c) H1) : tNot tt σ H QB := q
theorem g_and (q : tt σ H fun c H1 => if c = true then tu σ H1 QB else QB false H1) : tAnd tt tu σ H QB := q
theorem g_or (q : tt σ H fun c H1 => if c = true then QB true H1 else tu σ H1 QB) : tOr tt tu σ H QB := q
theorem g_notV (q : ta σ H fun x H1 => ∃ c, x = .bl c ∧ Q (.bl (!c)) H1) : tNotV ta σ H Q := q
theorem g_andV (q : ta σ H fun x H1 => ∃ c, x = .bl c ∧ if c = true then tb σ H1 Q else Q (.bl false) H1) : tAndV ta tb σ H Q := q
theorem g_orV (q : ta σ H fun x H1 => ∃ c, x = .bl c ∧ if c = true then Q (.bl true) H1 else tb σ H1 Q) : tOrV ta tb σ H Q := q
theorem g_seq (q : t { D with nx := u D } σ H) : tSeq t u D σ H := q
theorem g_next (q : D.nx σ H) : tNext D σ H := q
theorem g_asg {g : TG} (q : te σ H fun x H1 => g x σ H1 D.nx) : tAsg te g D σ H := q
theorem g_name (q : QS (σ.set i (some v)) H) : gName i v σ H QS := q
theorem g_drop (q : te σ H fun _ H1 => D.nx σ H1) : tDrop te D σ H := q
theorem g_ret (q : te σ H D.rt) : tRet te D σ H := q
theorem g_retN (q : D.rt .non H) : tRetN D σ H := q
theorem g_brk (q : D.bk σ H) : tBreak D σ H := q
theorem g_cont (q : D.ct σ H) : tCont D σ H := q
theorem g_call {sp : Sp} {dvs : List V} {E : XK} (q : tr σ H fun vs H1 => sp (vs ++ dvs) H1 Q E) : tCall sp dvs E tr σ H Q := q
theorem g_cb {r : List V → Hp → VK → Prop} (q : tr σ H fun vs H1 => r vs H1 Q) : tCB r tr σ H Q := q
theorem g_nil (q : QA [] H) : tNil σ H QA := q
theorem g_cons (q : te σ H fun x H1 => tr σ H1 fun xs H2 => QA (x :: xs) H2) : tCons te tr σ H QA := q
theorem g_tup (q : tr σ H fun xs H1 => TupG Q xs H1) : tTup tr σ H Q := q
theorem g_lst (q : tr σ H fun xs H1 => LstG Q xs H1) : tLst tr σ H Q := q
theorem g_prop {C : Addr} {sp : Sp} {dvs : List V} {E : XK} (q : ta σ H fun x H1 => ∃ a dx fs, x = .ref a ∧ H1 a = some (.ins C dx fs) ∧ sp (.ref a :: dvs) H1 Q E) : tProp C sp dvs E ta σ H Q := q
theorem g_fld {f : Str} (q : ta σ H fun x H1 => ∃ a C dx fs v, x = .ref a ∧ H1 a = some (.ins C dx fs) ∧ Cls K C ∧ NoAttr K C f ∧ fs.lookup f = some v ∧ Q v H1) : tFld K ta f σ H Q := q
theorem g_meth {C : Addr} {m : Str} {sp : Sp} {dvs : List V} {E : XK} (q : ta σ H fun x H1 => ∃ a dx fs, x = .ref a ∧ H1 a = some (.ins C dx fs) ∧ fs.lookup m = none ∧
  tr σ H1 fun vs H2 => sp (x :: (vs ++ dvs)) H2 Q E) : tMeth C m sp dvs E ta tr σ H Q := q
theorem g_eq {x y : V} (h : scal x y = true) (q : Q (.bl (decide (x = y))) H) : rEq x y H Q := ⟨h, q⟩
theorem g_ne {x y : V} (h : scal x y = true) (q : Q (.bl (!decide (x = y))) H) : rNe x y H Q := ⟨h, q⟩
theorem g_I0 {g : Int → Int → V} {a b : Int} (q : Q (g a b) H) : rI0 g (.int a) (.int b) H Q := ⟨a, b, rfl, rfl, q⟩
theorem g_I {C : Int → Int → Prop} {g : Int → Int → V} {a b : Int} (h : C a b) (q : Q (g a b) H) : rI C g (.int a) (.int b) H Q := ⟨a, b, rfl, rfl, h, q⟩
theorem g_iteT {A B : Prop} (h : A) : if true = true then A else B := by rw [if_pos rfl]; exact h
theorem g_iteF {A B : Prop} (h : B) : if false = true then A else B := by rw [if_neg Bool.false_ne_true]; exact h
theorem g_add {a b : Int} (q : Q (.int (a + b)) H) : rAdd (.int a) (.int b) H Q := ⟨a, b, rfl, rfl, q⟩
theorem g_sub {a b : Int} (q : Q (.int (a - b)) H) : rSub (.int a) (.int b) H Q := ⟨a, b, rfl, rfl, q⟩
theorem g_lc {r : List V → Hp → VK → Prop} (q : tr σ H fun vs H1 => r vs H1 Q) : tCB r tr σ H Q := q
theorem g_bm {T : String} {r : V → List V → Hp → VK → Prop} (q : te σ H fun x H1 => tyV K T x H1 ∧ tr σ H1 fun xs H2 => r x xs H2 Q) : tBM K T r te tr σ H Q := q
theorem g_ixL {p : Addr} {xs : List V} {k : Int} (h : SqL K H p xs) (e : atI xs k = some v) (q : Q v H) : rIxL K (.ref p) (.int k) H Q := ⟨p, xs, k, v, rfl, rfl, h, e, q⟩
theorem g_ixT {p : Addr} {xs : List V} {k : Int} (h : SqT K H p xs) (e : atI xs k = some v) (q : Q v H) : rIxT K (.ref p) (.int k) H Q := ⟨p, xs, k, v, rfl, rfl, h, e, q⟩
end

/-- one step of a reading -/
local macro_rules | `(tactic| walk_at "rd1") => `(tactic| first
  | with_reducible refine g_seq ?_
  | with_reducible refine g_asg ?_
  | with_reducible refine g_name ?_
  | with_reducible refine g_c ?_
  | with_reducible refine g_op ?_
  | with_reducible refine g_ifS ?_
  | with_reducible refine g_if ?_
  | with_reducible refine g_test ?_
  | with_reducible refine g_B ?_
  | with_reducible refine g_bl ?_
  | with_reducible refine g_blV ?_
  | with_reducible refine g_not ?_
  | with_reducible refine g_and ?_
  | with_reducible refine g_or ?_
  | with_reducible refine g_notV ?_
  | with_reducible refine g_andV ?_
  | with_reducible refine g_orV ?_
  | with_reducible refine g_ret ?_
  | with_reducible refine g_drop ?_
  | with_reducible refine g_next ?_
  | with_reducible refine g_retN ?_
  | with_reducible refine g_call ?_
  | with_reducible refine g_cb ?_
  | with_reducible refine g_cons ?_
  | with_reducible refine g_nil ?_
  | with_reducible refine g_tup ?_
  | with_reducible refine g_lst ?_
  | with_reducible refine g_prop ?_
  | with_reducible refine g_fld ?_
  | with_reducible refine g_meth ?_
  | with_reducible refine g_un ?_
  | with_reducible refine g_bm ?_
  | with_reducible refine g_iteT ?_
  | with_reducible refine g_iteF ?_
  | with_reducible refine g_I0 ?_
  | with_reducible refine g_add ?_
  | with_reducible refine g_sub ?_
  | ((with_reducible refine' g_var ?hv ?_); (case hv => rfl))
  | ((with_reducible refine g_eq ?hv ?_); (case hv => rfl))
  | ((with_reducible refine g_ne ?hv ?_); (case hv => rfl)))
local macro_rules | `(tactic| walk_at "rd") => `(tactic| repeat (walk_at "rd1"))

example {X : Cx} {Q : VK} {H : Hp} (q : Q (.int 5) H) : (tSeq (tAsg (tOp rAdd (tC (.int 2)) (tC (.int 3))) (gName 0)) (tRet (tVar 0))) { nx := fun _ _ => False, rt := Q } [none] H := by
  walk_at "rd"
  exact q
end Mc

namespace Mc
open PySem PySem.Spec PyProof.Rows L2

/-! ### defs and their calls -/
structure Def (K : PySem.W.Frag) (mg : Str → Option Value) (x : Str) (st : Stmt) (ps : List Str) : Prop where
  ex : ∃ (f : Addr) (fd : FuncData), Fun K x x st f fd ∧ mg x = some (.ref f) ∧ Binds K fd ps []
structure Cal (P : Program) (w : World) (K : PySem.W.Frag) (mg : Str → Option Value) (base : Heap) (k : Nat) (x : Str) (sp : Sp) : Prop where
  ex : ∃ (f : Addr) (fd : FuncData) (ps : List Str), FnOk P w K mg base CX0 k f fd ps sp ∧ mg x = some (.ref f) ∧ PySem.W.keepIn K (.ref f) = true ∧ Binds K fd ps []
section
variable {P : Program} {w : World} {K : PySem.W.Frag} {mg : Str → Option Value} {base : Heap}
theorem cal_of {x : Str} {st : Stmt} {N ps : List Str} {k : Nat} {sp : Sp} (D : Def K mg x st ps) (S : FnScope N ps (defScope st)) (len : ∀ vs H Q E, sp vs H Q E → vs.length = ps.length)
    (hbody : ∀ (f : Addr) (cdv : Value) (A : Around) (outer : List Env) (s : Shared) (H : Hp) (vs : List V) (Q : VK) (E : XK), Room k (A.deeper (envOfC x (defScope st) s.heap.objs.size f cdv)) → sp vs H Q E →
      ∃ t, PSs (cxOf CX0 P w K mg base N x (defScope st) f cdv A outer s H E).nox (defBody st) t ∧ t { nx := fun _ H' => Q .non H', rt := Q } (start N vs) H) : Cal P w K mg base (k + 1) x sp := by
  obtain ⟨f, fd, F, hm, b⟩ := D.ex
  exact ⟨f, fd, ps, F.ok S len (hbody f), hm, F.kp, b⟩
end
section
variable {X : Cx} {k j : Nat} {x : Str} {sp : Sp} {p pos : Pos} {e : Expr} {es : List Expr} {t : TA}
theorem pe_f (c : Cal X.prog X.w X.K X.mg X.base k x sp) (hr : Room j X.A) (hk : k ≤ j) (hg : Gl X x) (ha : PA X (e :: es) t)
    (hdb : (x == ("__debug__" : Str)) = false := by decide) (he : starEach (e :: es) X.env = (false, eval e X.env) :: starEach es X.env := by rfl) (hpl : (backTo pos (starEach es X.env)).any (·.1) = false := by rfl) :
    PE X (.Call (.Name x p) (e :: es) [] pos) (tCall sp [] E0 t) := by
  obtain ⟨f, fd, ps, G, hm, kp, b⟩ := c.ex
  exact pe_call G (hr.mono hk) hg hm kp b .nil pass0 ha hdb he hpl
theorem pe_gx {v : V} (hg : Gl X x) (h : ∃ u, X.mg x = some u ∧ RelV v u) (hd : (x == ("__debug__" : Str)) = false := by decide) : PE X (.Name x pos) (tC v) :=
  h.elim fun u hu => pe_glob hg hu.1 hu.2 hd
theorem pe_ty (n : String) (hg : Gl X x) (hm : X.mg x = none) (hv : bootBuiltins x = some (.type n)) (hn : x ≠ "__name__" := by decide) (hd : (x == ("__debug__" : Str)) = false := by decide) : PE X (.Name x pos) (tC (.ty n)) :=
  pe_bltn (v := .ty n) (u := .type n) hg hm hv rfl hn hd
end

/-! ### kinds of values -/
inductive TyB (K : PySem.W.Frag) (H : Hp) : V → String → Prop where
  | non : TyB K H .non "NoneType"
  | bl (b : Bool) : TyB K H (.bl b) "bool"
  | int (i : Int) : TyB K H (.int i) "int"
  | str (z : Str) : TyB K H (.str z) "str"
  | lst {a : Addr} {xs : List V} (e : H a = some (.lst xs)) : TyB K H (.ref a) "list"
  | tup {a : Addr} {xs : List V} (e : H a = some (.tup xs)) : TyB K H (.ref a) "tuple"
  | dK {a : Addr} {xs : List (Key × V)} (e : H a = some (.dK xs)) : TyB K H (.ref a) "dict"
  | kTup {a : Addr} {o : Obj} (e : K.lookup a = some o) (c : o.cls = .type "tuple") : TyB K H (.ref a) "tuple"
theorem TyB.x {K : PySem.W.Frag} {H : Hp} {v : V} {n : String} (h : TyB K H v n) : TyX K H v (.type n) := by
  cases h with
  | non => exact .base .non
  | bl b => exact .base (.bl b)
  | int i => exact .base (.int i)
  | str z => exact .base (.str z)
  | lst e => exact .base (.lst e)
  | tup e => exact .base (.tup e)
  | dK e => exact .base (.dK e)
  | kTup e c => exact .kTuple e c
theorem g_isi {K : PySem.W.Frag} {H : Hp} {Q : VK} {v : V} {n m : String} {b : Bool} (h : TyB K H v n) (e : kitB n m = some b) (q : Q (.bl b) H) : rIsi K [v, .ty m] H Q :=
  ⟨v, .ty m, .type n, .type m, b, rfl, .ty m, h.x, kit_ty e, q⟩
theorem g_chain {σ : L2.St} {H : Hp} {Q : VK} {r r' : R2} {ta tb tc : TE} (q : ta σ H fun x H1 => tb σ H1 fun y H2 => r x y H2 fun z H3 => ∃ k, z = .bl k ∧ (if k = true then tc σ H3 fun w' H4 => r' y w' H4 Q else Q (.bl false) H3)) : tChain r r' ta tb tc σ H Q := q
theorem g_sfld {K : PySem.W.Frag} {σ : L2.St} {H : Hp} {D : Ends} {ta tv : TE} {f : Str} (q : tv σ H fun y H1 => ta σ H1 fun x H2 => ∃ a C dx fs, x = .ref a ∧ H2 a = some (.ins C dx fs) ∧ Cls K C ∧ NoAttr K C f ∧ fs.length < 1000 ∧ D.nx σ (upd H2 a (.ins C dx (putF f y fs)))) : sFld K ta tv f D σ H := q
theorem g_gsub {σ : L2.St} {H : Hp} {Q : L2.St → Hp → Prop} {to ti : TE} {t : TSet} {v : V} (q : to σ H fun o H1 => ti σ H1 fun i H2 => t o i v H2 fun H3 => Q σ H3) : gSub to ti t v σ H Q := q
theorem g_make {σ : L2.St} {H : Hp} {Q : VK} {C : Addr} {sp : Sp} {dvs : List V} {E : XK} {t : TA} (q : t σ H fun vs H1 => ∀ x dx, H1 x = none → H1 dx = none → dx ≠ x →
  sp (.ref x :: (vs ++ dvs)) (upd (upd H1 dx (.own x)) x (.ins C dx [])) (fun v H2 => v = .non ∧ Q (.ref x) H2) E) : tMake C sp dvs E t σ H Q := q
theorem g_makeK {σ : L2.St} {H : Hp} {Q : VK} {C : Addr} {n m : Nat} {sp : Sp} {gV : List V → List V → List V} {E : XK} {t tk : TA} (q : t σ H fun vs H1 => tk σ H1 fun zs H2 => vs.length = n ∧ zs.length = m ∧ ∀ x dx, H2 x = none → H2 dx = none → dx ≠ x →
  sp (gV (.ref x :: vs) zs) (upd (upd H2 dx (.own x)) x (.ins C dx [])) (fun v H3 => v = .non ∧ Q (.ref x) H3) E) : tMakeK C n m sp gV E t tk σ H Q := q
theorem g_yes {σ : L2.St} {H : Hp} {Q : Bool → Hp → Prop} (q : Q true H) : tYes σ H Q := q
theorem g_ite {c : Bool} {A B : Prop} (h1 : c = true → A) (h2 : c = false → B) : if c = true then A else B := by
  cases c
  · exact g_iteF (h2 rfl)
  · exact g_iteT (h1 rfl)
theorem kb_int {n : String} (h : n ∈ ["NoneType", "bool", "int", "str", "list", "tuple", "dict"]) : kitB n "int" = some (n == "int" || n == "bool") := by
  simp only [List.mem_cons, List.not_mem_nil, or_false] at h
  rcases h with rfl | rfl | rfl | rfl | rfl | rfl | rfl <;> decide +kernel
theorem kb_bool {n : String} (h : n ∈ ["NoneType", "bool", "int", "str", "list", "tuple", "dict"]) : kitB n "bool" = some (n == "bool") := by
  simp only [List.mem_cons, List.not_mem_nil, or_false] at h
  rcases h with rfl | rfl | rfl | rfl | rfl | rfl | rfl <;> decide +kernel
theorem kb_str {n : String} (h : n ∈ ["NoneType", "bool", "int", "str", "list", "tuple", "dict"]) : kitB n "str" = some (n == "str") := by
  simp only [List.mem_cons, List.not_mem_nil, or_false] at h
  rcases h with rfl | rfl | rfl | rfl | rfl | rfl | rfl <;> decide +kernel
theorem kb_tuple {n : String} (h : n ∈ ["NoneType", "bool", "int", "str", "list", "tuple", "dict"]) : kitB n "tuple" = some (n == "tuple") := by
  simp only [List.mem_cons, List.not_mem_nil, or_false] at h
  rcases h with rfl | rfl | rfl | rfl | rfl | rfl | rfl <;> decide +kernel
theorem TyB.mem {K : PySem.W.Frag} {H : Hp} {v : V} {n : String} (h : TyB K H v n) : n ∈ ["NoneType", "bool", "int", "str", "list", "tuple", "dict"] := by
  cases h <;> decide

def isI : V → Bool
  | .int _ => true
  | _ => false
def btw (v : V) (a b : Int) : Bool := match v with
  | .int i => decide (a ≤ i) && decide (i ≤ b)
  | _ => false

local macro_rules | `(tactic| walk_at "rd1") => `(tactic| first
  | with_reducible refine g_seq ?_
  | with_reducible refine g_asg ?_
  | with_reducible refine g_name ?_
  | with_reducible refine g_c ?_
  | with_reducible refine g_op ?_
  | with_reducible refine g_ifS ?_
  | with_reducible refine g_if ?_
  | with_reducible refine g_test ?_
  | with_reducible refine g_B ?_
  | with_reducible refine g_bl ?_
  | with_reducible refine g_blV ?_
  | with_reducible refine g_not ?_
  | with_reducible refine g_and ?_
  | with_reducible refine g_or ?_
  | with_reducible refine g_notV ?_
  | with_reducible refine g_andV ?_
  | with_reducible refine g_orV ?_
  | with_reducible refine g_ret ?_
  | with_reducible refine g_drop ?_
  | with_reducible refine g_next ?_
  | with_reducible refine g_retN ?_
  | with_reducible refine g_call ?_
  | with_reducible refine g_cb ?_
  | with_reducible refine g_cons ?_
  | with_reducible refine g_nil ?_
  | with_reducible refine g_tup ?_
  | with_reducible refine g_lst ?_
  | with_reducible refine g_prop ?_
  | with_reducible refine g_fld ?_
  | with_reducible refine g_meth ?_
  | with_reducible refine g_chain ?_
  | with_reducible refine g_yes ?_
  | with_reducible refine g_make ?_
  | with_reducible refine g_makeK ?_
  | with_reducible refine g_gsub ?_
  | with_reducible refine g_sfld ?_
  | with_reducible refine g_un ?_
  | with_reducible refine g_bm ?_
  | with_reducible refine g_iteT ?_
  | with_reducible refine g_iteF ?_
  | with_reducible refine g_I0 ?_
  | with_reducible refine g_add ?_
  | with_reducible refine g_sub ?_
  | ((with_reducible refine' g_var ?hv ?_); (case hv => rfl))
  | ((with_reducible refine g_eq ?hv ?_); (case hv => rfl))
  | ((with_reducible refine g_ne ?hv ?_); (case hv => rfl)))
local macro_rules | `(tactic| walk_at "rd") => `(tactic| repeat (walk_at "rd1"))

/-! ### is_integer, is_between -/
def spIsInt (K : PySem.W.Frag) : Sp := fun vs H Q _ => ∃ v n, vs = [v] ∧ TyB K H v n ∧ Q (.bl (isI v)) H
def spBtw (K : PySem.W.Frag) : Sp := fun vs H Q _ => ∃ v n a b, vs = [v, .int a, .int b] ∧ TyB K H v n ∧ Q (.bl (btw v a b)) H
end Mc

namespace Mx
open PySem PySem.Spec PyProof.Rows L2
open PySem.W (KxsFacts kxs_mw ks_superIn)
section
variable {prog : Program} {w : World} {A : Around} {E : Value → Shared → Prop} {h : Heap} {g : Array GenState} {d : Drawn} {t : Nat} {os : OsState}
theorem call_mw {B nI iI : String} {bmB : List Value} (FB : ExcBaseFacts B nI iI bmB) {nm q : Str} {C N : Addr} {bs bm : List Value} {hdct : Bool} {sn : List Str} {sub : List Value} {ab : Bool} {col : Option Bool} {dd : Option Addr} {k0 k1 k2 k3 k5 : Option Value}
    {mw x t0 : Addr} {us : List Value} {R : Value → Shared → Prop} (atC : h.get? C = some (excClassObj nm q C N bs bm hdct sn sub ab col dd k0 k1 k2 k3 k5 nI)) (atX : h.get? x = some (HandSPX.excO C t0)) (atW : h.get? mw = some (kxs_mw iI x)) (lim : us.length ≤ sizeLine)
    (then_ : ∀ g' t1, (∀ b o, b ≠ x → h.get? b = some o → g'.get? b = some o) → g'.get? x = some (HandSPX.excO C t1) → R .none ⟨g', g, d, t, os⟩) : wpAny (model prog w) A (call (.ref mw) us) R E ⟨h, g, d, t, os⟩ := by
  have three : (Value.type "method-wrapper" == Value.type "method" || Value.type "method-wrapper" == Value.type "builtin_function_or_method" || Value.type "method-wrapper" == Value.type "method-wrapper") = true := by decide
  refine wpAny_call (codeAny_of_tree (show wpAny _ A.in1 (callAny (.ref mw) ⟨us, []⟩) _ _ _ from ?_))
  · simp only [callAny]
    refine wpAny_bind (wpAny_load atW ?_)
    simp only [kxs_mw, three, if_true]
    refine PySem.W.KFB.if_so (by decide) (wpAny_bind (PySem.W.check_bound_init FB.toExcCallFacts atC atX rfl (wpAny_bind (wpAny_pure (wpAny_pure ⟨plainId_quiet FB.init.plain _, codeAny_builtin FB.initEntry ?_⟩)))))
    exact PySem.W.exc_init_tree (cls := .ref C) (t0 := t0) (dv := none) (c2 := .none) (c3 := .none) (b4 := .bool false) atX lim fun g' keep at_ _ => then_ g' _ keep at_
end
section
variable {X : Cx} {pins : List (Addr × Obj)} {σ : L2.St} {H : Hp} {s : Shared}
/-- super().__init__("..") in an own exception's __init__, as the first statement of the body -/
theorem super_at {body : List Stmt} {qual file z : Str} {scope : Scope} {L f cda cc x C : Addr} {fd : FuncData} {ar : Arg} {vs : Array Value} {tf : Tok} {oc ccl cl : Value} {od cdd cld : Option Addr} {osl ccs csl : Array (Option Value)} {j : Nat} {p0 p1 p2 p3 p4 p5 : Pos} {pl : Sem Bool} {Q : Flow → Shared → Prop} {E : Value → Shared → Prop}
    (I : Inv X pins σ H s) (hE : X.env = PySem.W.ksEnv qual scope L f (.ref cda) cc) (lf : X.K.lookup f = some ⟨oc, od, .func fd, osl⟩) (hp : (fd.params.posonlyargs ++ fd.params.args).head? = some ar)
    (hN : X.N[0]? = some ar.arg) (hσ : σ[0]? = some (some (.ref x))) (hcode : X.K.lookup cda = some ⟨ccl, cdd, .fields vs, ccs⟩) (hvs : vs[2]? = some (.str file tf)) (hfile : ((X.prog.main.file : Str) == file) = true)
    (hcell : X.K.lookup cc = some ⟨cl, cld, .cell (some (.ref C)), csl⟩) (T : OexC X.K C) (hs : ks_superIn X.K C C "__init__" = some (some (.builtin "ValueError.__init__"))) (hB : PySem.W.subIn X.K (.ref C) (.type "ValueError") = some true)
    (ho : PySem.W.nsIn X.K cStatics "thirdparty.any" = some none) (hsup : X.mg "super" = none) (hks : scope.names.lookup ("super" : Str) = some .globalImplicit) (hkc : scope.names.lookup ("__class__" : Str) = some .free) (hka : scope.names.lookup ar.arg = some .local) (hk : scope.kind = .function)
    (htop : (X.prog.main.scope.names.lookup ("super" : Str)).isSome = false) (hboot : bootBuiltins "super" = some (.type "super")) (ea : H x = some (exo x C none)) (q : ∀ s', Inv X pins σ H s' → Q .next s')
    (hc : eval (.Call (.Attribute (.Call (.Name "super" p0) [] [] p1) "__init__" p2) [.Constant (.str z) j p3] [] p4) (PySem.W.ksEnv qual scope L f (.ref cda) cc) = (do
      let ov ← attributeBase (.Call (.Name "super" p0) [] [] p1) "__init__" (PySem.W.ksEnv qual scope L f (.ref cda) cc) (eval (.Call (.Name "super" p0) [] [] p1) (PySem.W.ksEnv qual scope L f (.ref cda) cc))
      standAt p2.atName
      let (fv, first) ← holding [ov] (getMethod ov "__init__" pl)
      callWith p4 fv first (backTo p4 (starEach [.Constant (.str z) j p3] (PySem.W.ksEnv qual scope L f (.ref cda) cc))) []) := by rfl) :
    _root_.PySem.wpAt (model X.prog X.w) X.A (.func body X.env) (exec (.Expr (.Call (.Attribute (.Call (.Name "super" p0) [] [] p1) "__init__" p2) [.Constant (.str z) j p3] [] p4) p5) X.env) Q E s := by
  obtain ⟨nm, qn, N', bs, bm, sn, sub, ab, col, dd, k0, k1, k2, k3, k5, hC, hbm⟩ := T.cls
  have hcl : PySem.W.clsIn X.K C = some { name := nm, bases := bs, mro := .ref C :: bm, ns := N', qualname := qn, hasDict := true, slotNames := sn, subclasses := sub, abstract := ab, collection := col, hasDel := false } := by unfold PySem.W.clsIn; rw [hC] <;> rfl
  have KX := I.kIn
  obtain ⟨m, hns, hloc⟩ := id I.loc
  have hv : m ar.arg = some (.ref x) := by
    obtain ⟨u, ru, lk⟩ := hloc 0 ar.arg (.ref x) hN hσ (.inl (by rw [hE]; exact hka))
    obtain rfl : u = Value.ref x := ru
    rcases lk with ⟨_, h⟩ | ⟨h, _⟩
    · exact h
    · exfalso
      have e : X.env.kindOf ar.arg = some .local := by rw [hE]; exact hka
      rw [e] at h
      rcases h with h | h <;> cases h
  obtain ⟨t1, hx⟩ := exo_at I.hok ea
  have hmro : PySem.W.mroIn X.K C (.ref C) = some true := by
    unfold PySem.W.mroIn
    rw [hcl, Option.bind_some, if_neg (show ¬ (List.isEmpty (Value.ref C :: bm) = true) from Bool.false_ne_true), show ((Value.ref C :: bm).contains (.ref C)) = true by rw [List.contains_cons]; simp]
  have hglob := I.mod.glob
  obtain ⟨mb, hblt, hmb⟩ := I.mod.blt
  have bk := I.bk
  have IA : PySem.W.InstAt s.heap x { cls := .ref C, dict := none, data := .fields #[.ref t1, .none, .none, .none, .bool false, .none] } C none := ⟨hx, rfl, rfl, trivial⟩
  have hxC : x ≠ C := PySem.W.ks_ne KX IA hcl
  have hkk : X.env.scope.kind = .function := I.ok.kind
  obtain ⟨hh, g, d, t, os⟩ := s
  rw [hE]
  have hi : interactive (PySem.W.ksEnv qual scope L f (.ref cda) cc) = false := by
    unfold interactive
    rw [show (PySem.W.ksEnv qual scope L f (.ref cda) cc).scope.kind = .function from hk]
    rfl
  refine PySem.ks_wpAt_Expr_any (PySem.ks_wpAt_MethodCall ?_ hc) hi
  refine PySem.ks_wpAt_super_base (env := PySem.W.ksEnv qual scope L f (.ref cda) cc) hks hkc (by decide) rfl (KX _ _ lf) rfl hp rfl (KX _ _ hcode) rfl hvs hfile htop ?_
  refine PySem.W.ks_loadName_global hk hks (PySem.Calls.loadGlobal_builtin (env := PySem.W.ksEnv qual scope L f (.ref cda) cc) (hglob.keeps bk) hsup (hblt.keeps bk) ((hmb _ (by decide +kernel)).trans hboot) ⟨rfl, ?_⟩)
  refine wpAny_loadName_free hk hkc rfl ⟨_, KX _ _ hcell, rfl⟩ ?_
  refine wpAny_loadName_local hk hka (by have e : X.env.locals = L := by rw [hE]
                                         rw [← e]; exact hns) hv ?_
  refine ks_wpAny_isType_cls (KX _ _ hC) rfl ⟨rfl, ?_⟩
  refine ks_wpAny_call_super (KX _ _ hC) rfl hx rfl (fun c e => by cases e) (PySem.W.looks_mroIn KX hmro) (fun h1 e1 k1 => ?_)
  have I1 : Inv X pins σ H ⟨h1, g, d, t, os⟩ := I.kept (t' := t) k1
  have KX1 := I1.kIn
  have IA1 : PySem.W.InstAt h1 x { cls := .ref C, dict := none, data := .fields #[.ref t1, .none, .none, .none, .bool false, .none] } C none := ⟨k1 _ _ hx, rfl, rfl, trivial⟩
  have hs' : PySem.W.alongIn X.K "__init__" (((Value.ref C :: bm).dropWhile (· != .ref C)).drop 1) = some (some (.builtin "ValueError.__init__")) := by
    unfold ks_superIn at hs
    rw [hcl] at hs
    exact hs
  refine PySem.W.kxs_getMethod PySem.W.kxs_ValueError e1 (PySem.W.looks_opaque KX1 ho) (l₀ := .ref C :: bm) (fun A Q E s k q => wpAny_bind ((PySem.W.looks_clsIn KX1 hcl) A _ E s k (wpAny_pure q))) rfl KX1 hs' (IA1.type.andThen (PySem.W.looks_subIn KX1 hB)) hxC (by decide) ?_
  have I2 : Inv X pins σ H ⟨h1.push (kxs_mw "ValueError.__init__" x), g, d, t + 1, os⟩ := I1.kept (t' := t + 1) fun b o e => Heap.get?_push_of_some _ e
  refine PySem.W.kxs_callWith (i := "ValueError.__init__") (x := x) rfl (PySem.Calls.evalArgs_plain ?_)
  refine Calls.spliced_cons (Calls.Constant_str (k := j) (pos := p3) ?_)
  refine Calls.spliced_nil ?_
  have hmw : (h1.push (kxs_mw "ValueError.__init__" x)).get? h1.objs.size = some (kxs_mw "ValueError.__init__" x) := Heap.get?_push_size _ rfl
  refine ⟨hmw, ?_⟩
  refine call_mw F.excBase_ValueError (I2.kIn _ _ hC) (Heap.get?_push_of_some _ (k1 _ _ hx)) hmw (by show 1 ≤ sizeLine; decide) fun h' t2 k hx' => ?_
  have J := I2.write (t' := t + 1 + 1) (x := x) (e := x) (o := exo x C none) (by rw [ea]; exact True.intro) (.inl rfl) k ⟨_, hx'⟩ (exo_ok hx')
  have eu : upd H x (exo x C none) = H := by
    funext b
    by_cases hb : b = x
    · rw [hb, upd_same, ea]
    · rw [upd_ne hb]
  rw [eu] at J
  exact q _ J
end
open NdefX (NF ncx envF startF NScope CellsAt inv_startN)
/-- an own exception's __init__ whose first statement is super().__init__("..") -/
structure SupD (P : Program) (K : PySem.W.Frag) (x qual : Str) (params : Arguments) (body : List Stmt) (scope : Scope) (C f : Addr) (fd : FuncData) (cda cc : Addr) : Prop where
  ex : ∃ (oc : Value) (od : Option Addr) (dV kV doc pm : Value) (an : Option Addr) (ct : Value) (osl : Array (Option Value)) (ccl : Value) (cdd : Option Addr) (vs : Array Value) (ccs : Array (Option Value)) (cl : Value) (cld : Option Addr) (csl : Array (Option Value)) (file : Str) (tf : Tok),
    fd = PySem.W.ksFn x qual params body scope dV kV doc pm an (.ref cda) ct cc ∧ K.lookup f = some ⟨oc, od, .func fd, osl⟩ ∧ PySem.W.codeIn K (.ref cda) qual = true ∧ K.lookup cda = some ⟨ccl, cdd, .fields vs, ccs⟩ ∧ vs[2]? = some (.str file tf) ∧ ((P.main.file : Str) == file) = true ∧
    K.lookup cc = some ⟨cl, cld, .cell (some (.ref C)), csl⟩
/-- the class's facts -/
structure SupC (P : Program) (K : PySem.W.Frag) (mg : Str → Option Value) (C : Addr) : Prop where
  ox : OexC K C
  su : ks_superIn K C C "__init__" = some (some (.builtin "ValueError.__init__"))
  ve : PySem.W.subIn K (.ref C) (.type "ValueError") = some true
  tp : PySem.W.nsIn K cStatics "thirdparty.any" = some none
  sm : mg "super" = none
  top : (P.main.scope.names.lookup ("super" : Str)).isSome = false
theorem look_one {α : Type} (f g : Str) (y : α) : [(f, y)].lookup g = if g = f then some y else none := by
  by_cases h : g = f
  · subst h
    simp [List.lookup]
  · have e : (g == f) = false := by simpa using h
    rw [if_neg h]
    simp [List.lookup, e]
theorem boot_super : bootBuiltins "super" = some (.type "super") := by first | rfl | kernel_rfl
theorem fn_sup {CX : CXT} {P : Program} {w : World} {K : PySem.W.Frag} {mg : Str → Option Value} {base : Heap} {k : Nat} {C f cda cc : Addr} {fd : FuncData} {x qual z : Str} {params : Arguments} {rest : List Stmt} {scope : Scope} {N ps : List Str} {sp : Sp} {ar : Arg} {j : Nat} {p0 p1 p2 p3 p4 p5 : Pos}
    (D : SupD P K x qual params (.Expr (.Call (.Attribute (.Call (.Name "super" p0) [] [] p1) "__init__" p2) [.Constant (.str z) j p3] [] p4) p5 :: rest) scope C f fd cda cc) (T : SupC P K mg C) (S : NScope N ps ["__class__"] scope)
    (hp : (params.posonlyargs ++ params.args).head? = some ar) (hN : N[0]? = some ar.arg) (hks : scope.names.lookup ("super" : Str) = some .globalImplicit) (hka : scope.names.lookup ar.arg = some .local)
    (len : ∀ vs H Q E, sp vs H Q E → vs.length = ps.length)
    (hc : ∀ L : Addr, ∃ pl : Sem Bool, eval (.Call (.Attribute (.Call (.Name "super" p0) [] [] p1) "__init__" p2) [.Constant (.str z) j p3] [] p4) (PySem.W.ksEnv qual scope L f (.ref cda) cc) = (do
      let ov ← attributeBase (.Call (.Name "super" p0) [] [] p1) "__init__" (PySem.W.ksEnv qual scope L f (.ref cda) cc) (eval (.Call (.Name "super" p0) [] [] p1) (PySem.W.ksEnv qual scope L f (.ref cda) cc))
      standAt p2.atName
      let (fv, first) ← holding [ov] (getMethod ov "__init__" pl)
      callWith p4 fv first (backTo p4 (starEach [.Constant (.str z) j p3] (PySem.W.ksEnv qual scope L f (.ref cda) cc))) []))
    (hbody : ∀ (A : Around) (outer : List Env) (s : Shared) (H : Hp) (vs : List V) (Q : VK) (E : XK), sp vs H Q E →
      ∃ a, vs[0]? = some (.ref a) ∧ H a = some (exo a C none) ∧ ∃ t, PSs (ncx CX P w K mg base N ⟨x, qual, params, .Expr (.Call (.Attribute (.Call (.Name "super" p0) [] [] p1) "__init__" p2) [.Constant (.str z) j p3] [] p4) p5 :: rest, scope, [("__class__", cc)], cda⟩ f A outer s H E) rest t ∧
        t { nx := fun _ H' => Q .non H', rt := Q } (startF N vs [none]) H) : FnOk P w K mg base CX (k + 1) f fd ps sp := by
  obtain ⟨oc, od, dV, kV, doc, pm, an, ct, osl, ccl, cdd, vs', ccs, cl, cld, csl, file, tf, rfl, lf, hcd, hcode, hvs, hfile, hcell⟩ := D.ex
  refine ⟨len, fun A outer s H args us vs Q E hr e0 hb r hsp => ?_⟩
  have hl := len _ _ _ _ hsp
  have lim : s.heap.NoLimit := e0.mod.nolimit.keeps fun b o e => (e0.bs b o e).1
  have KX : K.In s.heap := e0.mod.kin.keeps fun b o e => (e0.bs b o e).1
  obtain ⟨FF, hFF⟩ : ∃ FF : NF, FF = ⟨x, qual, params, .Expr (.Call (.Attribute (.Call (.Name "super" p0) [] [] p1) "__init__" p2) [.Constant (.str z) j p3] [] p4) p5 :: rest, scope, [("__class__", cc)], cda⟩ := ⟨_, rfl⟩
  have hcl : FF.cl = [(("__class__" : Str), cc)] := by rw [hFF]
  have CA : CellsAt FF.cl ["__class__"] [none] s.heap H := by
    have key : ∀ y c, FF.cl.lookup y = some c → y = "__class__" ∧ c = cc := fun y c e => by
      rw [hcl, look_one] at e
      by_cases h : y = "__class__"
      · rw [if_pos h] at e
        cases e
        exact ⟨h, rfl⟩
      · rw [if_neg h] at e
        cases e
    refine ⟨rfl, fun y c e => ?_, fun y1 y2 c e1 e2 => (key _ _ e1).1.trans (key _ _ e2).1.symm, fun i y e => ?_⟩
    · obtain ⟨_, rfl⟩ := key _ _ e
      exact ⟨(e0.bs _ _ (e0.mod.kin _ _ hcell)).2, some (.ref C), _, KX _ _ hcell, rfl⟩
    · cases i with
      | zero =>
        have e : some ("__class__" : Str) = some y := e
        cases e
        exact ⟨cc, by rw [hcl, look_one, if_pos rfl], fun v hv => by
          have hv : some (none : Option V) = some (some v) := hv
          cases hv⟩
      | succ i =>
        have e : (none : Option Str) = some y := e
        cases e
  have hscope : FF.scope = scope := by rw [hFF]
  refine codeAny_call_function hr.depth (KX _ _ lf) rfl S.co S.gen rfl (PySem.W.codeRec_of KX hcd) (hb _ _ _ _ ?_)
  refine wpAny_newFunctionEnv S.nocell (fun ⟨n, _⟩ hy => S.par n (List.of_mem_zip hy).1) (fun h₁ hns hsb => ⟨lim.fresh _ hsb, ?_⟩) S.kind
  have kp : ∀ b o, s.heap.get? b = some o → h₁.get? b = some o := fun b o e => hsb.extBut b o (Nat.ne_of_lt (Heap.lt_size e)) (Heap.get?_push_of_some _ e)
  obtain ⟨a, ha, hea, t, ht, hq⟩ := hbody A outer s H vs Q E hsp
  rw [← hFF] at ht
  have I : Inv (ncx CX P w K mg base N FF f A outer s H E) [] (startF N vs [none]) H { s with heap := h₁, toks := s.toks + (ps.zip us).length } := inv_startN (hscope ▸ S) hr.hd e0 hl r CA hns kp
  subst hFF
  show codeAny _ _ (.func (.Expr (.Call (.Attribute (.Call (.Name "super" p0) [] [] p1) "__init__" p2) [.Constant (.str z) j p3] [] p4) p5 :: rest) (PySem.W.ksEnv qual scope s.heap.objs.size f (.ref cda) cc)) _ _
  refine ks_codeAny_funcAt (ks_wpAt_execs_cons ?_)
  obtain ⟨pl, hpl⟩ := hc s.heap.objs.size
  have hσ : (startF N vs [none])[0]? = some (some (.ref a)) := by
    unfold startF
    cases vs with
    | nil => cases ha
    | cons v vs =>
      have ha : some v = some (V.ref a) := ha
      cases ha
      rfl
  refine super_at (X := ncx CX P w K mg base N ⟨x, qual, params, .Expr (.Call (.Attribute (.Call (.Name "super" p0) [] [] p1) "__init__" p2) [.Constant (.str z) j p3] [] p4) p5 :: rest, scope, [("__class__", cc)], cda⟩ f A outer s H E) (pl := pl) I rfl lf hp hN hσ hcode hvs hfile hcell T.ox T.su T.ve T.tp T.sm hks (S.frk _ (List.mem_singleton.mpr rfl)) hka S.kind T.top boot_super hea (fun s2 I2 => ?_) hpl
  refine wpAt_of_wpAny ?_
  refine wpAny_mono (ht.run [] _ (startF N vs [none]) H _ I2 hq) (fun fl s' hs => ?_) fun e s' hs => hs
  have fin : ∀ {σ' : L2.St} {H' : Hp} {v : V} {u : Value}, Inv (ncx CX P w K mg base N ⟨x, qual, params, .Expr (.Call (.Attribute (.Call (.Name "super" p0) [] [] p1) "__init__" p2) [.Constant (.str z) j p3] [] p4) p5 :: rest, scope, [("__class__", cc)], cda⟩ f A outer s H E) [] σ' H' s' → L2.RelV v u → Q v H' → CE outer P w H s Q u s' :=
    fun {σ' H' v u} J rv q => ⟨v, H', J.os, J.bare, J.base, J.hok, rv, q⟩
  cases fl with
  | ret u =>
    obtain ⟨v, σ', H', J, rv, q⟩ := hs
    exact fin J rv q
  | next =>
    obtain ⟨σ', H', J, q⟩ := hs
    exact fin (v := V.non) (u := Value.none) J rfl q
  | brk =>
    obtain ⟨_, _, _, q⟩ := hs
    exact False.elim q
  | cont =>
    obtain ⟨_, _, _, q⟩ := hs
    exact False.elim q

/-- the class in a raise -/
structure ExK (P : Program) (w : World) (K : PySem.W.Frag) (mg : Str → Option Value) (base : Heap) (n : Str) (C f : Addr) (fd : FuncData) (ps : List Str) (sp : Sp) : Prop where
  iC : PySem.W.findIn K (.ref C) "__init__" = some (some (.ref f))
  tI : PySem.W.typeIn K (.ref f) = some (.type "function")
  ok : FnOk P w K mg base CX0 1 f fd ps sp
  bi : Binds K fd ps []
  gl : mg n = some (.ref C)
def spEx (C : Addr) (fld : Str) : Sp := fun vs H Q _ => ∃ a v, vs = [.ref a, v] ∧ H a = some (exo a C none) ∧ ∀ dx, H dx = none → dx ≠ a → Q .non (upd (upd H dx (exd dx [(fld, v)])) a (exo a C (some dx)))
def ExAs (C : Addr) (fld : Str) (W : XK) (vs : List V) (H1 : Hp) : Prop := vs.length ≤ 1000 ∧ ∀ a, H1 a = none → spEx C fld (.ref a :: (vs ++ [])) (upd H1 a (exo a C none))
  (fun v H2 => v = .non ∧ ∃ (d : Addr) (fs : List (Str × V)), H2 a = some (exo a C (some d)) ∧ H2 d = some (exd d fs) ∧ H1 d = none ∧ W (.ref C) (some d) (upd (del H2 a) d (.xd fs))) (fun _ _ _ => False)
theorem g_mko {C : Addr} {fld : Str} {ta : TA} {σ : L2.St} {H : Hp} {W : XK} (q : ta σ H fun vs H1 => ExAs C fld W vs H1) : tMkO C (spEx C fld) [] ta σ H W := q
theorem ex_as {C : Addr} {fld : Str} {H1 : Hp} {W : XK} {v : V} (h : ∀ d H', (∀ b o, H1 b = some o → H' b = some o) → H' d = some (.xd [(fld, v)]) → W (.ref C) (some d) H') : ExAs C fld W [v] H1 := by
  refine ⟨by show 1 ≤ 1000; decide, fun a ha => ⟨a, v, rfl, upd_same, fun dx hdx hne => ⟨rfl, dx, [(fld, v)], upd_same, ?_, ?_, ?_⟩⟩⟩
  · rw [upd_ne hne, upd_same]
  · rw [upd_ne hne] at hdx
    exact hdx
  · rw [upd_ne hne] at hdx
    refine h dx _ (fun b o hb => ?_) upd_same
    have b1 : b ≠ a := fun z => by rw [z, ha] at hb; cases hb
    have b2 : b ≠ dx := fun z => by rw [z, hdx] at hb; cases hb
    rw [upd_ne b2, del_ne b1, upd_ne b1, upd_ne b2, upd_ne b1]
    exact hb
/-- two promises of one def -/
theorem fn_or {P : Program} {w : World} {K : PySem.W.Frag} {mg : Str → Option Value} {base : Heap} {CX : CXT} {k : Nat} {f : Addr} {fd : FuncData} {ps : List Str} {sp1 sp2 : Sp} (F1 : FnOk P w K mg base CX0 k f fd ps sp1) (F2 : FnOk P w K mg base CX k f fd ps sp2) :
    FnOk P w K mg base CX k f fd ps (fun vs H Q E => sp1 vs H Q E ∨ sp2 vs H Q E) := by
  refine ⟨fun vs H Q E h => h.elim (F1.len _ _ _ _) (F2.len _ _ _ _), fun A outer s H args us vs Q E hr e0 hb r h => ?_⟩
  rcases h with h | h
  · refine codeAny_mono (F1.run A outer s H args us vs Q E hr e0 hb r h) fun r s' q => ?_
    cases r with
    | error e => exact False.elim q
    | ok fl => cases fl <;> exact q
  · exact F2.run A outer s H args us vs Q E hr e0 hb r h
/-! ### C(e, .., k = v, ..) in a try -/
section
variable {X : Cx} {CX : CXT} {k n : Nat} {f C : Addr} {fd : FuncData} {ps ks : List Str} {sp : Sp} {E : L2.St → XK} {x : Str} {p pos : Pos} {e : Expr} {es : List Expr} {kws : List Keyword} {t tk : TA} {g : List Value → List Value → List Value} {gV : List V → List V → List V}
def tMakeKS (C : Addr) (n m : Nat) (sp : Sp) (gV : List V → List V → List V) (E : L2.St → XK) (t tk : TA) : TE := fun σ H Q => tMakeK C n m sp gV (E σ) t tk σ H Q
theorem run_makeKS {pl : List (Addr × Obj)} {τ : L2.St} {G : Hp} {z : Shared} {R : VK} {EE : XK} {ua uk : List Value} {va vk : List V} (M : Mk X.K C f) (F : FnOk X.prog X.w X.K X.mg X.base CX k f fd ps sp) (room : Room (k + 1) X.A) (kb : KBn X.K fd ps (n + 1) ks g gV) (pass : PassesAt CX X τ EE)
    (I : Inv X pl τ G z) (ra : Vals va ua) (rk : Vals vk uk) (la : va.length = n) (lk : vk.length = ks.length)
    (want : ∀ a da, G a = none → G da = none → da ≠ a → sp (gV (.ref a :: va) vk) (upd (upd G da (.own a)) a (.ins C da [])) (fun v G2 => v = .non ∧ R (.ref a) G2) EE) : wpAny (model X.prog X.w) X.A (call (.ref C) ua (ks.zip uk)) (EP X pl τ R) X.xe z := by
  obtain ⟨top, htop⟩ : ∃ top, top = z.heap.objs.size := ⟨_, rfl⟩
  have q := want (z.heap.objs.size + 1) _ (I.hok.fresh (Nat.le_succ _)) (I.hok.fresh (Nat.le_refl _)) (Nat.ne_of_lt (Nat.lt_succ_self _))
  have J := Inv.made (C := C) I
  have rs : Vals (V.ref (z.heap.objs.size + 1) :: va) (Value.ref (z.heap.objs.size + 1) :: ua) := .cons rfl ra
  have len1 : (Value.ref (z.heap.objs.size + 1) :: ua).length = n + 1 := by simp [← ra.length, la]
  have runs := F.run _ X.stack _ _ ⟨Value.ref (z.heap.objs.size + 1) :: ua, ks.zip uk⟩ _ _ _ EE (room.make C ua (ks.zip uk)) (J.env0.make C ua (ks.zip uk)) (kb.to _ _ uk J.kIn len1 (rk.length ▸ lk)) (kb.rel rs rk) q
  refine wpAny_call (make_map (f := f) I.kIn M.makes M.init (beq_iff_eq.mp M.fn) (codeAny_mono runs fun res z2 hz => ?_))
  match res, hz with
  | .error e, hz => exact pass pl _ _ e z2 J hz
  | .ok (.ret u), hz =>
    obtain ⟨v, G2, J2, rv, ev, qq⟩ := J.after hz
    rw [ev] at rv
    exact ⟨rv, V.ref (z.heap.objs.size + 1), G2, J2, rfl, qq⟩
theorem pe_makeKS (M : Mk X.K C f) (F : FnOk X.prog X.w X.K X.mg X.base CX k f fd ps sp) (room : Room (k + 1) X.A) (hg : Gl X x) (hm : X.mg x = some (.ref C)) (kb : KBn X.K fd ps (n + 1) ks g gV) (pass : ∀ σ, PassesAt CX X σ (E σ)) (pa : PA X (e :: es) t) (pk : PK X kws tk)
    (h1 : (backToKw pos (keywordEach kws X.env)).all (·.1.isSome) = true := by rfl) (h2 : (backToKw pos (keywordEach kws X.env)).filterMap (·.1) = ks := by rfl) (h3 : (x == ("__debug__" : Str)) = false := by decide)
    (h4 : starEach (e :: es) X.env = (false, eval e X.env) :: starEach es X.env := by rfl) (h5 : ((backTo pos (starEach (e :: es) X.env)).any (·.1) || (backToKw pos (keywordEach kws X.env)).any (·.1.isNone)) = false := by rfl) :
    PE X (.Call (.Name x p) (e :: es) kws pos) (tMakeKS C n ks.length sp gV E t tk) :=
  ⟨fun pl z τ G R I q => wpAny_Call_Name_kw (ld_glob I hg hm (PySem.W.callWith_KW (h₀ := X.base) I.ok.mod.kin M.kp h1 (thn (pa.run pos pl z τ G _ I q) fun ua z1 ⟨va, G1, I1, ra, q1⟩ =>
    thn (pk.run pos pl z1 τ G1 _ I1 q1) fun uk z2 ⟨vk, G2, I2, rk, la, lk, q2⟩ => ⟨I2.kIn, by rw [h2]; exact run_makeKS M F room kb (pass τ) I2 ra rk la lk q2⟩) h5 h4) h3)⟩
end
end Mx

namespace Mx
open PySem PySem.Spec PyProof.Rows L2
/-! several clauses 'except x as n' -/
def endAs (i : Nat) (D : Ends) : Ends := { nx := fun σ' H' => D.nx (σ'.set i none) H', rt := D.rt, bk := fun σ' H' => D.bk (σ'.set i none) H', ct := fun σ' H' => D.ct (σ'.set i none) H' }
abbrev Clause := Value × Nat × (Addr → Value → Option Addr → TS)
def wMas (K : PySem.W.Frag) (Wout : WX) (D : Ends) : List Clause → WX
  | [] => Wout
  | (c, i, ts) :: l => fun cls d σ H => ∃ b, PySem.W.exmOne K cls c = some b ∧ (b = true → ∀ a, H a = none → ts a cls d (endAs i D) (σ.set i (some (.ref a))) H) ∧ (b = false → wMas K Wout D l cls d σ H)
inductive HdsAs (X : Cx) : List ExceptHandler → List Clause → Prop
  | nil : HdsAs X [] []
  | cons {x n : Str} {c : Value} {i : Nat} {ts : Addr → Value → Option Addr → TS} {b₀ : Stmt} {suite : List Stmt} {np pos' : Pos} {hds : List ExceptHandler} {l : List Clause} (hi : X.N[i]? = some n) (hl : X.env.kindOf n = some .local) (hc : Names X x c)
      (hsu : ∀ (a : Addr) (oe : Obj) (cls : Value) (d : Option Addr) (pn : List (Addr × Obj)), Zc cls d oe → (∃ vs, oe.data = .fields vs) → PSs (X.suite a ((a, oe) :: pn)) (b₀ :: suite) (ts a cls d)) (r : HdsAs X hds l) :
      HdsAs X (.ExceptHandler (some (.Name x np)) (some n) (b₀ :: suite) pos' :: hds) ((c, i, ts) :: l)
section
variable {X : Cx} {body : List Stmt} {g₀ : ExceptHandler} {gs : List ExceptHandler} {l : List Clause} {pos : Pos} {tb : WX → TS} {Wout : WX}
theorem ps_try_mas (hs : X.stack = X.env :: X.outer) (hf : X.env.frame = some X.env.locals) (nd : X.N.Nodup) (tk : Takes X Wout)
    (hb : ∀ (W : WX) (pn : List (Addr × Obj)) (xe : Value → Shared → Prop), Takes (X.tr pn xe) W → PassesOwn (model X.prog X.w) X.A X.env xe → PSs (X.tr pn xe) body (tb W))
    (hh : HdsAs X (g₀ :: gs) l) : PS X (.Try body (g₀ :: gs) [] [] pos) (fun D σ H => tb (wMas X.K Wout D l) D σ H) := by
  refine ⟨fun pins s σ H D I h => wpAny_Try_except ?_⟩
  have okX := I.ok
  have frX : X.A.frames = some (X.env :: X.outer) := okX.frames.trans (congrArg some hs)
  let xeT : Value → Shared → Prop := fun e s₁ => wpAny (model X.prog X.w) X.A (noteFrame e X.env) (fun _ s₂ => wpAny (model X.prog X.w) X.A (setFlight e none) (fun _ s₃ => wpAny (model X.prog X.w) X.A (handleBy e X.env (g₀ :: gs)) (SP X pins D) X.xe s₃) X.xe s₂) X.xe s₁
  refine wpAny_mono ((hb (wMas X.K Wout D l) (X.pn ++ pins) xeT (fun u s' z => ?_) PassesOwn.looking).run [] s σ H D (I.toTry _) h) (fun fl s1 z => ?_) fun _ _ z => z
  · obtain ⟨a, B, sI, pn1, σ1, H1, cls, d, rfl, JT, nb, up, sky, na, os, ag, w⟩ := z
    have J0 : Inv X pins σ1 H1 sI := JT.ofTry okX
    show wpAny _ X.A (noteFrame (.ref a) X.env) _ _ _
    refine Sky.land Zc.steady frX hf (by rw [← hs]; exact sky) fun hA flA upA => ?_
    have JA : Inv X pins σ1 H1 { s' with heap := hA } := J0.landed nb flA.1 (up.trans upA) os ag
    obtain ⟨oA, vA, eA, zA, dA⟩ := flA.there
    have nfr : a ∉ frs (X.env :: X.outer) := fun hm => by
      obtain ⟨_, o', e', hnf⟩ := flA.2.2.1.mem hm
      rw [eA] at e'
      cases e'
      exact hnf _ dA
    have nL : a ≠ X.env.locals := fun z => nfr (List.mem_filterMap.mpr ⟨X.env, List.mem_cons_self, hf.trans (congrArg some z.symm)⟩)
    have nF : a ∉ X.fs := fun hm => (List.mem_filterMap.mp hm).elim fun e he => nfr (List.mem_filterMap.mpr ⟨e, List.mem_cons_of_mem _ he.1, he.2⟩)
    have SA := JA.suite eA dA na nL nF
    have go : ∀ {hds : List ExceptHandler} {lc : List Clause}, HdsAs X hds lc → wMas X.K Wout D lc cls d σ1 H1 → wpAny (model X.prog X.w) X.A (handleBy (.ref a) X.env hds) (SP X pins D) X.xe { s' with heap := hA } := by
      intro hds lc hk
      induction hk with
      | nil =>
        intro w
        refine wpAny_handleBy_nil ?_
        obtain ⟨k1, k2, k3, oe, vs, T, oT, ts', he, hz, hd, h1, hr⟩ := flA
        have fin : wpAny (model X.prog X.w) X.A (setFlight (.ref a) X.env.frame) (fun _ s4 => wpAny (model X.prog X.w) X.A (throw (.ref a) : Sem Flow) (SP X pins D) X.xe s4) X.xe { s' with heap := hA } := by
          rw [hf]
          refine HandSPX.setFlight_upZ ⟨k1, k2, k3, oe, vs, T, oT, ts', he, hz, hd, h1, hr⟩ fun h4 hh4 up4 => wpAny_throw (tk _ _ ⟨a, B, sI, pins, σ1, H1, cls, d, rfl, J0, nb, (up.trans upA).trans up4, .inr (.inr (by rw [hs]; exact hh4)), na, os, ag, w⟩)
        unfold PySem.passOn
        refine wpAny_bind (wpAny_field he hd h1 ?_)
        rw [if_neg (by simp : ¬ ((Value.ref T == Value.none) = true))]
        first
          | exact wpAny_bind (wpAny_pure (wpAny_bind fin))
          | exact wpAny_bind fin
      | @cons x n c i ts b₀ suite np pos' hds2 l2 hi hl hc hsu r ih =>
        rintro ⟨b, hb1, hyes, hno⟩
        refine wpAny_handleBy_cons (codeAny_handlers_test ?_) (fun q => by cases q)
        have LM := PySem.W.exm_one (M := model X.prog X.w) (K := X.K) JA.kIn (fun A Q E s k q => wpAny_typeOf_ref (k _ _ eA) (by rw [zA.1]; exact q)) hb1
        have test : ∀ {Q E : Value → Shared → Prop}, Q c { s' with heap := hA } → wpAny (model X.prog X.w) (X.A.mark (some (.ref a))) (eval (.Name x np) X.env) Q E { s' with heap := hA } := by
          intro Q E q
          rcases hc with ⟨hg, hdbg, hm | ⟨hm, hv, hnn⟩⟩
          · exact ld_glob (X := X.suite a ((a, oA) :: (X.pn ++ pins))) SA hg hm q hdbg
          · exact ld_blt (X := X.suite a ((a, oA) :: (X.pn ++ pins))) SA hg hm hv q hnn hdbg
        refine test (LM.here ?_)
        cases b with
        | false => exact ih (hno rfl)
        | true =>
          refine codeAny_handlers_suite_as (HandSPX.lands_againZ flA fun hB flB upB => ?_)
          have JB : Inv X pins σ1 H1 { s' with heap := hB } := J0.landed nb flB.1 ((up.trans upA).trans upB) os ag
          obtain ⟨oB, vB, eB, zB, dB⟩ := flB.there
          refine store_ok (X := X.suite a ((a, oB) :: (X.pn ++ pins))) (v := .ref a) (JB.suite eB dB na nL nF) nd hi (.inl hl) rfl (fun s5 S5 => ?_) (.inr hl)
          refine wpAny_mono ((hsu a oB cls d (X.pn ++ pins) zB ⟨_, dB⟩).run [] s5 _ H1 _ S5 (hyes rfl a na)) (fun fl s6 z => ?_) fun _ _ z => z.elim
          have close : ∀ {σ6 : L2.St} {H6 : Hp} {Q : Shared → Prop}, Inv (X.suite a ((a, oB) :: (X.pn ++ pins))) [] σ6 H6 s6 → (∀ s7, Inv X pins (σ6.set i none) H6 s7 → Q s7) → wpAny (model X.prog X.w) X.A (do bindName X.env n .none; unbindBehindTheSuite X.env n pos') (fun _ s7 => Q s7) X.xe s6 :=
            fun S6 hq => gone_ok (S6.unsuite okX) nd hi hl hq
          cases fl with
          | ret u => exact z.elim fun v6 z => z.elim fun σ6 z => z.elim fun H6 z => close z.1 fun s7 J7 => ⟨_, _, _, J7, z.2.1, z.2.2⟩
          | next => exact z.elim fun σ6 z => z.elim fun H6 z => close z.1 fun s7 J7 => ⟨_, _, J7, z.2⟩
          | brk => exact z.elim fun σ6 z => z.elim fun H6 z => close z.1 fun s7 J7 => ⟨_, _, J7, z.2⟩
          | cont => exact z.elim fun σ6 z => z.elim fun H6 z => close z.1 fun s7 J7 => ⟨_, _, J7, z.2⟩
    exact go hh w
  · cases fl with
    | next => exact z.elim fun σ2 z => z.elim fun H2 z => wpAny_execs_nil ⟨σ2, H2, z.1.ofTry okX, z.2⟩
    | brk => exact z.elim fun σ2 z => z.elim fun H2 z => ⟨σ2, H2, z.1.ofTry okX, z.2⟩
    | cont => exact z.elim fun σ2 z => z.elim fun H2 z => ⟨σ2, H2, z.1.ofTry okX, z.2⟩
    | ret u => exact z.elim fun v z => z.elim fun σ2 z => z.elim fun H2 z => ⟨v, σ2, H2, z.1.ofTry okX, z.2.1, z.2.2⟩
end
end Mx

namespace Mx
open PySem PySem.Spec PyProof.Rows L2 Mc
/-! repr of any data, and calls of defs that show something -/
inductive ShowsV (K : PySem.W.Frag) (H : Hp) : V → Str → Prop
  | non : ShowsV K H .non "None"
  | bl (b : Bool) : ShowsV K H (.bl b) (if b then "True" else "False")
  | int {i : Int} (h : i.natAbs.log2 < 1920) : ShowsV K H (.int i) (toString i)
  | str {x : Str} (h : (reprText x).length ≤ sizeLine) : ShowsV K H (.str x) (reprText x)
  | ref {a : Addr} {d : PyData} (hd : Dp K H (.ref a) d) (hs : d.showable = true) (hx : d.hasDict = false) (hp : d.depth ≤ 40) (hz : d.shown.length ≤ sizeLine) : ShowsV K H (.ref a) d.shown
theorem dp_ext {K : PySem.W.Frag} {H H' : Hp} (e : ∀ b o, H b = some o → H' b = some o) {v : V} {d : PyData} (h : Dp K H v d) : Dp K H' v d := Dp.rec (motive_1 := fun v d _ => Dp K H' v d) (motive_2 := fun vs ds _ => DpAll K H' vs ds) .non .bl .int .str
  (fun s _ ih => .lst (s.imp (fun q => q.imp (e _ _) (fun ⟨o, q⟩ => ⟨o, e _ _ q⟩)) id) ih) (fun s _ ih => .tup (s.imp (fun q => q.imp (e _ _) (fun ⟨o, q⟩ => ⟨o, e _ _ q⟩)) id) ih) .nil (fun _ _ h1 h2 => .cons h1 h2) h
theorem ShowsV.ext {K : PySem.W.Frag} {H H' : Hp} (e : ∀ b o, H b = some o → H' b = some o) {v : V} {z : Str} (h : ShowsV K H v z) : ShowsV K H' v z := by
  cases h with
  | non => exact .non
  | bl b => exact .bl b
  | int h => exact .int h
  | str h => exact .str h
  | ref hd hs hx hp hz => exact .ref (dp_ext e hd) hs hx hp hz
def rReprA (K : PySem.W.Frag) : List V → Hp → VK → Prop := fun xs H Q => ∃ (v : V) (z : Str), xs = [v] ∧ ShowsV K H v z ∧ Q (.str z) H
theorem call_reprA {X : Cx} {K : PySem.W.Frag} (hg : X.A.guards = some []) (hu : X.A.units + 64 < cLine) (hK : X.K = K) : CallR X (.builtin "repr") (rReprA K) := by
  subst hK
  intro pins s σ H xs us Q I r h
  obtain ⟨v, z, rfl, hs, q⟩ := h
  cases r with
  | cons ru rn =>
    cases rn
    cases hs with
    | non =>
      cases ru
      exact PySem.P.repr_of_none ⟨.str _, H, I.tok _, ⟨_, rfl⟩, q⟩
    | bl b =>
      cases ru
      exact PySem.P.repr_of_bool ⟨.str _, H, I.tok _, ⟨_, rfl⟩, q⟩
    | int h =>
      obtain ⟨t, rfl⟩ := ru
      exact PySem.P.repr_of_int h ⟨.str _, H, I.tok _, ⟨_, rfl⟩, q⟩
    | str h =>
      obtain ⟨t, rfl⟩ := ru
      exact PySem.P.repr_of_str ⟨.str _, H, I.tok _, ⟨_, rfl⟩, q⟩ h
    | ref hd hs hx hp hz =>
      cases ru
      obtain ⟨as, R⟩ := Dp.reads I _ _ _ hd rfl
      exact repr_of_reads' R hs (fun e => by rw [hx] at e; cases e) hg (by omega) (fun b o e => e) (fun h' u tk hk => ⟨.str _, H, I.kept hk, ⟨u, rfl⟩, q⟩) hz
theorem ix_listK {X : Cx} {K : PySem.W.Frag} (hK : X.K = K) : IxR X (rIxL K) := hK ▸ ix_list
structure CalG (P : Program) (w : World) (K : PySem.W.Frag) (mg : Str → Option Value) (base : Heap) (k : Nat) (x : Str) (sp : Sp) : Prop where
  ex : ∃ (f : Addr) (fd : FuncData) (ps : List Str), FnG P w K mg base CX0 k f fd ps sp ∧ mg x = some (.ref f) ∧ PySem.W.keepIn K (.ref f) = true ∧ Binds K fd ps []
theorem calG_of {P : Program} {w : World} {K : PySem.W.Frag} {mg : Str → Option Value} {base : Heap} {x : Str} {st : Stmt} {N ps : List Str} {k : Nat} {sp : Sp} (D : Def K mg x st ps) (S : FnScope N ps (defScope st)) (len : ∀ vs H Q E, sp vs H Q E → vs.length = ps.length)
    (hbody : ∀ (f : Addr) (cdv : Value) (A : Around) (outer : List Env) (s : Shared) (H : Hp) (vs : List V) (Q : VK) (E : XK), A.guards = some [] → Room k (A.deeper (envOfC x (defScope st) s.heap.objs.size f cdv)) → sp vs H Q E →
      ∃ t, PSs (cxOf CX0 P w K mg base N x (defScope st) f cdv A outer s H E).nox (defBody st) t ∧ t { nx := fun _ H' => Q .non H', rt := Q } (start N vs) H) : CalG P w K mg base (k + 1) x sp := by
  obtain ⟨f, fd, F, hm, b⟩ := D.ex
  exact ⟨f, fd, ps, fnG_of F S len (hbody f), hm, F.kp, b⟩
section
variable {X : Cx} {k j : Nat} {x : Str} {sp : Sp} {p pos : Pos} {e : Expr} {es : List Expr} {t : TA}
theorem pe_fG (c : CalG X.prog X.w X.K X.mg X.base k x sp) (hgd : X.A.guards = some []) (hr : Room j X.A) (hk : k ≤ j) (hg : Gl X x) (ha : PA X (e :: es) t)
    (hdb : (x == ("__debug__" : Str)) = false := by decide) (he : starEach (e :: es) X.env = (false, eval e X.env) :: starEach es X.env := by rfl) (hpl : (backTo pos (starEach es X.env)).any (·.1) = false := by rfl) :
    PE X (.Call (.Name x p) (e :: es) [] pos) (tCall sp [] E0 t) := by
  obtain ⟨f, fd, ps, G, hm, kp, b⟩ := c.ex
  refine ⟨fun pins s σ H Q I h => wpAny_Call_Name_kw (ld_glob I hg hm (PySem.W.callWith_K (h₀ := X.base) I.ok.mod.kin kp (thn (ha.run pos pins s σ H _ I h) fun us s1 ⟨vs, H1, I1, r, q⟩ => ⟨I1.kIn, ?_⟩) he hpl) hdb)⟩
  have q : sp vs H1 Q E0 := by
    have q : sp (vs ++ []) H1 Q E0 := q
    rw [List.append_nil] at q
    exact q
  have hl : us.length = ps.length := by
    rw [← r.length]
    exact G.len _ _ _ _ q
  have bb := b s1 us I1.kIn (by rw [List.append_nil]; exact hl)
  rw [List.append_nil] at bb
  refine wpAny_call (codeAny_mono (G.run X.A X.stack s1 H1 ⟨us, []⟩ us vs Q E0 hgd (hr.mono hk) I1.env0 bb r q) fun r s' z => ?_)
  cases r with
  | error e => exact False.elim z
  | ok fl =>
    cases fl with
    | ret u => exact I1.after z
    | next => exact z.elim
    | brk => exact z.elim
    | cont => exact z.elim
theorem pe_f0 (c : Cal X.prog X.w X.K X.mg X.base k x sp) (hr : Room j X.A) (hk : k ≤ j) (hg : Gl X x) (hdb : (x == ("__debug__" : Str)) = false := by decide) : PE X (.Call (.Name x p) [] [] pos) (tCall sp [] E0 tNil) := by
  obtain ⟨f, fd, ps, G, hm, kp, b⟩ := c.ex
  exact pe_call0 G (hr.mono hk) hg hm kp b .nil pass0 hdb
end
end Mx

namespace K2
open PySem PySem.Spec PyProof.Rows L2 Mc
def top (i : Nat) : Stmt := PySem.Challenge.pw_mostcalls_k03_policies_refused.main.body.getD i (.Pass ⟨0, 0, 0, 0⟩)
abbrev s_is_integer : Stmt := top 2
abbrev N_is_integer : List Str := ["value"]
theorem sc_is_integer : FnScope N_is_integer ["value"] (defScope s_is_integer) := ⟨rfl, rfl, rfl, by decide +kernel, rfl, by decide +kernel, by decide +kernel⟩
abbrev s_is_between : Stmt := top 3
abbrev N_is_between : List Str := ["value", "least", "most"]
theorem sc_is_between : FnScope N_is_between ["value", "least", "most"] (defScope s_is_between) := ⟨rfl, rfl, rfl, by decide +kernel, rfl, by decide +kernel, by decide +kernel⟩
abbrev s_is_name : Stmt := top 4
abbrev N_is_name : List Str := ["value", "sign"]
theorem sc_is_name : FnScope N_is_name ["value"] (defScope s_is_name) := ⟨rfl, rfl, rfl, by decide +kernel, rfl, by decide +kernel, by decide +kernel⟩
abbrev s_Policyinit : Stmt := inClass (top 12) 0
abbrev N_Policyinit : List Str := ["self", "name", "limit", "tries", "pauses", "early", "lossy", "ending", "field"]
theorem sc_Policyinit : FnScope N_Policyinit ["self", "name", "limit", "tries", "pauses", "early", "lossy", "ending"] (defScope s_Policyinit) := ⟨rfl, rfl, rfl, by decide +kernel, rfl, by decide +kernel, by decide +kernel⟩
abbrev s_accepts : Stmt := top 13
abbrev N_accepts : List Str := ["field", "value"]
theorem sc_accepts : FnScope N_accepts ["field", "value"] (defScope s_accepts) := ⟨rfl, rfl, rfl, by decide +kernel, rfl, by decide +kernel, by decide +kernel⟩
abbrev s_wrong_field : Stmt := top 14
abbrev N_wrong_field : List Str := ["limit", "tries", "pauses", "early", "lossy", "ending"]
theorem sc_wrong_field : FnScope N_wrong_field ["limit", "tries", "pauses", "early", "lossy", "ending"] (defScope s_wrong_field) := ⟨rfl, rfl, rfl, by decide +kernel, rfl, by decide +kernel, by decide +kernel⟩
abbrev s_are_pauses : Stmt := top 15
abbrev N_are_pauses : List Str := ["value", "tries", "ticks"]
theorem sc_are_pauses : FnScope N_are_pauses ["value", "tries"] (defScope s_are_pauses) := ⟨rfl, rfl, rfl, by decide +kernel, rfl, by decide +kernel, by decide +kernel⟩
abbrev s_is_ending : Stmt := top 16
abbrev N_is_ending : List Str := ["value"]
theorem sc_is_ending : FnScope N_is_ending ["value"] (defScope s_is_ending) := ⟨rfl, rfl, rfl, by decide +kernel, rfl, by decide +kernel, by decide +kernel⟩
abbrev s_all_pauses : Stmt := top 17
abbrev N_all_pauses : List Str := ["tries", "pauses", "early"]
theorem sc_all_pauses : FnScope N_all_pauses ["tries", "pauses", "early"] (defScope s_all_pauses) := ⟨rfl, rfl, rfl, by decide +kernel, rfl, by decide +kernel, by decide +kernel⟩
abbrev s_InvalidNameinit : Stmt := inClass (top 6) 0
abbrev N_InvalidNameinit : List Str := ["self", "value", "__class__"]
theorem sc_InvalidNameinit : NdefX.NScope N_InvalidNameinit ["self", "value"] ["__class__"] (defScope s_InvalidNameinit) := NdefX.nscope_by (by decide +kernel)
abbrev s_InvalidPolicyinit : Stmt := inClass (top 7) 0
abbrev N_InvalidPolicyinit : List Str := ["self", "field", "__class__"]
theorem sc_InvalidPolicyinit : NdefX.NScope N_InvalidPolicyinit ["self", "field"] ["__class__"] (defScope s_InvalidPolicyinit) := NdefX.nscope_by (by decide +kernel)
abbrev s_law_pool : Stmt := top 19
abbrev N_law_pool : List Str := ["_law_script", "_law_k", "_law_cell", "_law_seed"]
theorem sc_law_pool : FnScope N_law_pool ["_law_script", "_law_k"] (defScope s_law_pool) := ⟨rfl, rfl, rfl, by decide +kernel, rfl, by decide +kernel, by decide +kernel⟩
abbrev s_law_draw : Stmt := top 20
abbrev N_law_draw : List Str := ["_law_pool_here", "_law_many", "_law_digit"]
theorem sc_law_draw : FnScope N_law_draw ["_law_pool_here", "_law_many"] (defScope s_law_draw) := ⟨rfl, rfl, rfl, by decide +kernel, rfl, by decide +kernel, by decide +kernel⟩
abbrev s_law_choose : Stmt := top 21
abbrev N_law_choose : List Str := ["_law_pool_here", "_law_items"]
theorem sc_law_choose : FnScope N_law_choose ["_law_pool_here", "_law_items"] (defScope s_law_choose) := ⟨rfl, rfl, rfl, by decide +kernel, rfl, by decide +kernel, by decide +kernel⟩
abbrev s_law_told : Stmt := top 22
abbrev N_law_told : List Str := ["_law_name", "_law_row", "e"]
theorem sc_law_told : FnScope N_law_told ["_law_name", "_law_row"] (defScope s_law_told) := ⟨rfl, rfl, rfl, by decide +kernel, rfl, by decide +kernel, by decide +kernel⟩
abbrev s_law_wrong : Stmt := top 23
abbrev N_law_wrong : List Str := ["_law_rows", "_law_ends"]
theorem sc_law_wrong : FnScope N_law_wrong [] (defScope s_law_wrong) := ⟨rfl, rfl, rfl, by decide +kernel, rfl, by decide +kernel, by decide +kernel⟩
abbrev s_law : Stmt := top 24
abbrev N_law : List Str := ["_law_script", "_law_words", "_law_good", "_law_at", "_law_row", "_law_value", "_law_bent", "_law_k", "_law_pool_here", "_law_first"]
theorem sc_law : FnScope N_law ["_law_script"] (defScope s_law) := ⟨rfl, rfl, rfl, by decide +kernel, rfl, by decide +kernel, by decide +kernel⟩

def letters : Str := "abcdefghijklmnopqrstuvwxyz"
/-- what the top has left -/
structure Txt (K : PySem.W.Frag) (mg : Str → Option Value) : Prop where
  n_isinstance : mg "isinstance" = none
  n_int : mg "int" = none
  n_bool : mg "bool" = none
  n_str : mg "str" = none
  n_tuple : mg "tuple" = none
  n_len : mg "len" = none
  n_all : mg "all" = none
  n_range : mg "range" = none
  n_repr : mg "repr" = none
  n_max : mg "max" = none
  n_min : mg "min" = none
  g_LETTERS : ∃ u, mg "LETTERS" = some u ∧ RelV (.str letters) u
  g_MOST_LIMIT : ∃ u, mg "MOST_LIMIT" = some u ∧ RelV (.int 20) u
  g_MOST_TRIES : ∃ u, mg "MOST_TRIES" = some u ∧ RelV (.int 3) u
section
variable {P : Program} {w : World} {K : PySem.W.Frag} {mg : Str → Option Value} {base : Heap}
local macro_rules | `(tactic| walk_at "rd1") => `(tactic| first
  | with_reducible refine g_seq ?_
  | with_reducible refine g_asg ?_
  | with_reducible refine g_name ?_
  | with_reducible refine g_c ?_
  | with_reducible refine g_op ?_
  | with_reducible refine g_ifS ?_
  | with_reducible refine g_if ?_
  | with_reducible refine g_test ?_
  | with_reducible refine g_B ?_
  | with_reducible refine g_bl ?_
  | with_reducible refine g_blV ?_
  | with_reducible refine g_not ?_
  | with_reducible refine g_and ?_
  | with_reducible refine g_or ?_
  | with_reducible refine g_notV ?_
  | with_reducible refine g_andV ?_
  | with_reducible refine g_orV ?_
  | with_reducible refine g_ret ?_
  | with_reducible refine g_drop ?_
  | with_reducible refine g_next ?_
  | with_reducible refine g_retN ?_
  | with_reducible refine g_call ?_
  | with_reducible refine g_cb ?_
  | with_reducible refine g_cons ?_
  | with_reducible refine g_nil ?_
  | with_reducible refine g_tup ?_
  | with_reducible refine g_lst ?_
  | with_reducible refine g_prop ?_
  | with_reducible refine g_fld ?_
  | with_reducible refine g_meth ?_
  | with_reducible refine g_chain ?_
  | with_reducible refine g_yes ?_
  | with_reducible refine g_make ?_
  | with_reducible refine g_makeK ?_
  | with_reducible refine g_gsub ?_
  | with_reducible refine g_sfld ?_
  | with_reducible refine g_un ?_
  | with_reducible refine g_bm ?_
  | with_reducible refine g_iteT ?_
  | with_reducible refine g_iteF ?_
  | with_reducible refine g_I0 ?_
  | with_reducible refine g_add ?_
  | with_reducible refine g_sub ?_
  | ((with_reducible refine' g_var ?hv ?_); (case hv => rfl))
  | ((with_reducible refine g_eq ?hv ?_); (case hv => rfl))
  | ((with_reducible refine g_ne ?hv ?_); (case hv => rfl)))
local macro_rules | `(tactic| walk_at "rd") => `(tactic| repeat (walk_at "rd1"))

local macro_rules | `(tactic| walk_at "ty") => `(tactic| first | exact .non | exact .bl _ | exact .int _ | exact .str _ | exact .lst (by assumption) | exact .tup (by assumption) | exact .dK (by assumption) | exact .kTup (by assumption) (by assumption))
local macro_rules | `(tactic| walk_at "isiF") => `(tactic| refine g_isi (by walk_at "ty") (b := false) (by decide +kernel) ?_)
local macro_rules | `(tactic| walk_at "isiT") => `(tactic| refine g_isi (by walk_at "ty") (b := true) (by decide +kernel) ?_)

theorem ok_is_integer (T : Txt K mg) (D : Def K mg "is_integer" s_is_integer ["value"]) : Cal P w K mg base 1 "is_integer" (spIsInt K) := by
  refine cal_of D sc_is_integer (fun vs H Q E h => ?_) (fun f cdv A outer s H vs Q E hr h => ?_)
  · obtain ⟨v, n, rfl, _⟩ := h
    rfl
  · obtain ⟨v, n, rfl, ty, q⟩ := h
    refine ⟨_, (pss_one (ps_ret (pe_and (pe_callB call_isi (by rfl) T.n_isinstance (by decide +kernel) (pa_cons (pv 0) (pa_cons (pe_ty "int" (by rfl) T.n_int (by decide +kernel)) pa_nil))) (pe_one (pe_not (pe_callB call_isi (by rfl) T.n_isinstance (by decide +kernel) (pa_cons (pv 0) (pa_cons (pe_ty "bool" (by rfl) T.n_bool (by decide +kernel)) pa_nil)))))))), ?_⟩
    walk_at "rd"
    refine g_isi ty (kb_int ty.mem) ?_
    walk_at "rd"
    have e : ∀ b, Q (.bl b) H → b = isI v → Q (.bl (isI v)) H := fun b q e => e ▸ q
    cases ty with
    | int i => simp; walk_at "rd"; refine g_isi (.int i) (kb_bool (by decide)) ?_; walk_at "rd"; exact q
    | bl i => simp; walk_at "rd"; refine g_isi (.bl i) (kb_bool (by decide)) ?_; walk_at "rd"; exact q
    | non => simp; exact q
    | str z => simp; exact q
    | lst z => simp; exact q
    | tup z => simp; exact q
    | dK z => simp; exact q
    | kTup z c => simp; exact q
theorem ok_is_between (T : Txt K mg) (D : Def K mg "is_between" s_is_between ["value", "least", "most"]) (c_is_integer : Cal P w K mg base 1 "is_integer" (spIsInt K)) : Cal P w K mg base 2 "is_between" (spBtw K) := by
  refine cal_of D sc_is_between (fun vs H Q E h => ?_) (fun f cdv A outer s H vs Q E hr h => ?_)
  · obtain ⟨v, n, a, b, rfl, _⟩ := h
    rfl
  · obtain ⟨v, n, a, b, rfl, ty, q⟩ := h
    refine ⟨_, (pss_one (ps_ret (pe_and (pe_f c_is_integer hr (by decide) (by rfl) (pa_cons (pv 0) pa_nil)) (pe_one (pe_chain op_le op_le (pv 1) (pv 0) (pv 2)))))), ?_⟩
    walk_at "rd"
    refine ⟨v, n, rfl, ty, ?_⟩
    walk_at "rd"
    cases ty with
    | int i =>
      show (if true = true then _ else _)
      walk_at "rd"
      refine g_ite (fun e => ?_) (fun e => ?_)
      · walk_at "rd"
        have z : btw (.int i) a b = decide (i ≤ b) := by show (decide (a ≤ i) && decide (i ≤ b)) = _; rw [e]; rfl
        rw [z] at q
        exact q
      · have z : btw (.int i) a b = false := by show (decide (a ≤ i) && decide (i ≤ b)) = _; rw [e]; rfl
        rw [z] at q
        exact q
    | bl i => exact q
    | non => exact q
    | str z => exact q
    | lst z => exact q
    | tup z => exact q
    | dK z => exact q
    | kTup z c => exact q
end
end K2

namespace K2
open PySem PySem.Spec PyProof.Rows L2 Mc
section
variable {P : Program} {w : World} {K : PySem.W.Frag} {mg : Str → Option Value} {base : Heap}
local macro_rules | `(tactic| walk_at "rd1") => `(tactic| first
  | with_reducible refine g_seq ?_
  | with_reducible refine g_asg ?_
  | with_reducible refine g_name ?_
  | with_reducible refine g_c ?_
  | with_reducible refine g_op ?_
  | with_reducible refine g_ifS ?_
  | with_reducible refine g_if ?_
  | with_reducible refine g_test ?_
  | with_reducible refine g_B ?_
  | with_reducible refine g_bl ?_
  | with_reducible refine g_blV ?_
  | with_reducible refine g_not ?_
  | with_reducible refine g_and ?_
  | with_reducible refine g_or ?_
  | with_reducible refine g_notV ?_
  | with_reducible refine g_andV ?_
  | with_reducible refine g_orV ?_
  | with_reducible refine g_ret ?_
  | with_reducible refine g_drop ?_
  | with_reducible refine g_next ?_
  | with_reducible refine g_retN ?_
  | with_reducible refine g_call ?_
  | with_reducible refine g_cb ?_
  | with_reducible refine g_cons ?_
  | with_reducible refine g_nil ?_
  | with_reducible refine g_tup ?_
  | with_reducible refine g_lst ?_
  | with_reducible refine g_prop ?_
  | with_reducible refine g_fld ?_
  | with_reducible refine g_meth ?_
  | with_reducible refine g_chain ?_
  | with_reducible refine g_yes ?_
  | with_reducible refine g_make ?_
  | with_reducible refine g_makeK ?_
  | with_reducible refine g_gsub ?_
  | with_reducible refine g_sfld ?_
  | with_reducible refine g_un ?_
  | with_reducible refine g_bm ?_
  | with_reducible refine g_iteT ?_
  | with_reducible refine g_iteF ?_
  | with_reducible refine g_I0 ?_
  | with_reducible refine g_add ?_
  | with_reducible refine g_sub ?_
  | ((with_reducible refine' g_var ?hv ?_); (case hv => rfl))
  | ((with_reducible refine g_eq ?hv ?_); (case hv => rfl))
  | ((with_reducible refine g_ne ?hv ?_); (case hv => rfl)))
local macro_rules | `(tactic| walk_at "rd") => `(tactic| repeat (walk_at "rd1"))

local macro_rules | `(tactic| walk_at "ty") => `(tactic| first | exact .non | exact .bl _ | exact .int _ | exact .str _ | exact .lst (by assumption) | exact .tup (by assumption) | exact .dK (by assumption) | exact .kTup (by assumption) (by assumption))
local macro_rules | `(tactic| walk_at "isiF") => `(tactic| refine g_isi (by walk_at "ty") (b := false) (by decide +kernel) ?_)
local macro_rules | `(tactic| walk_at "isiT") => `(tactic| refine g_isi (by walk_at "ty") (b := true) (by decide +kernel) ?_)

def sgn (c : Nat) : Bool := decide (c ∈ letters.cps.toList)
def isNm (z : Str) : Bool := decide ((1 : Int) ≤ z.length) && (decide ((z.length : Int) ≤ 8) && z.cps.toList.all sgn)
def nmV : V → Bool
  | .str z => isNm z
  | _ => false
def spName (K : PySem.W.Frag) : Sp := fun vs H Q _ => ∃ v n, vs = [v] ∧ TyB K H v n ∧ (∀ z, v = .str z → z.length ≤ 1000) ∧ ∀ H', Same H H' → Q (.bl (nmV v)) H'
theorem same_new {H : Hp} {p : Addr} {o : HO} (h : H p = none) : Same H (upd H p o) := fun b u e => by rw [upd_ne (ne_of_none e h)]; exact e
theorem sz_le {n : Nat} (h : n ≤ 1000) : n ≤ sizeLine := Nat.le_trans h (by decide)
theorem take_map {α : Type} {xs : List α} {i : Nat} {x : α} (f : α → V) (h : xs[i]? = some x) : (xs.take i).map f ++ [f x] = (xs.take (i + 1)).map f := by
  rw [List.take_add_one, h, List.map_append]
  rfl
theorem all_id {α : Type} (xs : List α) (f : α → Bool) : ((xs.map f).all id) = xs.all f := by rw [List.all_map]; rfl

theorem ok_is_name (T : Txt K mg) (D : Def K mg "is_name" s_is_name ["value"]) : Cal P w K mg base 1 "is_name" (spName K) := by
  refine cal_of D sc_is_name (fun vs H Q E h => ?_) (fun f cdv A outer s H vs Q E hr h => ?_)
  · obtain ⟨v, n, rfl, _⟩ := h
    rfl
  · obtain ⟨v, n, rfl, ty, hz, q⟩ := h
    refine ⟨_, (pss_one (ps_ret (pe_and (pe_callB call_isi (by rfl) T.n_isinstance (by decide +kernel) (pa_cons (pv 0) (pa_cons (pe_ty "str" (by rfl) T.n_str (by decide +kernel)) pa_nil))) (pe_and (pe_chain op_le op_le pe_int (pe_callB call_len_str (by rfl) T.n_len (by decide +kernel) (pa_cons (pv 0) pa_nil)) pe_int) (pe_one (pe_callB (cr_all rfl) (by rfl) T.n_all (by decide +kernel) (pa_cons (pe_lc (own := [("sign", 1)]) (g := gName 1) (by rfl) sc_is_name.nd (pi_str (pv 0)) (blkOk_by (own := [("sign", 1)]) (N := N_is_name) (sc := defScope s_is_name) (by decide +kernel)) (fun _ _ _ _ _ => pg_name (i := 1) sc_is_name.nd rfl (Or.inl rfl)) (fun _ _ _ _ _ => pts_nil) (fun _ _ _ _ _ => (pe_cmpR op_in_sign (pv 1) (pe_gx rfl T.g_LETTERS) (by rfl)))) pa_nil))))))), ?_⟩
    walk_at "rd"
    have q0 := q H (Same.refl H)
    cases ty
    case str z =>
      have hl := hz z rfl
      refine g_isi (.str z) (b := true) (by decide +kernel) ?_
      walk_at "rd"
      refine ⟨z, rfl, sz_le hl, ?_⟩
      walk_at "rd"
      refine g_ite (fun e1 => ?_) (fun e1 => ?_)
      · walk_at "rd"
        refine g_ite (fun e2 => ?_) (fun e2 => ?_)
        · walk_at "rd"
          refine ⟨_, rfl, _, rfl, fun L hL => ?_⟩
          refine lc_it walk_str (fun i H' => H' = upd H L (.lst ((z.cps.toList.take i).map fun c => .bl (sgn c)))) rfl (fun _ _ _ _ => trivial) ?_ ?_
          · rintro i x H0 H1 hi rfl ⟨rfl, c, hc, rfl⟩
            walk_at "rd"
            refine ⟨rfl, ?_⟩
            walk_at "rd"
            refine ⟨c, letters, rfl, rfl, _, upd_same, ?_, ?_⟩
            · rw [List.length_map, List.length_take]
              exact small1000 (Nat.le_trans (Nat.min_le_right _ _) (by simpa [Str.length] using hl))
            · have hc' : z.cps.toList[i]? = some c := by rw [Array.getElem?_toList]; exact hc
              rw [upd_upd]
              exact congrArg (fun l => upd H L (.lst l)) (take_map (fun c => V.bl (sgn c)) hc')
          · rintro H1 rfl
            refine ⟨L, z.cps.toList.map sgn, rfl, SqL.of ?_, ?_⟩
            · rw [upd_same, List.take_of_length_le (by simp), List.map_map]
              rfl
            · have e : nmV (.str z) = ((z.cps.toList.map sgn).all id) := by
                show (decide ((1 : Int) ≤ z.length) && (decide ((z.length : Int) ≤ 8) && z.cps.toList.all sgn)) = _
                rw [e1, e2, all_id]
                rfl
              rw [← e]
              exact q _ (same_new hL)
        · have e : nmV (.str z) = false := by
            show (decide ((1 : Int) ≤ z.length) && (decide ((z.length : Int) ≤ 8) && z.cps.toList.all sgn)) = _
            rw [e1, e2]
            rfl
          rw [e] at q0
          exact q0
      · walk_at "rd"
        have e : nmV (.str z) = false := by
          show (decide ((1 : Int) ≤ z.length) && (decide ((z.length : Int) ≤ 8) && z.cps.toList.all sgn)) = _
          rw [e1]
          rfl
        rw [e] at q0
        exact q0
    all_goals (walk_at "isiF"; walk_at "rd"; exact q0)
end
end K2

namespace K2
open PySem PySem.Spec PyProof.Rows L2 Mc
section
variable {P : Program} {w : World} {K : PySem.W.Frag} {mg : Str → Option Value} {base : Heap}
local macro_rules | `(tactic| walk_at "rd1") => `(tactic| first
  | with_reducible refine g_seq ?_
  | with_reducible refine g_asg ?_
  | with_reducible refine g_name ?_
  | with_reducible refine g_c ?_
  | with_reducible refine g_op ?_
  | with_reducible refine g_ifS ?_
  | with_reducible refine g_if ?_
  | with_reducible refine g_test ?_
  | with_reducible refine g_B ?_
  | with_reducible refine g_bl ?_
  | with_reducible refine g_blV ?_
  | with_reducible refine g_not ?_
  | with_reducible refine g_and ?_
  | with_reducible refine g_or ?_
  | with_reducible refine g_notV ?_
  | with_reducible refine g_andV ?_
  | with_reducible refine g_orV ?_
  | with_reducible refine g_ret ?_
  | with_reducible refine g_drop ?_
  | with_reducible refine g_next ?_
  | with_reducible refine g_retN ?_
  | with_reducible refine g_call ?_
  | with_reducible refine g_cb ?_
  | with_reducible refine g_cons ?_
  | with_reducible refine g_nil ?_
  | with_reducible refine g_tup ?_
  | with_reducible refine g_lst ?_
  | with_reducible refine g_prop ?_
  | with_reducible refine g_fld ?_
  | with_reducible refine g_meth ?_
  | with_reducible refine g_chain ?_
  | with_reducible refine g_yes ?_
  | with_reducible refine g_make ?_
  | with_reducible refine g_makeK ?_
  | with_reducible refine g_gsub ?_
  | with_reducible refine g_sfld ?_
  | with_reducible refine g_un ?_
  | with_reducible refine g_bm ?_
  | with_reducible refine g_iteT ?_
  | with_reducible refine g_iteF ?_
  | with_reducible refine g_I0 ?_
  | with_reducible refine g_add ?_
  | with_reducible refine g_sub ?_
  | ((with_reducible refine' g_var ?hv ?_); (case hv => rfl))
  | ((with_reducible refine g_eq ?hv ?_); (case hv => rfl))
  | ((with_reducible refine g_ne ?hv ?_); (case hv => rfl)))
local macro_rules | `(tactic| walk_at "rd") => `(tactic| repeat (walk_at "rd1"))

local macro_rules | `(tactic| walk_at "ty") => `(tactic| first | exact .non | exact .bl _ | exact .int _ | exact .str _ | exact .lst (by assumption) | exact .tup (by assumption) | exact .dK (by assumption) | exact .kTup (by assumption) (by assumption))
local macro_rules | `(tactic| walk_at "isiF") => `(tactic| refine g_isi (by walk_at "ty") (b := false) (by decide +kernel) ?_)
local macro_rules | `(tactic| walk_at "isiT") => `(tactic| refine g_isi (by walk_at "ty") (b := true) (by decide +kernel) ?_)

/-- a tuple's value: its kind, its items -/
structure TupV (K : PySem.W.Frag) (H : Hp) (a : Addr) (xs : List V) : Prop where
  ty : TyB K H (.ref a) "tuple"
  sq : SqT K H a xs
theorem TyB.ext {H H' : Hp} {v : V} {n : String} (e : Same H H') (h : TyB K H v n) : TyB K H' v n := by
  cases h with
  | non => exact .non
  | bl b => exact .bl b
  | int i => exact .int i
  | str z => exact .str z
  | lst z => exact .lst (e _ _ z)
  | tup z => exact .tup (e _ _ z)
  | dK z => exact .dK (e _ _ z)
  | kTup z c => exact .kTup z c
theorem sqT_ext {H H' : Hp} {a : Addr} {xs : List V} (e : Same H H') (h : SqT K H a xs) : SqT K H' a xs := by
  rcases h with (h | ⟨o, h⟩) | h
  · exact .inl (.inl (e _ _ h))
  · exact .inl (.inr ⟨o, e _ _ h⟩)
  · exact .inr h
theorem TupV.ext {H H' : Hp} {a : Addr} {xs : List V} (e : Same H H') (h : TupV K H a xs) : TupV K H' a xs := ⟨TyB.ext e h.ty, sqT_ext e h.sq⟩
def Typed (K : PySem.W.Frag) (H : Hp) (xs : List V) : Prop := ∀ x ∈ xs, ∃ n, TyB K H x n

def arePz (xs : List V) (t : Int) : Bool := decide (V.int (xs.length : Int) = V.int (t - 1)) && xs.all fun x => btw x 0 8
def spAre (K : PySem.W.Frag) : Sp := fun vs H Q _ => ∃ v t, vs = [v, .int t] ∧
  ((∃ n, TyB K H v n ∧ n ≠ "tuple" ∧ Q (.bl false) H) ∨ (∃ a xs, v = .ref a ∧ TupV K H a xs ∧ Typed K H xs ∧ xs.length ≤ 1000 ∧ ∀ H', Same H H' → Q (.bl (arePz xs t)) H'))

theorem ok_are_pauses (T : Txt K mg) (D : Def K mg "_are_pauses" s_are_pauses ["value", "tries"]) (c_is_between : Cal P w K mg base 2 "is_between" (spBtw K)) : Cal P w K mg base 3 "_are_pauses" (spAre K) := by
  refine cal_of D sc_are_pauses (fun vs H Q E h => ?_) (fun f cdv A outer s H vs Q E hr h => ?_)
  · obtain ⟨v, t, rfl, _⟩ := h
    rfl
  · obtain ⟨v, t, rfl, h⟩ := h
    refine ⟨_, (pss_one (ps_ret (pe_and (pe_callB call_isi (by rfl) T.n_isinstance (by decide +kernel) (pa_cons (pv 0) (pa_cons (pe_ty "tuple" (by rfl) T.n_tuple (by decide +kernel)) pa_nil))) (pe_and (pe_cmpR op_eq (pe_callB call_len_seq (by rfl) T.n_len (by decide +kernel) (pa_cons (pv 0) pa_nil)) (pe_op op_sub (pv 1) pe_int) (nomark _)) (pe_one (pe_callB (cr_all rfl) (by rfl) T.n_all (by decide +kernel) (pa_cons (pe_lc (own := [("ticks", 2)]) (g := gName 2) (by rfl) sc_are_pauses.nd (pi_tup (pv 0)) (blkOk_by (own := [("ticks", 2)]) (N := N_are_pauses) (sc := defScope s_are_pauses) (by decide +kernel)) (fun _ _ _ _ _ => pg_name (i := 2) sc_are_pauses.nd rfl (Or.inl rfl)) (fun _ _ _ _ _ => pts_nil) (fun _ _ _ _ _ => (pe_f c_is_between hr (by decide) (by rfl) (pa_cons (pv 2) (pa_cons pe_int (pa_cons pe_int pa_nil)))))) pa_nil))))))), ?_⟩
    walk_at "rd"
    rcases h with ⟨n, ty, hn, q⟩ | ⟨a, xs, rfl, tv, typ, hl, q⟩
    · refine g_isi ty (kb_tuple ty.mem) ?_
      have e : (n == "tuple") = false := by simpa using hn
      rw [e]
      walk_at "rd"
      exact q
    · refine g_isi tv.ty (b := true) (by decide +kernel) ?_
      walk_at "rd"
      refine ⟨a, xs, rfl, .inr tv.sq, ?_⟩
      walk_at "rd"
      have e0 : arePz xs t = (decide (V.int (xs.length : Int) = V.int (t - 1)) && xs.all fun x => btw x 0 8) := rfl
      refine g_ite (fun e1 => ?_) (fun e1 => ?_)
      · walk_at "rd"
        refine ⟨_, rfl, _, rfl, ⟨_, tv.sq⟩, fun L hL => ?_⟩
        refine lc_tup (K := K) (a := a) (xs := xs) (fun i H' => H' = upd H L (.lst ((xs.take i).map fun x => .bl (btw x 0 8)))) rfl (fun i H' _ e => by subst e; exact sqT_ext (same_new hL) tv.sq) ?_ ?_
        · rintro i x H0 hx rfl
          walk_at "rd"
          refine ⟨rfl, ?_⟩
          walk_at "rd"
          obtain ⟨n, tx⟩ := typ x (List.mem_of_getElem? hx)
          refine ⟨x, n, 0, 8, rfl, TyB.ext (same_new hL) tx, _, upd_same, ?_, ?_⟩
          · rw [List.length_map, List.length_take]
            exact small1000 (Nat.le_trans (Nat.min_le_right _ _) hl)
          · rw [upd_upd]
            exact congrArg (fun l => upd H L (.lst l)) (take_map (fun x => V.bl (btw x 0 8)) hx)
        · rintro H1 rfl
          refine ⟨L, xs.map fun x => btw x 0 8, rfl, SqL.of ?_, ?_⟩
          · rw [upd_same, List.take_of_length_le (Nat.le_refl _), List.map_map]
            rfl
          · have e : arePz xs t = ((xs.map fun x => btw x 0 8).all id) := by rw [e0, e1, all_id]; rfl
            rw [← e]
            exact q _ (same_new hL)
      · walk_at "rd"
        have e : arePz xs t = false := by rw [e0, e1]; rfl
        have q0 := q H (Same.refl H)
        rw [e] at q0
        exact q0

def sStop : Str := "stop"
def sGo : Str := "go"
def sDeadline : Str := "deadline"
def endOk : List V → Bool
  | .str z :: r => if z = sStop then decide (r.length = 1) && r.all (fun x => btw x 0 20) else decide (r.length = 0) && inV (.str z) [.str sGo, .str sDeadline]
  | _ => false
def spEnd (K : PySem.W.Frag) : Sp := fun vs H Q _ => ∃ v, vs = [v] ∧
  ((∃ n, TyB K H v n ∧ n ≠ "tuple" ∧ Q (.bl false) H) ∨ (∃ a xs, v = .ref a ∧ TupV K H a xs ∧ Typed K H xs ∧ xs.length ≤ 1000 ∧ ∀ H', Same H H' → Q (.bl (endOk xs)) H'))
theorem ok_is_ending (T : Txt K mg) (D : Def K mg "_is_ending" s_is_ending ["value"]) (c_is_between : Cal P w K mg base 2 "is_between" (spBtw K)) : Cal P w K mg base 3 "_is_ending" (spEnd K) := by
  refine cal_of D sc_is_ending (fun vs H Q E h => ?_) (fun f cdv A outer s H vs Q E hr h => ?_)
  · obtain ⟨v, rfl, _⟩ := h
    rfl
  · obtain ⟨v, rfl, h⟩ := h
    refine ⟨_, (pss_cons (ps_if (PW.pt (pw_or (pt_not (pt_val (pe_callB call_isi (by rfl) T.n_isinstance (by decide +kernel) (pa_cons (pv 0) (pa_cons (pe_ty "tuple" (by rfl) T.n_tuple (by decide +kernel)) pa_nil))))) (pw_or (pt_cmpR op_eq (pe_callB call_len_seq (by rfl) T.n_len (by decide +kernel) (pa_cons (pv 0) pa_nil)) pe_int (nomark _)) (pw_or1 (pt_not (pt_val (pe_callB call_isi (by rfl) T.n_isinstance (by decide +kernel) (pa_cons (pe_ix ix_tup (pv 0) pe_int (fun _ _ => rfl)) (pa_cons (pe_ty "str" (by rfl) T.n_str (by decide +kernel)) pa_nil))))))))) (pss_one (ps_ret pe_bl)) pss_nil)
      (pss_cons (ps_if (pt_cmpR op_eq (pe_ix ix_tup (pv 0) pe_int (fun _ _ => rfl)) pe_str (nomark _)) (pss_one (ps_ret (pe_and (pe_cmpR op_eq (pe_callB call_len_seq (by rfl) T.n_len (by decide +kernel) (pa_cons (pv 0) pa_nil)) pe_int (nomark _)) (pe_one (pe_f c_is_between hr (by decide) (by rfl) (pa_cons (pe_ix ix_tup (pv 0) pe_int (fun _ _ => rfl)) (pa_cons pe_int (pa_cons pe_int pa_nil)))))))) pss_nil)
      (pss_one (ps_ret (pe_and (pe_cmpR op_eq (pe_callB call_len_seq (by rfl) T.n_len (by decide +kernel) (pa_cons (pv 0) pa_nil)) pe_int (nomark _)) (pe_one (pe_cmpR op_in_seq (pe_ix ix_tup (pv 0) pe_int (fun _ _ => rfl)) (pe_tup (pa_cons pe_str (pa_cons pe_str pa_nil))) (by rfl)))))))), ?_⟩
    walk_at "rd"
    rcases h with ⟨n, ty, hn, q⟩ | ⟨a, xs, rfl, tv, typ, hl, q⟩
    · refine g_isi ty (kb_tuple ty.mem) ?_
      have e : (n == "tuple") = false := by simpa using hn
      rw [e]
      walk_at "rd"
      exact q
    · refine g_isi tv.ty (b := true) (by decide +kernel) ?_
      walk_at "rd"
      show (if false = true then _ else _)
      walk_at "rd"
      refine ⟨a, xs, rfl, .inr tv.sq, ?_⟩
      walk_at "rd"
      have q0 := q H (Same.refl H)
      match xs, q, tv, typ, hl, q0 with
      | [], q, tv, typ, hl, q0 =>
        show (if true = true then _ else _)
        walk_at "rd"
        exact q0
      | x :: r, q, tv, typ, hl, q0 =>
        have e1 : decide (V.int (((x :: r).length : Nat) : Int) = V.int 0) = false := decide_eq_false (by intro z; injection z with z; simp at z; omega)
        rw [e1]
        walk_at "rd"
        refine g_ixT tv.sq (v := x) (atI_nat (j := 0) rfl) ?_
        walk_at "rd"
        obtain ⟨n, tx⟩ := typ x (List.mem_cons_self ..)
        refine g_isi tx (kb_str tx.mem) ?_
        walk_at "rd"
        cases tx
        case str z =>
          show (if false = true then _ else _)
          walk_at "rd"
          refine g_ixT tv.sq (v := .str z) (atI_nat (j := 0) rfl) ?_
          walk_at "rd"
          refine g_ite (fun e => ?_) (fun e => ?_)
          · have ez : z = sStop := by injection (of_decide_eq_true e)
            have eq : endOk (.str z :: r) = (decide (r.length = 1) && r.all (fun x => btw x 0 20)) := by
              show (if z = sStop then _ else _) = _
              rw [if_pos ez]
            walk_at "rd"
            refine ⟨a, _, rfl, .inr tv.sq, ?_⟩
            walk_at "rd"
            match r, q, tv, typ, eq, q0 with
            | [], q, tv, typ, eq, q0 =>
              show (if false = true then _ else _)
              walk_at "rd"
              rw [eq] at q0
              exact q0
            | [y], q, tv, typ, eq, q0 =>
              show (if true = true then _ else _)
              walk_at "rd"
              refine g_ixT tv.sq (v := y) (atI_nat (j := 1) rfl) ?_
              walk_at "rd"
              obtain ⟨m, ty⟩ := typ y (List.mem_cons_of_mem _ (List.mem_cons_self ..))
              refine ⟨y, m, 0, 20, rfl, ty, ?_⟩
              have e3 : endOk [.str z, y] = btw y 0 20 := by
                rw [eq]
                show (true && (btw y 0 20 && true)) = _
                rw [Bool.and_true]
                rfl
              rw [e3] at q0
              exact q0
            | y :: y2 :: r, q, tv, typ, eq, q0 =>
              have e4 : decide (V.int (((V.str z :: y :: y2 :: r).length : Nat) : Int) = V.int 2) = false := decide_eq_false (by intro k; injection k with k; simp at k; omega)
              rw [e4]
              walk_at "rd"
              have e5 : endOk (.str z :: y :: y2 :: r) = false := by
                rw [eq, decide_eq_false (by simp)]
                rfl
              rw [e5] at q0
              exact q0
          · have ez : z ≠ sStop := fun k => absurd e (by rw [k]; decide)
            have eq : endOk (.str z :: r) = (decide (r.length = 0) && inV (.str z) [.str sGo, .str sDeadline]) := by
              show (if z = sStop then _ else _) = _
              rw [if_neg ez]
            walk_at "rd"
            refine ⟨a, _, rfl, .inr tv.sq, ?_⟩
            walk_at "rd"
            refine g_ite (fun e6 => ?_) (fun e6 => ?_)
            · walk_at "rd"
              refine g_ixT tv.sq (v := .str z) (atI_nat (j := 0) rfl) ?_
              walk_at "rd"
              refine ⟨(by show 2 ≤ sizeLine; decide), fun p hp => ?_⟩
              refine ⟨p, _, rfl, .inr (SqT.of upd_same), rfl, rfl, ?_⟩
              have e7 : decide (r.length = 0) = true := by
                have k := of_decide_eq_true e6
                injection k with k
                simp at k
                exact decide_eq_true (by omega)
              rw [e7, Bool.true_and] at eq
              rw [eq] at q
              exact q _ (same_new hp)
            · have e7 : decide (r.length = 0) = false := decide_eq_false (fun k => absurd e6 (by simp [k]))
              rw [eq, e7] at q0
              walk_at "rd"
              exact q0
        all_goals
          show (if true = true then _ else _)
          walk_at "rd"
          exact q0
end
end K2

namespace K2
open PySem PySem.Spec PyProof.Rows L2 Mc
section
variable {P : Program} {w : World} {K : PySem.W.Frag} {mg : Str → Option Value} {base : Heap}
local macro_rules | `(tactic| walk_at "rd1") => `(tactic| first
  | with_reducible refine g_seq ?_
  | with_reducible refine g_asg ?_
  | with_reducible refine g_name ?_
  | with_reducible refine g_c ?_
  | with_reducible refine g_op ?_
  | with_reducible refine g_ifS ?_
  | with_reducible refine g_if ?_
  | with_reducible refine g_test ?_
  | with_reducible refine g_B ?_
  | with_reducible refine g_bl ?_
  | with_reducible refine g_blV ?_
  | with_reducible refine g_not ?_
  | with_reducible refine g_and ?_
  | with_reducible refine g_or ?_
  | with_reducible refine g_notV ?_
  | with_reducible refine g_andV ?_
  | with_reducible refine g_orV ?_
  | with_reducible refine g_ret ?_
  | with_reducible refine g_drop ?_
  | with_reducible refine g_next ?_
  | with_reducible refine g_retN ?_
  | with_reducible refine g_call ?_
  | with_reducible refine g_cb ?_
  | with_reducible refine g_cons ?_
  | with_reducible refine g_nil ?_
  | with_reducible refine g_tup ?_
  | with_reducible refine g_lst ?_
  | with_reducible refine g_prop ?_
  | with_reducible refine g_fld ?_
  | with_reducible refine g_meth ?_
  | with_reducible refine g_chain ?_
  | with_reducible refine g_yes ?_
  | with_reducible refine g_make ?_
  | with_reducible refine g_makeK ?_
  | with_reducible refine g_gsub ?_
  | with_reducible refine g_sfld ?_
  | with_reducible refine g_un ?_
  | with_reducible refine g_bm ?_
  | with_reducible refine g_iteT ?_
  | with_reducible refine g_iteF ?_
  | with_reducible refine g_I0 ?_
  | with_reducible refine g_add ?_
  | with_reducible refine g_sub ?_
  | ((with_reducible refine' g_var ?hv ?_); (case hv => rfl))
  | ((with_reducible refine g_eq ?hv ?_); (case hv => rfl))
  | ((with_reducible refine g_ne ?hv ?_); (case hv => rfl)))
local macro_rules | `(tactic| walk_at "rd") => `(tactic| repeat (walk_at "rd1"))

local macro_rules | `(tactic| walk_at "ty") => `(tactic| first | exact .non | exact .bl _ | exact .int _ | exact .str _ | exact .lst (by assumption) | exact .tup (by assumption) | exact .dK (by assumption) | exact .kTup (by assumption) (by assumption))
local macro_rules | `(tactic| walk_at "isiF") => `(tactic| refine g_isi (by walk_at "ty") (b := false) (by decide +kernel) ?_)
local macro_rules | `(tactic| walk_at "isiT") => `(tactic| refine g_isi (by walk_at "ty") (b := true) (by decide +kernel) ?_)

def spAll (K : PySem.W.Frag) : Sp := fun vs H Q _ => ∃ t p e, vs = [.int t, p, e] ∧ 1 ≤ t ∧ t ≤ 1000 ∧
  (e ≠ .non → ∀ q H', Same H H' → H' q = some (.tup []) → Q (.ref q) H') ∧
  (e = .non → p = .non → ∀ q H', Same H H' → H' q = some (.tup (List.replicate (t - 1).toNat (.int 0))) → Q (.ref q) H') ∧
  (e = .non → p ≠ .non → Q p H)
theorem ok_all_pauses (T : Txt K mg) (D : Def K mg "_all_pauses" s_all_pauses ["tries", "pauses", "early"]) : Cal P w K mg base 1 "_all_pauses" (spAll K) := by
  refine cal_of D sc_all_pauses (fun vs H Q E h => ?_) (fun f cdv A outer s H vs Q E hr h => ?_)
  · obtain ⟨t, p, e, rfl, _⟩ := h
    rfl
  · obtain ⟨t, p, e, rfl, t1, t2, q1, q2, q3⟩ := h
    refine ⟨_, (pss_cons (ps_if (pt_cmpR op_notN (pv 2) pe_non (nomark _)) (pss_one (ps_ret (pe_tup pa_nil))) pss_nil)
      (pss_cons (ps_if (pt_cmpR op_isN (pv 1) pe_non (nomark _)) (pss_one (ps_ret (pe_op op_repS (pe_tup (pa_cons pe_int pa_nil)) (pe_op op_sub (pv 0) pe_int)))) pss_nil)
      (pss_one (ps_ret (pv 1))))), ?_⟩
    walk_at "rd"
    refine ⟨rfl, ?_⟩
    walk_at "rd"
    by_cases he : e = .non
    · subst he
      show (if false = true then _ else _)
      walk_at "rd"
      refine ⟨rfl, ?_⟩
      walk_at "rd"
      by_cases hp : p = .non
      · subst hp
        show (if true = true then _ else _)
        walk_at "rd"
        refine ⟨(by show 1 ≤ sizeLine; decide), fun a ha => ?_⟩
        walk_at "rd"
        refine ⟨a, t - 1, .int 0, rfl, rfl, SqT.of upd_same, by omega, by omega, fun e => ?_, fun e b hb => ?_⟩
        · refine q2 rfl rfl _ _ (same_new ha) ?_
          rw [upd_same, e]
          rfl
        · refine q2 rfl rfl _ _ (Same.trans (same_new ha) (same_new hb)) ?_
          rw [upd_same]
      · rw [decide_eq_false hp]
        walk_at "rd"
        exact q3 rfl hp
    · rw [decide_eq_false he]
      show (if true = true then _ else _)
      walk_at "rd"
      refine ⟨(by show 0 ≤ sizeLine; decide), fun a ha => ?_⟩
      exact q1 he _ _ (same_new ha) upd_same

def isB : V → Bool
  | .bl _ => true
  | _ => false
def gt1 : V → Bool
  | .int i => decide (1 < i)
  | _ => false
def wfV (l t p e y : V) (pb gb : Bool) : V :=
  if btw l 1 20 then if btw t 1 3 then
    if !decide (p = .non) && !(decide (e = .non) && pb) then .str "pauses" else
    if !decide (e = .non) && !(gt1 t && btw e 1 20) then .str "early" else
    if isB y then (if gb then .non else .str "ending") else .str "lossy"
  else .str "tries" else .str "limit"
def SeqR (K : PySem.W.Frag) (H : Hp) (v : V) (f : List V → Bool) (b : Bool) : Prop :=
  (∃ n, TyB K H v n ∧ n ≠ "tuple" ∧ b = false) ∨ (∃ a xs, v = .ref a ∧ TupV K H a xs ∧ Typed K H xs ∧ xs.length ≤ 1000 ∧ b = f xs)
theorem Typed.ext {H H' : Hp} {xs : List V} (e : Same H H') (h : Typed K H xs) : Typed K H' xs := fun x hx => (h x hx).elim fun n t => ⟨n, TyB.ext e t⟩
theorem SeqR.ext {H H' : Hp} {v : V} {f : List V → Bool} {b : Bool} (e : Same H H') (h : SeqR K H v f b) : SeqR K H' v f b := by
  rcases h with ⟨n, t, hn, hb⟩ | ⟨a, xs, ev, tv, ty, hl, hb⟩
  · exact .inl ⟨n, TyB.ext e t, hn, hb⟩
  · exact .inr ⟨a, xs, ev, TupV.ext e tv, Typed.ext e ty, hl, hb⟩
theorem SeqR.are {H : Hp} {Q : VK} {E : XK} {v : V} {t : Int} {b : Bool} (h : SeqR K H v (fun xs => arePz xs t) b) (q : ∀ H', Same H H' → Q (.bl b) H') : spAre K [v, .int t] H Q E := by
  refine ⟨v, t, rfl, ?_⟩
  rcases h with ⟨n, ty, hn, rfl⟩ | ⟨a, xs, ev, tv, ty, hl, rfl⟩
  · exact .inl ⟨n, ty, hn, q H (Same.refl H)⟩
  · exact .inr ⟨a, xs, ev, tv, ty, hl, q⟩
theorem SeqR.en {H : Hp} {Q : VK} {E : XK} {v : V} {b : Bool} (h : SeqR K H v endOk b) (q : ∀ H', Same H H' → Q (.bl b) H') : spEnd K [v] H Q E := by
  refine ⟨v, rfl, ?_⟩
  rcases h with ⟨n, ty, hn, rfl⟩ | ⟨a, xs, ev, tv, ty, hl, rfl⟩
  · exact .inl ⟨n, ty, hn, q H (Same.refl H)⟩
  · exact .inr ⟨a, xs, ev, tv, ty, hl, q⟩
def spWrong (K : PySem.W.Frag) : Sp := fun vs H Q _ => ∃ l t p e y g n1 n2 n3 n4 pb gb, vs = [l, t, p, e, y, g] ∧ TyB K H l n1 ∧ TyB K H t n2 ∧ TyB K H e n3 ∧ TyB K H y n4 ∧
  (∀ i, t = .int i → SeqR K H p (fun xs => arePz xs i) pb) ∧ SeqR K H g endOk gb ∧ ∀ H', Same H H' → Q (wfV l t p e y pb gb) H'
theorem btw_int {v : V} {a b : Int} (h : btw v a b = true) : ∃ i, v = .int i := by
  cases v <;> first | exact ⟨_, rfl⟩ | exact Bool.noConfusion h
theorem isB_ty {H : Hp} {v : V} {n : String} (h : TyB K H v n) : isB v = (n == "bool") := by
  cases h <;> rfl

def spAcc (K : PySem.W.Frag) : Sp := fun vs H Q _ => ∃ f v, vs = [.str f, v] ∧ ((f = "limit" ∧ ∃ n, TyB K H v n ∧ Q (.bl (btw v 1 20)) H) ∨ (f = "tries" ∧ ∃ n, TyB K H v n ∧ Q (.bl (btw v 1 3)) H) ∨
  (f = "ending" ∧ ∃ gb, SeqR K H v endOk gb ∧ ∀ H', Same H H' → Q (.bl gb) H'))
theorem ok_accepts (T : Txt K mg) (D : Def K mg "accepts" s_accepts ["field", "value"]) (c_is_between : Cal P w K mg base 2 "is_between" (spBtw K))
    (c_is_ending : Cal P w K mg base 3 "_is_ending" (spEnd K)) : Cal P w K mg base 4 "accepts" (spAcc K) := by
  refine cal_of D sc_accepts (fun vs H Q E h => ?_) (fun f cdv A outer s H vs Q E hr h => ?_)
  · obtain ⟨f, v, rfl, _⟩ := h
    rfl
  · obtain ⟨f, v, rfl, h⟩ := h
    refine ⟨_, (pss_cons (ps_if (pt_cmpR op_eq (pv 0) pe_str (nomark _)) (pss_one (ps_ret (pe_f c_is_between hr (by decide) (by rfl) (pa_cons (pv 1) (pa_cons pe_int (pa_cons (pe_gx rfl T.g_MOST_LIMIT) pa_nil)))))) pss_nil)
      (pss_cons (ps_if (pt_cmpR op_eq (pv 0) pe_str (nomark _)) (pss_one (ps_ret (pe_f c_is_between hr (by decide) (by rfl) (pa_cons (pv 1) (pa_cons pe_int (pa_cons (pe_gx rfl T.g_MOST_TRIES) pa_nil)))))) pss_nil)
      (pss_one (ps_ret (pe_and (pe_cmpR op_eq (pv 0) pe_str (nomark _)) (pe_one (pe_f c_is_ending hr (by decide) (by rfl) (pa_cons (pv 1) pa_nil)))))))), ?_⟩
    have n1 : decide (V.str "tries" = V.str "limit") = false := decide_eq_false (fun z => absurd (V.str.inj z) (by decide))
    have n2 : decide (V.str "ending" = V.str "limit") = false := decide_eq_false (fun z => absurd (V.str.inj z) (by decide))
    have n3 : decide (V.str "ending" = V.str "tries") = false := decide_eq_false (fun z => absurd (V.str.inj z) (by decide))
    rcases h with ⟨rfl, n, ty, q⟩ | ⟨rfl, n, ty, q⟩ | ⟨rfl, gb, sq, q⟩
    · walk_at "rd"
      rw [decide_eq_true (Eq.refl (V.str "limit"))]
      walk_at "rd"
      refine ⟨v, n, 1, 20, rfl, ty, ?_⟩
      walk_at "rd"
      exact q
    · walk_at "rd"
      rw [n1]
      walk_at "rd"
      rw [decide_eq_true (Eq.refl (V.str "tries"))]
      walk_at "rd"
      refine ⟨v, n, 1, 3, rfl, ty, ?_⟩
      walk_at "rd"
      exact q
    · walk_at "rd"
      rw [n2]
      walk_at "rd"
      rw [n3]
      walk_at "rd"
      rw [decide_eq_true (Eq.refl (V.str "ending"))]
      walk_at "rd"
      refine SeqR.en sq fun H2 S2 => ?_
      walk_at "rd"
      exact q _ S2
theorem ok_wrong_field (T : Txt K mg) (D : Def K mg "_wrong_field" s_wrong_field ["limit", "tries", "pauses", "early", "lossy", "ending"]) (c_is_between : Cal P w K mg base 2 "is_between" (spBtw K))
    (c_are_pauses : Cal P w K mg base 3 "_are_pauses" (spAre K)) (c_accepts : Cal P w K mg base 4 "accepts" (spAcc K)) : Cal P w K mg base 5 "_wrong_field" (spWrong K) := by
  refine cal_of D sc_wrong_field (fun vs H Q E h => ?_) (fun f cdv A outer s H vs Q E hr h => ?_)
  · obtain ⟨l, t, p, e, y, g, _, _, _, _, _, _, rfl, _⟩ := h
    rfl
  · obtain ⟨l, t, p, e, y, g, n1, n2, n3, n4, pb, gb, rfl, t1, t2, t3, t4, hp, hg, q⟩ := h
    refine ⟨_, (pss_cons (ps_if (pt_not (pt_val (pe_f c_accepts hr (by decide) (by rfl) (pa_cons pe_str (pa_cons (pv 0) pa_nil))))) (pss_one (ps_ret pe_str)) pss_nil)
      (pss_cons (ps_if (pt_not (pt_val (pe_f c_accepts hr (by decide) (by rfl) (pa_cons pe_str (pa_cons (pv 1) pa_nil))))) (pss_one (ps_ret pe_str)) pss_nil)
      (pss_cons (ps_if (PW.pt (pw_and (pt_cmpR op_notN (pv 2) pe_non (nomark _)) (pw_and1 (pt_not (PW.pt (pw_and (pt_cmpR op_isN (pv 3) pe_non (nomark _)) (pw_and1 (pt_val (pe_f c_are_pauses hr (by decide) (by rfl) (pa_cons (pv 2) (pa_cons (pv 1) pa_nil))))))))))) (pss_one (ps_ret pe_str)) pss_nil)
      (pss_cons (ps_if (PW.pt (pw_and (pt_cmpR op_notN (pv 3) pe_non (nomark _)) (pw_and1 (pt_not (PW.pt (pw_and (pt_cmpR op_gt (pv 1) pe_int (nomark _)) (pw_and1 (pt_val (pe_f c_is_between hr (by decide) (by rfl) (pa_cons (pv 3) (pa_cons pe_int (pa_cons pe_int pa_nil)))))))))))) (pss_one (ps_ret pe_str)) pss_nil)
      (pss_cons (ps_if (pt_not (pt_val (pe_callB call_isi (by rfl) T.n_isinstance (by decide +kernel) (pa_cons (pv 4) (pa_cons (pe_ty "bool" (by rfl) T.n_bool (by decide +kernel)) pa_nil))))) (pss_one (ps_ret pe_str)) pss_nil)
      (pss_cons (ps_if (pt_not (pt_val (pe_f c_accepts hr (by decide) (by rfl) (pa_cons pe_str (pa_cons (pv 5) pa_nil))))) (pss_one (ps_ret pe_str)) pss_nil)
      (pss_one (ps_ret pe_non)))))))), ?_⟩
    walk_at "rd"
    refine ⟨_, l, rfl, .inl ⟨rfl, n1, t1, ?_⟩⟩
    walk_at "rd"
    unfold wfV at q
    cases e1 : btw l 1 20
    · rw [e1] at q
      show (if true = true then _ else _)
      walk_at "rd"
      exact q H (Same.refl H)
    rw [e1] at q
    show (if false = true then _ else _)
    walk_at "rd"
    refine ⟨_, t, rfl, .inr (.inl ⟨rfl, n2, t2, ?_⟩)⟩
    walk_at "rd"
    cases e2 : btw t 1 3
    · rw [e2] at q
      show (if true = true then _ else _)
      walk_at "rd"
      exact q H (Same.refl H)
    rw [e2] at q
    obtain ⟨i, rfl⟩ := btw_int e2
    have hp := hp i rfl
    show (if false = true then _ else _)
    walk_at "rd"
    refine ⟨rfl, ?_⟩
    walk_at "rd"
    have S := Same.refl H
    by_cases hen : e = .non
    · subst hen
      by_cases hpn : p = .non
      · subst hpn
        show (if false = true then _ else _)
        walk_at "rd"
        refine ⟨rfl, ?_⟩
        walk_at "rd"
        show (if false = true then _ else _)
        walk_at "rd"
        refine g_isi (TyB.ext S t4) (kb_bool t4.mem) ?_
        rw [isB_ty t4] at q
        walk_at "rd"
        cases ey : (n4 == "bool")
        · rw [ey] at q
          show (if true = true then _ else _)
          walk_at "rd"
          exact q _ S
        · rw [ey] at q
          show (if false = true then _ else _)
          walk_at "rd"
          refine ⟨_, g, rfl, .inr (.inr ⟨rfl, gb, SeqR.ext S hg, fun H2 S2 => ?_⟩)⟩
          walk_at "rd"
          cases gb
          · show (if true = true then _ else _)
            walk_at "rd"
            exact q _ (Same.trans S S2)
          · show (if false = true then _ else _)
            walk_at "rd"
            exact q _ (Same.trans S S2)
      · rw [decide_eq_false hpn]
        rw [decide_eq_false hpn] at q
        show (if true = true then _ else _)
        walk_at "rd"
        refine ⟨rfl, ?_⟩
        walk_at "rd"
        show (if true = true then _ else _)
        walk_at "rd"
        refine hp.are fun H1 S1 => ?_
        walk_at "rd"
        cases pb
        · show (if true = true then _ else _)
          walk_at "rd"
          exact q H1 S1
        · show (if false = true then _ else _)
          walk_at "rd"
          refine ⟨rfl, ?_⟩
          walk_at "rd"
          show (if false = true then _ else _)
          walk_at "rd"
          have S := S1
          refine g_isi (TyB.ext S t4) (kb_bool t4.mem) ?_
          rw [isB_ty t4] at q
          walk_at "rd"
          cases ey : (n4 == "bool")
          · rw [ey] at q
            show (if true = true then _ else _)
            walk_at "rd"
            exact q _ S
          · rw [ey] at q
            show (if false = true then _ else _)
            walk_at "rd"
            refine ⟨_, g, rfl, .inr (.inr ⟨rfl, gb, SeqR.ext S hg, fun H2 S2 => ?_⟩)⟩
            walk_at "rd"
            cases gb
            · show (if true = true then _ else _)
              walk_at "rd"
              exact q _ (Same.trans S S2)
            · show (if false = true then _ else _)
              walk_at "rd"
              exact q _ (Same.trans S S2)
    · rw [decide_eq_false hen] at q
      by_cases hpn : p = .non
      · subst hpn
        show (if false = true then _ else _)
        walk_at "rd"
        refine ⟨rfl, ?_⟩
        walk_at "rd"
        rw [decide_eq_false hen]
        show (if true = true then _ else _)
        walk_at "rd"
        have eg : gt1 (.int i) = decide (1 < i) := rfl
        rw [eg] at q
        refine g_ite (fun e3 => ?_) (fun e3 => ?_)
        · walk_at "rd"
          refine ⟨e, n3, 1, 20, rfl, t3, ?_⟩
          walk_at "rd"
          rw [e3] at q
          cases e4 : btw e 1 20
          · rw [e4] at q
            show (if true = true then _ else _)
            walk_at "rd"
            exact q H S
          · rw [e4] at q
            show (if false = true then _ else _)
            walk_at "rd"
            refine g_isi (TyB.ext S t4) (kb_bool t4.mem) ?_
            rw [isB_ty t4] at q
            walk_at "rd"
            cases ey : (n4 == "bool")
            · rw [ey] at q
              show (if true = true then _ else _)
              walk_at "rd"
              exact q _ S
            · rw [ey] at q
              show (if false = true then _ else _)
              walk_at "rd"
              refine ⟨_, g, rfl, .inr (.inr ⟨rfl, gb, SeqR.ext S hg, fun H2 S2 => ?_⟩)⟩
              walk_at "rd"
              cases gb
              · show (if true = true then _ else _)
                walk_at "rd"
                exact q _ (Same.trans S S2)
              · show (if false = true then _ else _)
                walk_at "rd"
                exact q _ (Same.trans S S2)
        · rw [e3] at q
          walk_at "rd"
          show (if true = true then _ else _)
          walk_at "rd"
          exact q H S
      · rw [decide_eq_false hpn]
        rw [decide_eq_false hpn] at q
        show (if true = true then _ else _)
        walk_at "rd"
        refine ⟨rfl, ?_⟩
        walk_at "rd"
        rw [decide_eq_false hen]
        show (if false = true then _ else _)
        walk_at "rd"
        show (if true = true then _ else _)
        walk_at "rd"
        exact q H S
end
end K2

namespace K2
open PySem PySem.Spec PyProof.Rows L2 Mc
/-! ### a policy as data -/
inductive En where
  | go | deadline | stop (d : Int)
def En.vs : En → List V
  | .go => [.str sGo]
  | .deadline => [.str sDeadline]
  | .stop d => [.str sStop, .int d]
def En.ds : En → List PyData
  | .go => [.str sGo]
  | .deadline => [.str sDeadline]
  | .stop d => [.str sStop, .int d]
def En.ok : En → Prop
  | .stop d => 0 ≤ d ∧ d ≤ 20
  | _ => True
structure Pol where
  z : Str
  l : Int
  t : Int
  ps : List Int
  e : Option Int
  b : Bool
  g : En
def eV : Option Int → V
  | none => .non
  | some i => .int i
def eD : Option Int → PyData
  | none => .none
  | some i => .int i
def Pol.ds (q : Pol) : List PyData := [.str q.z, .int q.l, .int q.t, .tuple (q.ps.map .int), eD q.e, .bool q.b, .tuple q.g.ds]
def Pol.vs (q : Pol) (pa ga : Addr) : List V := [.str q.z, .int q.l, .int q.t, .ref pa, eV q.e, .bl q.b, .ref ga]
structure Pol.ok (q : Pol) : Prop where
  nm : isNm q.z = true
  nl : q.z.length ≤ 1000
  l1 : 1 ≤ q.l
  l2 : q.l ≤ 20
  t1 : 1 ≤ q.t
  t2 : q.t ≤ 3
  e1 : ∀ i, q.e = some i → 2 ≤ q.t ∧ 1 ≤ i ∧ i ≤ 20 ∧ q.ps = []
  e0 : q.e = none → (q.ps.length : Int) = q.t - 1 ∧ ∀ i ∈ q.ps, 0 ≤ i ∧ i ≤ 8
  g1 : q.g.ok
def pfs (n l t p e y g : V) : List (Str × V) := [("_name", n), ("_limit", l), ("_tries", t), ("_pauses", p), ("_early", e), ("_lossy", y), ("_ending", g)]
def Pol.fs (q : Pol) (pa ga : Addr) : List (Str × V) := pfs (.str q.z) (.int q.l) (.int q.t) (.ref pa) (eV q.e) (.bl q.b) (.ref ga)
structure Tups (K : PySem.W.Frag) (H : Hp) (q : Pol) (pa ga : Addr) : Prop where
  p : TupV K H pa (q.ps.map V.int)
  g : TupV K H ga q.g.vs
theorem Tups.ext {K : PySem.W.Frag} {H H' : Hp} {q : Pol} {pa ga : Addr} (e : Same H H') (h : Tups K H q pa ga) : Tups K H' q pa ga := ⟨TupV.ext e h.p, TupV.ext e h.g⟩
def PolAt (K : PySem.W.Frag) (C : Addr) (H : Hp) (a : Addr) (q : Pol) : Prop := ∃ dx pa ga, H a = some (.ins C dx (q.fs pa ga)) ∧ Tups K H q pa ga
theorem PolAt.ext {K : PySem.W.Frag} {C : Addr} {H H' : Hp} {a : Addr} {q : Pol} (e : Same H H') (h : PolAt K C H a q) : PolAt K C H' a q := by
  obtain ⟨dx, pa, ga, h1, h2⟩ := h
  exact ⟨dx, pa, ga, e _ _ h1, h2.ext e⟩

theorem endOk_ok {g : En} (h : g.ok) : endOk g.vs = true := by
  cases g with
  | go => decide +kernel
  | deadline => decide +kernel
  | stop d =>
    have h1 : 0 ≤ d := h.1
    have h2 : d ≤ 20 := h.2
    simp [En.vs, endOk, btw, h1, h2]
theorem typed_en {K : PySem.W.Frag} {H : Hp} {g : En} : Typed K H g.vs := by
  intro x hx
  cases g <;> simp [En.vs] at hx
  · subst hx; exact ⟨_, .str _⟩
  · subst hx; exact ⟨_, .str _⟩
  · rcases hx with rfl | rfl
    · exact ⟨_, .str _⟩
    · exact ⟨_, .int _⟩
theorem en_len {g : En} : g.vs.length ≤ 1000 := by cases g <;> simp [En.vs]
theorem typed_ints {K : PySem.W.Frag} {H : Hp} {ns : List Int} : Typed K H (ns.map V.int) := by
  intro x hx
  obtain ⟨i, _, rfl⟩ := List.mem_map.mp hx
  exact ⟨_, .int i⟩
theorem dp_ints {K : PySem.W.Frag} {H : Hp} : ∀ ns : List Int, DpAll K H (ns.map V.int) (ns.map PyData.int)
  | [] => .nil
  | i :: r => .cons (.int i) (dp_ints r)
theorem dp_en {K : PySem.W.Frag} {H : Hp} {g : En} : DpAll K H g.vs g.ds := by
  cases g with
  | go => exact .cons (.str _) .nil
  | deadline => exact .cons (.str _) .nil
  | stop d => exact .cons (.str _) (.cons (.int _) .nil)
theorem dp_e {K : PySem.W.Frag} {H : Hp} {e : Option Int} : Dp K H (eV e) (eD e) := by
  cases e with
  | none => exact .non
  | some i => exact .int i
theorem dp_pol {K : PySem.W.Frag} {H : Hp} {q : Pol} {pa ga : Addr} (h : Tups K H q pa ga) : DpAll K H (q.vs pa ga) q.ds :=
  .cons (.str _) (.cons (.int _) (.cons (.int _) (.cons (.tup h.p.sq (dp_ints _)) (.cons dp_e (.cons (.bl _) (.cons (.tup h.g.sq dp_en) .nil))))))

section
variable {P : Program} {w : World} {K : PySem.W.Frag} {mg : Str → Option Value} {base : Heap}
local macro_rules | `(tactic| walk_at "rd1") => `(tactic| first
  | with_reducible refine g_seq ?_
  | with_reducible refine g_asg ?_
  | with_reducible refine g_name ?_
  | with_reducible refine g_c ?_
  | with_reducible refine g_op ?_
  | with_reducible refine g_ifS ?_
  | with_reducible refine g_if ?_
  | with_reducible refine g_test ?_
  | with_reducible refine g_B ?_
  | with_reducible refine g_bl ?_
  | with_reducible refine g_blV ?_
  | with_reducible refine g_not ?_
  | with_reducible refine g_and ?_
  | with_reducible refine g_or ?_
  | with_reducible refine g_notV ?_
  | with_reducible refine g_andV ?_
  | with_reducible refine g_orV ?_
  | with_reducible refine g_ret ?_
  | with_reducible refine g_drop ?_
  | with_reducible refine g_next ?_
  | with_reducible refine g_retN ?_
  | with_reducible refine g_call ?_
  | with_reducible refine g_cb ?_
  | with_reducible refine g_cons ?_
  | with_reducible refine g_nil ?_
  | with_reducible refine g_tup ?_
  | with_reducible refine g_lst ?_
  | with_reducible refine g_prop ?_
  | with_reducible refine g_fld ?_
  | with_reducible refine g_meth ?_
  | with_reducible refine g_chain ?_
  | with_reducible refine g_yes ?_
  | with_reducible refine g_make ?_
  | with_reducible refine g_makeK ?_
  | with_reducible refine g_gsub ?_
  | with_reducible refine g_sfld ?_
  | with_reducible refine g_un ?_
  | with_reducible refine g_bm ?_
  | with_reducible refine g_iteT ?_
  | with_reducible refine g_iteF ?_
  | with_reducible refine g_I0 ?_
  | with_reducible refine g_add ?_
  | with_reducible refine g_sub ?_
  | ((with_reducible refine' g_var ?hv ?_); (case hv => rfl))
  | ((with_reducible refine g_eq ?hv ?_); (case hv => rfl))
  | ((with_reducible refine g_ne ?hv ?_); (case hv => rfl)))
local macro_rules | `(tactic| walk_at "rd") => `(tactic| repeat (walk_at "rd1"))

local macro_rules | `(tactic| walk_at "ty") => `(tactic| first | exact .non | exact .bl _ | exact .int _ | exact .str _ | exact .lst (by assumption) | exact .tup (by assumption) | exact .dK (by assumption) | exact .kTup (by assumption) (by assumption))
local macro_rules | `(tactic| walk_at "isiF") => `(tactic| refine g_isi (by walk_at "ty") (b := false) (by decide +kernel) ?_)
local macro_rules | `(tactic| walk_at "isiT") => `(tactic| refine g_isi (by walk_at "ty") (b := true) (by decide +kernel) ?_)

structure CTxt (K : PySem.W.Frag) (C : Addr) : Prop where
  cl : Cls K C
  n1 : NoAttr K C "_name"
  n2 : NoAttr K C "_limit"
  n3 : NoAttr K C "_tries"
  n4 : NoAttr K C "_pauses"
  n5 : NoAttr K C "_early"
  n6 : NoAttr K C "_lossy"
  n7 : NoAttr K C "_ending"
theorem pf_skip {f h : Str} {v x : V} {r : List (Str × V)} (n : ¬ h = f) : putF f v ((h, x) :: r) = (h, x) :: putF f v r := if_neg n
theorem pf_nil {f : Str} {v : V} : putF f v [] = [(f, v)] := rfl
theorem pf_all {n l t p e y g : V} : putF "_ending" g (putF "_lossy" y (putF "_early" e (putF "_pauses" p (putF "_tries" t (putF "_limit" l (putF "_name" n [])))))) = pfs n l t p e y g := by
  unfold pfs
  rw [pf_nil]
  rw [pf_skip (f := "_limit") (h := "_name") (by decide +kernel)]
  rw [pf_nil]
  rw [pf_skip (f := "_tries") (h := "_name") (by decide +kernel)]
  rw [pf_skip (f := "_tries") (h := "_limit") (by decide +kernel)]
  rw [pf_nil]
  rw [pf_skip (f := "_pauses") (h := "_name") (by decide +kernel)]
  rw [pf_skip (f := "_pauses") (h := "_limit") (by decide +kernel)]
  rw [pf_skip (f := "_pauses") (h := "_tries") (by decide +kernel)]
  rw [pf_nil]
  rw [pf_skip (f := "_early") (h := "_name") (by decide +kernel)]
  rw [pf_skip (f := "_early") (h := "_limit") (by decide +kernel)]
  rw [pf_skip (f := "_early") (h := "_tries") (by decide +kernel)]
  rw [pf_skip (f := "_early") (h := "_pauses") (by decide +kernel)]
  rw [pf_nil]
  rw [pf_skip (f := "_lossy") (h := "_name") (by decide +kernel)]
  rw [pf_skip (f := "_lossy") (h := "_limit") (by decide +kernel)]
  rw [pf_skip (f := "_lossy") (h := "_tries") (by decide +kernel)]
  rw [pf_skip (f := "_lossy") (h := "_pauses") (by decide +kernel)]
  rw [pf_skip (f := "_lossy") (h := "_early") (by decide +kernel)]
  rw [pf_nil]
  rw [pf_skip (f := "_ending") (h := "_name") (by decide +kernel)]
  rw [pf_skip (f := "_ending") (h := "_limit") (by decide +kernel)]
  rw [pf_skip (f := "_ending") (h := "_tries") (by decide +kernel)]
  rw [pf_skip (f := "_ending") (h := "_pauses") (by decide +kernel)]
  rw [pf_skip (f := "_ending") (h := "_early") (by decide +kernel)]
  rw [pf_skip (f := "_ending") (h := "_lossy") (by decide +kernel)]
  rw [pf_nil]
def spInit (K : PySem.W.Frag) (C : Addr) : Sp := fun vs H Q _ => ∃ x dx q p ga, vs = [.ref x, .str q.z, .int q.l, .int q.t, p, eV q.e, .bl q.b, .ref ga] ∧ q.ok ∧ H x = some (.ins C dx []) ∧ TupV K H ga q.g.vs ∧
  ((p = .non ∧ (q.e = none → q.ps = List.replicate (q.t - 1).toNat 0)) ∨ (q.e = none ∧ ∃ pa, p = .ref pa ∧ TupV K H pa (q.ps.map V.int))) ∧
  ∀ H', PolAt K C H' x q → (∀ b o, H b = some o → b ≠ x → H' b = some o) → Q .non H'
theorem all_btw {ns : List Int} (h : ∀ i ∈ ns, 0 ≤ i ∧ i ≤ 8) : (ns.map V.int).all (fun x => btw x 0 8) = true := by
  rw [List.all_map, List.all_eq_true]
  intro i hi
  show (decide (0 ≤ i) && decide (i ≤ 8)) = true
  rw [decide_eq_true (h i hi).1, decide_eq_true (h i hi).2]
  rfl
theorem wf_ok {q : Pol} {p : V} (ok : q.ok) (hp : p = .non ∨ q.e = none) : wfV (.int q.l) (.int q.t) p (eV q.e) (.bl q.b) true true = .non := by
  unfold wfV
  have a1 : btw (.int q.l) 1 20 = true := by show (decide _ && decide _) = true; rw [decide_eq_true ok.l1, decide_eq_true ok.l2]; rfl
  have a2 : btw (.int q.t) 1 3 = true := by show (decide _ && decide _) = true; rw [decide_eq_true ok.t1, decide_eq_true ok.t2]; rfl
  rw [a1, a2, if_pos rfl, if_pos rfl]
  have a3 : (!decide (p = .non) && !(decide (eV q.e = .non) && true)) = false := by
    rcases hp with rfl | h
    · simp
    · rw [h]
      simp [eV]
  have a4 : (!decide (eV q.e = .non) && !(gt1 (.int q.t) && btw (eV q.e) 1 20)) = false := by
    cases he : q.e with
    | none => simp [eV]
    | some i =>
      obtain ⟨h1, h2, h3, _⟩ := ok.e1 i he
      have b1 : gt1 (.int q.t) = true := decide_eq_true (by omega)
      have b2 : btw (eV (some i)) 1 20 = true := by show (decide _ && decide _) = true; rw [decide_eq_true h2, decide_eq_true h3]; rfl
      rw [b1, b2]
      simp
  rw [a3, a4]
  rfl
theorem lenP {k : Nat} {f : Str} {v : V} : ∀ {fs : List (Str × V)}, fs.length ≤ k → (putF f v fs).length ≤ k + 1
  | [], _ => by show 1 ≤ k + 1; omega
  | (h, x) :: r, hk => by
    by_cases e : h = f
    · have q : putF f v ((h, x) :: r) = (h, v) :: r := if_pos e
      rw [q]
      simp at hk ⊢
      omega
    · rw [pf_skip e]
      cases k with
      | zero => simp at hk
      | succ k =>
        have := lenP (k := k) (f := f) (v := v) (fs := r) (by simpa using hk)
        simp
        exact this
theorem ltP (k : Nat) {fs : List (Str × V)} (h : fs.length ≤ k) (hk : k < 1000) : fs.length < 1000 := Nat.lt_of_le_of_lt h hk
theorem TupV.put {H : Hp} {x C dx a : Addr} {fs : List (Str × V)} {xs : List V} {o : HO} (hx : H x = some (.ins C dx fs)) (h : TupV K H a xs) : TupV K (upd H x o) a xs := by
  have off : ∀ {b : Addr} {u : HO}, H b = some u → (∀ C' d' f', u ≠ .ins C' d' f') → upd H x o b = some u := fun {b u} hb hu => by
    rw [upd_ne (fun e => by rw [e, hx] at hb; exact hu _ _ _ (Option.some.inj hb).symm)]
    exact hb
  obtain ⟨ty, sq⟩ := h
  constructor
  · generalize hn : "tuple" = n at ty
    cases ty with
    | tup e => exact .tup (off e (by intro _ _ _ z; cases z))
    | kTup e c => exact .kTup e c
    | lst e => exact absurd hn (by decide)
    | dK e => exact absurd hn (by decide)
  · rcases sq with (h | ⟨ob, h⟩) | h
    · exact .inl (.inl (off h (by intro _ _ _ z; cases z)))
    · exact .inl (.inr ⟨ob, off h (by intro _ _ _ z; cases z)⟩)
    · exact .inr h

abbrev kwsP (go : Addr) : List (Str × V) := [("tries", .int 1), ("pauses", .non), ("early", .non), ("lossy", .bl false), ("ending", .ref go)]
abbrev psP : List Str := ["self", "name", "limit", "tries", "pauses", "early", "lossy", "ending"]
theorem ok_init {f C go : Addr} {fd : FuncData} (F : FunD K "__init__" "Policy.__init__" (defArgs s_Policyinit) (defBody s_Policyinit) (defScope s_Policyinit) [] (kwsP go) f fd) (T : Txt K mg) (TC : CTxt K C)
    (c_is_name : Cal P w K mg base 1 "is_name" (spName K)) (c_wrong_field : Cal P w K mg base 5 "_wrong_field" (spWrong K)) (c_all_pauses : Cal P w K mg base 1 "_all_pauses" (spAll K)) :
    FnOk P w K mg base CX0 6 f fd psP (spInit K C) := by
  refine F.ok sc_Policyinit (fun vs H Q E h => ?_) (fun cdv A outer s H vs Q E hr h => ?_)
  · obtain ⟨x, dx, q, p, ga, rfl, _⟩ := h
    rfl
  · obtain ⟨x, dx, q, p, ga, rfl, ok, hx, tg, hp, k⟩ := h
    refine ⟨_, (pss_cons (ps_if (pt_not (pt_val (pe_f c_is_name hr (by decide) (by rfl) (pa_cons (pv 1) pa_nil)))) (pss_one ps_never) pss_nil)
      (pss_cons (ps_set (i := 8) sc_Policyinit.nd rfl (Or.inl rfl) (pe_f c_wrong_field hr (by decide) (by rfl) (pa_cons (pv 2) (pa_cons (pv 3) (pa_cons (pv 4) (pa_cons (pv 5) (pa_cons (pv 6) (pa_cons (pv 7) pa_nil))))))))
      (pss_cons (ps_if (pt_cmpR op_notN (pv 8) pe_non (nomark _)) (pss_one ps_never) pss_nil)
      (pss_cons (ps_fld (pv 0) (pv 1) rfl)
      (pss_cons (ps_fld (pv 0) (pv 2) rfl)
      (pss_cons (ps_fld (pv 0) (pv 3) rfl)
      (pss_cons (ps_fld (pv 0) (pe_f c_all_pauses hr (by decide) (by rfl) (pa_cons (pv 3) (pa_cons (pv 4) (pa_cons (pv 5) pa_nil)))) rfl)
      (pss_cons (ps_fld (pv 0) (pv 5) rfl)
      (pss_cons (ps_fld (pv 0) (pv 6) rfl)
      (pss_one (ps_fld (pv 0) (pv 7) rfl))))))))))), ?_⟩
    walk_at "rd"
    refine ⟨.str q.z, _, rfl, .str _, fun z e => by injection e with e; rw [← e]; exact ok.nl, fun H1 S1 => ?_⟩
    walk_at "rd"
    have e1 : nmV (.str q.z) = true := ok.nm
    rw [e1]
    show (if false = true then _ else _)
    walk_at "rd"
    have te : ∃ n, TyB K H1 (eV q.e) n := by
      cases q.e with
      | none => exact ⟨_, .non⟩
      | some i => exact ⟨_, .int i⟩
    obtain ⟨ne, te⟩ := te
    have hpp : p = .non ∨ q.e = none := hp.elim (fun h => .inl h.1) (fun h => .inr h.1)
    -- what the pauses are
    have sp : ∃ pb, (∀ i, V.int q.t = V.int i → SeqR K H1 p (fun xs => arePz xs i) pb) ∧ wfV (.int q.l) (.int q.t) p (eV q.e) (.bl q.b) pb true = .non := by
      rcases hp with ⟨rfl, _⟩ | ⟨he, pa, rfl, tp⟩
      · refine ⟨false, fun i _ => .inl ⟨_, .non, by decide, rfl⟩, ?_⟩
        have := wf_ok (p := .non) ok (.inl rfl)
        unfold wfV at this ⊢
        simpa using this
      · refine ⟨true, fun i hi => ?_, wf_ok ok (.inr he)⟩
        injection hi with hi
        subst hi
        obtain ⟨hl, hb⟩ := ok.e0 he
        refine .inr ⟨pa, _, rfl, TupV.ext S1 tp, typed_ints, ?_, ?_⟩
        · rw [List.length_map]
          have := ok.t2
          omega
        · show true = (decide (V.int (((q.ps.map V.int).length : Nat) : Int) = V.int (q.t - 1)) && (q.ps.map V.int).all fun x => btw x 0 8)
          rw [all_btw hb, List.length_map, hl]
          simp
    obtain ⟨pb, sp, hw⟩ := sp
    refine ⟨_, _, p, _, _, _, "int", "int", ne, "bool", pb, true, rfl, .int _, .int _, te, .bl _, sp, .inr ⟨ga, _, rfl, TupV.ext S1 tg, typed_en, en_len, (endOk_ok ok.g1).symm⟩, fun H2 S2 => ?_⟩
    rw [hw]
    walk_at "rd"
    refine ⟨rfl, ?_⟩
    walk_at "rd"
    show (if false = true then _ else _)
    walk_at "rd"
    have S := Same.trans S1 S2
    refine ⟨x, C, dx, _, rfl, S _ _ hx, TC.cl, TC.n1, (by show 0 < 1000; decide), ?_⟩
    walk_at "rd"
    refine ⟨x, C, dx, _, rfl, upd_same, TC.cl, TC.n2, (by show 1 < 1000; decide), ?_⟩
    walk_at "rd"
    refine ⟨x, C, dx, _, rfl, upd_same, TC.cl, TC.n3, ltP 2 (lenP (lenP (Nat.zero_le _))) (by decide), ?_⟩
    walk_at "rd"
    have hx2 := S _ _ hx
    refine ⟨q.t, p, eV q.e, rfl, ok.t1, (by have := ok.t2; omega), fun he b H3 S3 hb => ?_, fun he hp0 b H3 S3 hb => ?_, fun he hp0 => ?_⟩
    · have eps : q.ps = [] := by
        cases e : q.e with
        | none => rw [e] at he; exact absurd rfl he
        | some i => exact (ok.e1 i e).2.2.2
      have tb : TupV K H3 b (q.ps.map V.int) := by rw [eps]; exact ⟨.tup hb, SqT.of hb⟩
      have tga : TupV K H3 ga q.g.vs := TupV.ext S3 (TupV.put upd_same (TupV.put upd_same (TupV.put hx2 (TupV.ext S tg))))
      walk_at "rd"
      refine ⟨x, C, dx, _, rfl, S3 _ _ upd_same, TC.cl, TC.n4, ltP 3 (lenP (lenP (lenP (Nat.zero_le _)))) (by decide), ?_⟩
      walk_at "rd"
      refine ⟨x, C, dx, _, rfl, upd_same, TC.cl, TC.n5, ltP 4 (lenP (lenP (lenP (lenP (Nat.zero_le _))))) (by decide), ?_⟩
      walk_at "rd"
      refine ⟨x, C, dx, _, rfl, upd_same, TC.cl, TC.n6, ltP 5 (lenP (lenP (lenP (lenP (lenP (Nat.zero_le _)))))) (by decide), ?_⟩
      walk_at "rd"
      refine ⟨x, C, dx, _, rfl, upd_same, TC.cl, TC.n7, ltP 6 (lenP (lenP (lenP (lenP (lenP (lenP (Nat.zero_le _))))))) (by decide), ?_⟩
      rw [pf_all]
      refine k _ ⟨dx, b, ga, upd_same, ?_⟩ (fun c o hc hn => ?_)
      · exact ⟨TupV.put upd_same (TupV.put upd_same (TupV.put upd_same (TupV.put (S3 _ _ upd_same) tb))), TupV.put upd_same (TupV.put upd_same (TupV.put upd_same (TupV.put (S3 _ _ upd_same) tga)))⟩
      · rw [upd_ne hn, upd_ne hn, upd_ne hn, upd_ne hn]
        refine S3 _ _ ?_
        rw [upd_ne hn, upd_ne hn, upd_ne hn]
        exact S _ _ hc
    · have eps : q.ps = List.replicate (q.t - 1).toNat 0 := by
        rcases hp with ⟨_, h⟩ | ⟨_, pa, h, _⟩
        · refine h ?_
          cases e : q.e with
          | none => rfl
          | some i => rw [e] at he; exact absurd he (by intro z; cases z)
        · rw [hp0] at h
          cases h
      have hb' : H3 b = some (.tup (q.ps.map V.int)) := by rw [hb, eps, List.map_replicate]
      have tb : TupV K H3 b (q.ps.map V.int) := ⟨.tup hb', SqT.of hb'⟩
      have tga : TupV K H3 ga q.g.vs := TupV.ext S3 (TupV.put upd_same (TupV.put upd_same (TupV.put hx2 (TupV.ext S tg))))
      walk_at "rd"
      refine ⟨x, C, dx, _, rfl, S3 _ _ upd_same, TC.cl, TC.n4, ltP 3 (lenP (lenP (lenP (Nat.zero_le _)))) (by decide), ?_⟩
      walk_at "rd"
      refine ⟨x, C, dx, _, rfl, upd_same, TC.cl, TC.n5, ltP 4 (lenP (lenP (lenP (lenP (Nat.zero_le _))))) (by decide), ?_⟩
      walk_at "rd"
      refine ⟨x, C, dx, _, rfl, upd_same, TC.cl, TC.n6, ltP 5 (lenP (lenP (lenP (lenP (lenP (Nat.zero_le _)))))) (by decide), ?_⟩
      walk_at "rd"
      refine ⟨x, C, dx, _, rfl, upd_same, TC.cl, TC.n7, ltP 6 (lenP (lenP (lenP (lenP (lenP (lenP (Nat.zero_le _))))))) (by decide), ?_⟩
      rw [pf_all]
      refine k _ ⟨dx, b, ga, upd_same, ?_⟩ (fun c o hc hn => ?_)
      · exact ⟨TupV.put upd_same (TupV.put upd_same (TupV.put upd_same (TupV.put (S3 _ _ upd_same) tb))), TupV.put upd_same (TupV.put upd_same (TupV.put upd_same (TupV.put (S3 _ _ upd_same) tga)))⟩
      · rw [upd_ne hn, upd_ne hn, upd_ne hn, upd_ne hn]
        refine S3 _ _ ?_
        rw [upd_ne hn, upd_ne hn, upd_ne hn]
        exact S _ _ hc
    · rcases hp with ⟨h, _⟩ | ⟨_, b, h, tp⟩
      · exact absurd h hp0
      · subst h
        have tb0 := (TupV.put (o := (.ins C dx (putF "_tries" (.int q.t) (putF "_limit" (.int q.l) (putF "_name" (.str q.z) []))))) upd_same (TupV.put (o := (.ins C dx (putF "_limit" (.int q.l) (putF "_name" (.str q.z) [])))) upd_same (TupV.put (o := (.ins C dx (putF "_name" (.str q.z) []))) hx2 (TupV.ext S tp))))
        obtain ⟨H3, hH3⟩ : ∃ H3, H3 = (upd (upd (upd H2 x (.ins C dx (putF "_name" (.str q.z) []))) x (.ins C dx (putF "_limit" (.int q.l) (putF "_name" (.str q.z) [])))) x (.ins C dx (putF "_tries" (.int q.t) (putF "_limit" (.int q.l) (putF "_name" (.str q.z) []))))) := ⟨_, rfl⟩
        have S3 : Same (upd (upd (upd H2 x (.ins C dx (putF "_name" (.str q.z) []))) x (.ins C dx (putF "_limit" (.int q.l) (putF "_name" (.str q.z) [])))) x (.ins C dx (putF "_tries" (.int q.t) (putF "_limit" (.int q.l) (putF "_name" (.str q.z) []))))) H3 := by rw [hH3]; exact Same.refl _
        rw [← hH3] at tb0 ⊢
        have tb := tb0
        have tga : TupV K H3 ga q.g.vs := TupV.ext S3 (TupV.put upd_same (TupV.put upd_same (TupV.put hx2 (TupV.ext S tg))))
        walk_at "rd"
        refine ⟨x, C, dx, _, rfl, S3 _ _ upd_same, TC.cl, TC.n4, ltP 3 (lenP (lenP (lenP (Nat.zero_le _)))) (by decide), ?_⟩
        walk_at "rd"
        refine ⟨x, C, dx, _, rfl, upd_same, TC.cl, TC.n5, ltP 4 (lenP (lenP (lenP (lenP (Nat.zero_le _))))) (by decide), ?_⟩
        walk_at "rd"
        refine ⟨x, C, dx, _, rfl, upd_same, TC.cl, TC.n6, ltP 5 (lenP (lenP (lenP (lenP (lenP (Nat.zero_le _)))))) (by decide), ?_⟩
        walk_at "rd"
        refine ⟨x, C, dx, _, rfl, upd_same, TC.cl, TC.n7, ltP 6 (lenP (lenP (lenP (lenP (lenP (lenP (Nat.zero_le _))))))) (by decide), ?_⟩
        rw [pf_all]
        refine k _ ⟨dx, b, ga, upd_same, ?_⟩ (fun c o hc hn => ?_)
        · exact ⟨TupV.put upd_same (TupV.put upd_same (TupV.put upd_same (TupV.put (S3 _ _ upd_same) tb))), TupV.put upd_same (TupV.put upd_same (TupV.put upd_same (TupV.put (S3 _ _ upd_same) tga)))⟩
        · rw [upd_ne hn, upd_ne hn, upd_ne hn, upd_ne hn]
          refine S3 _ _ ?_
          rw [upd_ne hn, upd_ne hn, upd_ne hn]
          exact S _ _ hc
end
end K2

namespace K2
open PySem PySem.Spec PyProof.Rows L2 Mc Mx
section
variable {P : Program} {w : World} {K : PySem.W.Frag} {mg : Str → Option Value} {base : Heap}
local macro_rules | `(tactic| walk_at "rd1") => `(tactic| first
  | with_reducible refine g_seq ?_
  | with_reducible refine g_asg ?_
  | with_reducible refine g_name ?_
  | with_reducible refine g_c ?_
  | with_reducible refine g_op ?_
  | with_reducible refine g_ifS ?_
  | with_reducible refine g_if ?_
  | with_reducible refine g_test ?_
  | with_reducible refine g_B ?_
  | with_reducible refine g_bl ?_
  | with_reducible refine g_blV ?_
  | with_reducible refine g_not ?_
  | with_reducible refine g_and ?_
  | with_reducible refine g_or ?_
  | with_reducible refine g_notV ?_
  | with_reducible refine g_andV ?_
  | with_reducible refine g_orV ?_
  | with_reducible refine g_ret ?_
  | with_reducible refine g_drop ?_
  | with_reducible refine g_next ?_
  | with_reducible refine g_retN ?_
  | with_reducible refine g_call ?_
  | with_reducible refine g_cb ?_
  | with_reducible refine g_cons ?_
  | with_reducible refine g_nil ?_
  | with_reducible refine g_tup ?_
  | with_reducible refine g_lst ?_
  | with_reducible refine g_prop ?_
  | with_reducible refine g_fld ?_
  | with_reducible refine g_meth ?_
  | with_reducible refine g_chain ?_
  | with_reducible refine g_yes ?_
  | with_reducible refine g_make ?_
  | with_reducible refine g_makeK ?_
  | with_reducible refine g_gsub ?_
  | with_reducible refine g_sfld ?_
  | with_reducible refine g_un ?_
  | with_reducible refine g_bm ?_
  | with_reducible refine g_iteT ?_
  | with_reducible refine g_iteF ?_
  | with_reducible refine g_I0 ?_
  | with_reducible refine g_add ?_
  | with_reducible refine g_sub ?_
  | ((with_reducible refine' g_var ?hv ?_); (case hv => rfl))
  | ((with_reducible refine g_eq ?hv ?_); (case hv => rfl))
  | ((with_reducible refine g_ne ?hv ?_); (case hv => rfl)))
local macro_rules | `(tactic| walk_at "rd") => `(tactic| repeat (walk_at "rd1"))

local macro_rules | `(tactic| walk_at "ty") => `(tactic| first | exact .non | exact .bl _ | exact .int _ | exact .str _ | exact .lst (by assumption) | exact .tup (by assumption) | exact .dK (by assumption) | exact .kTup (by assumption) (by assumption))
local macro_rules | `(tactic| walk_at "isiF") => `(tactic| refine g_isi (by walk_at "ty") (b := false) (by decide +kernel) ?_)
local macro_rules | `(tactic| walk_at "isiT") => `(tactic| refine g_isi (by walk_at "ty") (b := true) (by decide +kernel) ?_)

theorem g_ost {σ : L2.St} {H : Hp} {D : Ends} {f : Str} {to te : TE} (q : te σ H fun y H1 => to σ H1 fun x H2 => ∃ a C : Addr, x = .ref a ∧ OexC K C ∧ PySem.W.findIn K (.ref C) f = some none ∧
  ((H2 a = some (exo a C none) ∧ ∀ dx, H2 dx = none → dx ≠ a → D.nx σ (upd (upd H2 dx (exd dx [(f, y)])) a (exo a C (some dx)))) ∨
    ∃ (dx : Addr) (fs : List (Str × V)), H2 a = some (exo a C (some dx)) ∧ H2 dx = some (exd dx fs) ∧ fs.length ≤ 900 ∧ D.nx σ (upd H2 dx (exd dx ((f, y) :: fs))))) : tOst K f to te D σ H := q
theorem ok_InvalidName {C f cda cc : Addr} {fd : FuncData} (D : SupD P K "__init__" "InvalidName.__init__" (defArgs s_InvalidNameinit) (defBody s_InvalidNameinit) (defScope s_InvalidNameinit) C f fd cda cc) (T : SupC P K mg C) (nf : PySem.W.findIn K (.ref C) "value" = some none) :
    FnOk P w K mg base CX0 1 f fd ["self", "value"] (spEx C "value") := by
  refine fn_sup D T sc_InvalidNameinit rfl rfl (by decide +kernel) (by decide +kernel) (fun vs H Q E h => ?_) (fun L => ⟨_, rfl⟩) (fun A outer s H vs Q E h => ?_)
  · obtain ⟨a, v, rfl, _⟩ := h
    rfl
  · obtain ⟨a, v, rfl, ha, q⟩ := h
    refine ⟨a, rfl, ha, _, pss_one (ps_ost (pv 0) (pv 1)), ?_⟩
    refine g_ost ?_
    walk_at "rd"
    exact ⟨a, C, rfl, T.ox, nf, .inl ⟨ha, q⟩⟩
theorem ok_InvalidPolicy {C f cda cc : Addr} {fd : FuncData} (D : SupD P K "__init__" "InvalidPolicy.__init__" (defArgs s_InvalidPolicyinit) (defBody s_InvalidPolicyinit) (defScope s_InvalidPolicyinit) C f fd cda cc) (T : SupC P K mg C) (nf : PySem.W.findIn K (.ref C) "field" = some none) :
    FnOk P w K mg base CX0 1 f fd ["self", "field"] (spEx C "field") := by
  refine fn_sup D T sc_InvalidPolicyinit rfl rfl (by decide +kernel) (by decide +kernel) (fun vs H Q E h => ?_) (fun L => ⟨_, rfl⟩) (fun A outer s H vs Q E h => ?_)
  · obtain ⟨a, v, rfl, _⟩ := h
    rfl
  · obtain ⟨a, v, rfl, ha, q⟩ := h
    refine ⟨a, rfl, ha, _, pss_one (ps_ost (pv 0) (pv 1)), ?_⟩
    refine g_ost ?_
    walk_at "rd"
    exact ⟨a, C, rfl, T.ox, nf, .inl ⟨ha, q⟩⟩
end
end K2

namespace K2
open PySem PySem.Spec PyProof.Rows L2 Mc Mx
section
variable {P : Program} {w : World} {K : PySem.W.Frag} {mg : Str → Option Value} {base : Heap}
local macro_rules | `(tactic| walk_at "rd1") => `(tactic| first
  | with_reducible refine g_seq ?_
  | with_reducible refine g_asg ?_
  | with_reducible refine g_name ?_
  | with_reducible refine g_c ?_
  | with_reducible refine g_op ?_
  | with_reducible refine g_ifS ?_
  | with_reducible refine g_if ?_
  | with_reducible refine g_test ?_
  | with_reducible refine g_B ?_
  | with_reducible refine g_bl ?_
  | with_reducible refine g_blV ?_
  | with_reducible refine g_not ?_
  | with_reducible refine g_and ?_
  | with_reducible refine g_or ?_
  | with_reducible refine g_notV ?_
  | with_reducible refine g_andV ?_
  | with_reducible refine g_orV ?_
  | with_reducible refine g_ret ?_
  | with_reducible refine g_drop ?_
  | with_reducible refine g_next ?_
  | with_reducible refine g_retN ?_
  | with_reducible refine g_call ?_
  | with_reducible refine g_cb ?_
  | with_reducible refine g_cons ?_
  | with_reducible refine g_nil ?_
  | with_reducible refine g_tup ?_
  | with_reducible refine g_lst ?_
  | with_reducible refine g_prop ?_
  | with_reducible refine g_fld ?_
  | with_reducible refine g_meth ?_
  | with_reducible refine g_chain ?_
  | with_reducible refine g_yes ?_
  | with_reducible refine g_make ?_
  | with_reducible refine g_makeK ?_
  | with_reducible refine g_gsub ?_
  | with_reducible refine g_sfld ?_
  | with_reducible refine g_un ?_
  | with_reducible refine g_bm ?_
  | with_reducible refine g_iteT ?_
  | with_reducible refine g_iteF ?_
  | with_reducible refine g_I0 ?_
  | with_reducible refine g_add ?_
  | with_reducible refine g_sub ?_
  | ((with_reducible refine' g_var ?hv ?_); (case hv => rfl))
  | ((with_reducible refine g_eq ?hv ?_); (case hv => rfl))
  | ((with_reducible refine g_ne ?hv ?_); (case hv => rfl)))
local macro_rules | `(tactic| walk_at "rd") => `(tactic| repeat (walk_at "rd1"))

local macro_rules | `(tactic| walk_at "ty") => `(tactic| first | exact .non | exact .bl _ | exact .int _ | exact .str _ | exact .lst (by assumption) | exact .tup (by assumption) | exact .dK (by assumption) | exact .kTup (by assumption) (by assumption))
local macro_rules | `(tactic| walk_at "isiF") => `(tactic| refine g_isi (by walk_at "ty") (b := false) (by decide +kernel) ?_)
local macro_rules | `(tactic| walk_at "isiT") => `(tactic| refine g_isi (by walk_at "ty") (b := true) (by decide +kernel) ?_)

def spBad (K : PySem.W.Frag) (C CN CP : Addr) : Sp := fun vs H _ E => ∃ x dx nm l t p e y g n0, vs = [.ref x, nm, l, t, p, e, y, g] ∧ H x = some (.ins C dx []) ∧ TyB K H nm n0 ∧ (∀ z, nm = .str z → z.length ≤ 1000) ∧
  ((nmV nm = false ∧ ∀ d H', Same H H' → H' d = some (.xd [("value", nm)]) → E (.ref CN) (some d) H') ∨
   (nmV nm = true ∧ ∃ n1 n2 n3 n4 pb gb wd, TyB K H l n1 ∧ TyB K H t n2 ∧ TyB K H e n3 ∧ TyB K H y n4 ∧ (∀ i, t = .int i → SeqR K H p (fun xs => arePz xs i) pb) ∧ SeqR K H g endOk gb ∧ wfV l t p e y pb gb = .str wd ∧
     ∀ d H', Same H H' → H' d = some (.xd [("field", .str wd)]) → E (.ref CP) (some d) H'))
theorem ok_bad {f C go CN CP fN fP : Addr} {fd fdN fdP : FuncData} (F : FunD K "__init__" "Policy.__init__" (defArgs s_Policyinit) (defBody s_Policyinit) (defScope s_Policyinit) [] (kwsP go) f fd) (T : Txt K mg) (TC : CTxt K C)
    (c_is_name : Cal P w K mg base 1 "is_name" (spName K)) (c_wrong_field : Cal P w K mg base 5 "_wrong_field" (spWrong K)) (c_all_pauses : Cal P w K mg base 1 "_all_pauses" (spAll K))
    (TN : SupC P K mg CN) (TP : SupC P K mg CP) (EN : ExK P w K mg base "InvalidName" CN fN fdN ["self", "value"] (spEx CN "value")) (EP : ExK P w K mg base "InvalidPolicy" CP fP fdP ["self", "field"] (spEx CP "field")) :
    FnOk P w K mg base (CX P w) 6 f fd psP (spBad K C CN CP) := by
  refine F.ok sc_Policyinit (fun vs H Q E h => ?_) (fun cdv A outer s H vs Q E hr h => ?_)
  · obtain ⟨x, dx, nm, l, t, p, e, y, g, n0, rfl, _⟩ := h
    rfl
  · obtain ⟨x, dx, nm, l, t, p, e, y, g, n0, rfl, hx, tn, hz, h⟩ := h
    refine ⟨_, (pss_cons (ps_if (pt_not (pt_val (pe_f c_is_name hr (by decide) (by rfl) (pa_cons (pv 1) pa_nil)))) (pss_one (ps_raise rfl (takes_of rfl rfl rfl rfl) (pmk_oex TN.ox EN.iC EN.tI EN.ok (hr.mono (by decide)) EN.bi .nil pass0 (by rfl) EN.gl (pa_cons (pv 1) pa_nil)))) pss_nil)
      (pss_cons (ps_set (i := 8) sc_Policyinit.nd rfl (Or.inl rfl) (pe_f c_wrong_field hr (by decide) (by rfl) (pa_cons (pv 2) (pa_cons (pv 3) (pa_cons (pv 4) (pa_cons (pv 5) (pa_cons (pv 6) (pa_cons (pv 7) pa_nil))))))))
      (pss_cons (ps_if (pt_cmpR op_notN (pv 8) pe_non (nomark _)) (pss_one (ps_raise rfl (takes_of rfl rfl rfl rfl) (pmk_oex TP.ox EP.iC EP.tI EP.ok (hr.mono (by decide)) EP.bi .nil pass0 (by rfl) EP.gl (pa_cons (pv 8) pa_nil)))) pss_nil)
      (pss_cons (ps_fld (pv 0) (pv 1) rfl)
      (pss_cons (ps_fld (pv 0) (pv 2) rfl)
      (pss_cons (ps_fld (pv 0) (pv 3) rfl)
      (pss_cons (ps_fld (pv 0) (pe_f c_all_pauses hr (by decide) (by rfl) (pa_cons (pv 3) (pa_cons (pv 4) (pa_cons (pv 5) pa_nil)))) rfl)
      (pss_cons (ps_fld (pv 0) (pv 5) rfl)
      (pss_cons (ps_fld (pv 0) (pv 6) rfl)
      (pss_one (ps_fld (pv 0) (pv 7) rfl))))))))))), ?_⟩
    walk_at "rd"
    refine ⟨nm, n0, rfl, tn, hz, fun H1 S1 => ?_⟩
    walk_at "rd"
    rcases h with ⟨e1, k⟩ | ⟨e1, n1, n2, n3, n4, pb, gb, wd, t1, t2, t3, t4, hp, hg, hw, k⟩
    · rw [e1]
      show (if true = true then _ else _)
      walk_at "rd"
      refine g_mko ?_
      walk_at "rd"
      exact ex_as fun d H' S2 hd => k d H' (Same.trans S1 S2) hd
    · rw [e1]
      show (if false = true then _ else _)
      walk_at "rd"
      refine ⟨_, _, p, _, _, _, n1, n2, n3, n4, pb, gb, rfl, TyB.ext S1 t1, TyB.ext S1 t2, TyB.ext S1 t3, TyB.ext S1 t4, fun i hi => SeqR.ext S1 (hp i hi), SeqR.ext S1 hg, fun H2 S2 => ?_⟩
      rw [hw]
      walk_at "rd"
      refine ⟨rfl, ?_⟩
      walk_at "rd"
      rw [decide_eq_false (show ¬ (V.str wd = .non) from fun z => by cases z)]
      show (if true = true then _ else _)
      walk_at "rd"
      refine g_mko ?_
      walk_at "rd"
      exact ex_as fun d H' S3 hd => k d H' (Same.trans (Same.trans S1 S2) S3) hd
end
end K2

namespace K2
open PySem PySem.Spec PyProof.Rows L2 Mc Mx
section
variable {P : Program} {w : World} {K : PySem.W.Frag} {mg : Str → Option Value} {base : Heap}
local macro_rules | `(tactic| walk_at "rd1") => `(tactic| first
  | with_reducible refine g_seq ?_
  | with_reducible refine g_asg ?_
  | with_reducible refine g_name ?_
  | with_reducible refine g_c ?_
  | with_reducible refine g_op ?_
  | with_reducible refine g_ifS ?_
  | with_reducible refine g_if ?_
  | with_reducible refine g_test ?_
  | with_reducible refine g_B ?_
  | with_reducible refine g_bl ?_
  | with_reducible refine g_blV ?_
  | with_reducible refine g_not ?_
  | with_reducible refine g_and ?_
  | with_reducible refine g_or ?_
  | with_reducible refine g_notV ?_
  | with_reducible refine g_andV ?_
  | with_reducible refine g_orV ?_
  | with_reducible refine g_ret ?_
  | with_reducible refine g_drop ?_
  | with_reducible refine g_next ?_
  | with_reducible refine g_retN ?_
  | with_reducible refine g_call ?_
  | with_reducible refine g_cb ?_
  | with_reducible refine g_cons ?_
  | with_reducible refine g_nil ?_
  | with_reducible refine g_tup ?_
  | with_reducible refine g_lst ?_
  | with_reducible refine g_prop ?_
  | with_reducible refine g_fld ?_
  | with_reducible refine g_meth ?_
  | with_reducible refine g_chain ?_
  | with_reducible refine g_yes ?_
  | with_reducible refine g_make ?_
  | with_reducible refine g_makeK ?_
  | with_reducible refine g_gsub ?_
  | with_reducible refine g_sfld ?_
  | with_reducible refine g_un ?_
  | with_reducible refine g_bm ?_
  | with_reducible refine g_iteT ?_
  | with_reducible refine g_iteF ?_
  | with_reducible refine g_I0 ?_
  | with_reducible refine g_add ?_
  | with_reducible refine g_sub ?_
  | ((with_reducible refine' g_var ?hv ?_); (case hv => rfl))
  | ((with_reducible refine g_eq ?hv ?_); (case hv => rfl))
  | ((with_reducible refine g_ne ?hv ?_); (case hv => rfl)))
local macro_rules | `(tactic| walk_at "rd") => `(tactic| repeat (walk_at "rd1"))

local macro_rules | `(tactic| walk_at "ty") => `(tactic| first | exact .non | exact .bl _ | exact .int _ | exact .str _ | exact .lst (by assumption) | exact .tup (by assumption) | exact .dK (by assumption) | exact .kTup (by assumption) (by assumption))
local macro_rules | `(tactic| walk_at "isiF") => `(tactic| refine g_isi (by walk_at "ty") (b := false) (by decide +kernel) ?_)
local macro_rules | `(tactic| walk_at "isiT") => `(tactic| refine g_isi (by walk_at "ty") (b := true) (by decide +kernel) ?_)

abbrev FI (K : PySem.W.Frag) (go f : Addr) (fd : FuncData) : Prop := FunD K "__init__" "Policy.__init__" (defArgs s_Policyinit) (defBody s_Policyinit) (defScope s_Policyinit) [] (kwsP go) f fd
abbrev ksF : List Str := ["tries", "pauses", "early", "lossy", "ending"]
theorem kc_nil {α : Type} {D : Addr} {t : Sem α} {r : α} (h : t = pure r) : KwChain D [] t r := h
theorem kc_cons {α β γ : Type} {D : Addr} {n : Str} {v : Value} {l : List (Str × Value)} {t : Sem α} {r : α} {k1 : Option Value → Sem β} {k2 : β → Sem γ} {k3 : γ → Sem α} {a : β} (h : t = ((nsGet D n >>= k1) >>= k2) >>= k3) (h1 : k1 (some v) = pure a)
    (h2 : KwChain D l (k2 a >>= k3) r) : KwChain D ((n, v) :: l) t r := ⟨β, γ, k1, k2, k3, a, h, h1, h2⟩
theorem kb_full {go f : Addr} {fd : FuncData} (F : FI K go f fd) : KBn K fd psP 3 ksF (fun us ws => us ++ ws) (fun vs zs => vs ++ zs) := by
  obtain ⟨mv, h⟩ := F.kbinds0 (ps := psP) 3 ksF [] (fun vs mz zs => vs ++ zs) (by simp) (by simp) (fun a _ c => a.append c) (fun D doc pm an cdv ct us mv ws h1 h2 h3 => match us, mv, ws, h1, h2, h3 with
    | [_, _, _], [], [_, _, _, _, _], _, _, _ => kc_nil rfl)
  exact h
/-- a new instance and its dict leave what was tracked -/
theorem same_made {H H1 : Hp} {x dx C : Addr} (nx : H x = none) (nd : H dx = none) (k : ∀ b o, (upd (upd H dx (.own x)) x (.ins C dx [])) b = some o → b ≠ x → H1 b = some o) : Same H H1 := fun b o e =>
  k b o (by rw [upd_ne (ne_of_none e nx), upd_ne (ne_of_none e nd)]; exact e) (ne_of_none e nx)
theorem same_ins {H : Hp} {x dx C : Addr} (nx : H x = none) (nd : H dx = none) : Same H (upd (upd H dx (.own x)) x (.ins C dx [])) := fun b o e => by
  rw [upd_ne (ne_of_none e nx), upd_ne (ne_of_none e nd)]; exact e

theorem g_mkS {C : Addr} {n m : Nat} {sp : Sp} {gV : List V → List V → List V} {E : L2.St → XK} {t tk : TA} {σ : L2.St} {H : Hp} {Q : VK} (q : tMakeK C n m sp gV (E σ) t tk σ H Q) : tMakeKS C n m sp gV E t tk σ H Q := q
theorem g_xf {a : Addr} {cls : Value} {d : Option Addr} {C : Addr} {f : Str} {te : TE} {σ : L2.St} {H : Hp} {Q : VK} (q : te σ H fun x H1 => x = .ref a ∧ cls = .ref C ∧ ∃ (dd : Addr) (fs : List (Str × V)) (v : V), d = some dd ∧ H1 dd = some (.xd fs) ∧ fs.lookup f = some v ∧ Q v H1) : tXf a cls d C f te σ H Q := q
def spToldB (K : PySem.W.Frag) : Sp := fun vs H Q _ => ∃ r nm l t p e y g n0, vs = [nm, .ref r] ∧ SqL K H r [l, t, p, e, y, g] ∧ TyB K H nm n0 ∧ (∀ z, nm = .str z → z.length ≤ 1000) ∧
  ((nmV nm = false ∧ ∃ z : Str, ShowsV K H nm z ∧ (5 + z.length ≤ sizeLine) ∧ ∀ H', Same H H' → Q (.str ("name " ++ z)) H') ∨
   (nmV nm = true ∧ ∃ n1 n2 n3 n4 pb gb wd, TyB K H l n1 ∧ TyB K H t n2 ∧ TyB K H e n3 ∧ TyB K H y n4 ∧ (∀ i, t = .int i → SeqR K H p (fun xs => arePz xs i) pb) ∧ SeqR K H g endOk gb ∧ wfV l t p e y pb gb = .str wd ∧ ∀ H', Same H H' → Q (.str wd) H') ∨
   (∃ (q : Pol) (ga pa : Addr), nm = .str q.z ∧ l = .int q.l ∧ t = .int q.t ∧ p = .ref pa ∧ e = eV q.e ∧ y = .bl q.b ∧ g = .ref ga ∧ q.ok ∧ TupV K H ga q.g.vs ∧ q.e = none ∧ TupV K H pa (q.ps.map V.int) ∧ ∀ H', Same H H' → Q (.str "made") H'))
theorem ok_told {C go fI CN CP fN fP : Addr} {fdI fdN fdP : FuncData} (D : Def K mg "_law_told" s_law_told ["_law_name", "_law_row"]) (T : Txt K mg) (M : Mk K C fI) (gP : mg "Policy" = some (.ref C)) (F : FI K go fI fdI)
    (GI : FnOk P w K mg base (CX P w) 6 fI fdI psP (fun vs H Q E => spInit K C vs H Q E ∨ spBad K C CN CP vs H Q E))
    (EN : ExK P w K mg base "InvalidName" CN fN fdN ["self", "value"] (spEx CN "value")) (EP : ExK P w K mg base "InvalidPolicy" CP fP fdP ["self", "field"] (spEx CP "field"))
    (XN : XfC K CN) (XP : XfC K CP) (nfN : PySem.W.findIn K (.ref CN) "value" = some none) (nfP : PySem.W.findIn K (.ref CP) "field" = some none)
    (xNN : PySem.W.exmOne K (.ref CN) (.ref CN) = some true) (xPN : PySem.W.exmOne K (.ref CP) (.ref CN) = some false) (xPP : PySem.W.exmOne K (.ref CP) (.ref CP) = some true) : CalG P w K mg base 8 "_law_told" (spToldB K) := by
  have bF := kb_full F
  refine calG_of D sc_law_told (fun vs H Q E h => ?_) (fun f cdv A outer s H vs Q E hg hr h => ?_)
  · obtain ⟨r, nm, l, t, p, e, y, g, n0, rfl, _⟩ := h
    rfl
  · obtain ⟨r, nm, l, t, p, e, y, g, n0, rfl, hrow, tn, hz, h⟩ := h
    have hrI : Room 7 (A.deeper (envOfC "_law_told" (defScope s_law_told) s.heap.objs.size f cdv)) := hr
    have hu : (A.deeper (envOfC "_law_told" (defScope s_law_told) s.heap.objs.size f cdv)).units + 64 < cLine := hr.units
    have hg : (A.deeper (envOfC "_law_told" (defScope s_law_told) s.heap.objs.size f cdv)).guards = some [] := hg
    refine ⟨_, (pss_one (ps_try_mas rfl rfl sc_law_told.nd takes_none5 (fun W pn xe tk _ => (pss_cons (ps_expr (pe_makeKS M GI hrI (by rfl) gP bF (fun σ => passAt tk σ) (pa_cons (pv 0) (pa_cons (pe_ix (ix_listK (K := K) rfl) (pv 1) pe_int (fun _ _ => rfl)) pa_nil)) (pk_cons (pe_ix (ix_listK (K := K) rfl) (pv 1) pe_int (fun _ _ => rfl)) (pk_cons (pe_ix (ix_listK (K := K) rfl) (pv 1) pe_int (fun _ _ => rfl)) (pk_cons (pe_ix (ix_listK (K := K) rfl) (pv 1) pe_int (fun _ _ => rfl)) (pk_cons (pe_ix (ix_listK (K := K) rfl) (pv 1) pe_int (fun _ _ => rfl)) (pk_cons (pe_ix (ix_listK (K := K) rfl) (pv 1) pe_int (fun _ _ => rfl)) pk_nil)))))))
      (pss_one (ps_ret pe_str)))) (.cons (i := 2) rfl rfl ⟨rfl, by decide, .inl EN.gl⟩ (fun a oe cls d pn hz hf => (pss_one (ps_ret (pe_op op_add_str pe_str (pe_callB (call_reprA (K := K) hg hu rfl) (by rfl) T.n_repr (by decide +kernel) (pa_cons (pe_xf XN nfN hz hf (pv 2)) pa_nil)))))) (.cons (i := 2) rfl rfl ⟨rfl, by decide, .inl EP.gl⟩ (fun a oe cls d pn hz hf => (pss_one (ps_ret (pe_xf XP nfP hz hf (pv 2))))) .nil)))), ?_⟩
    walk_at "rd"
    refine g_mkS ?_
    walk_at "rd"
    refine g_ixL hrow (v := l) (atI_nat (j := 0) rfl) ?_
    walk_at "rd"
    refine g_ixL hrow (v := t) (atI_nat (j := 1) rfl) ?_
    walk_at "rd"
    refine g_ixL hrow (v := p) (atI_nat (j := 2) rfl) ?_
    walk_at "rd"
    refine g_ixL hrow (v := e) (atI_nat (j := 3) rfl) ?_
    walk_at "rd"
    refine g_ixL hrow (v := y) (atI_nat (j := 4) rfl) ?_
    walk_at "rd"
    refine g_ixL hrow (v := g) (atI_nat (j := 5) rfl) ?_
    walk_at "rd"
    refine ⟨rfl, rfl, fun x dx nx nd ne => ?_⟩
    have S0 : Same H _ := same_ins (C := C) nx nd
    rcases h with ⟨e1, z, hsh, hsz, k⟩ | ⟨e1, n1, n2, n3, n4, pb, gb, wd, t1, t2, t3, t4, hp, hgg, hw, k⟩ | ⟨q, ga, pa, rfl, rfl, rfl, rfl, rfl, rfl, rfl, ok, tg, he, tp, k⟩
    · refine .inr ⟨x, dx, nm, l, t, p, e, y, g, n0, rfl, upd_same, TyB.ext S0 tn, hz, .inl ⟨e1, fun d H' S hd => ?_⟩⟩
      refine ⟨true, xNN, fun _ a ha => ?_, fun z => nomatch z⟩
      walk_at "rd"
      refine g_xf ?_
      walk_at "rd"
      refine ⟨rfl, rfl, d, _, nm, rfl, hd, rfl, ?_⟩
      walk_at "rd"
      refine ⟨nm, z, rfl, hsh.ext (Same.trans S0 S), ?_⟩
      walk_at "rd"
      refine ⟨_, _, rfl, rfl, hsz, ?_⟩
      walk_at "rd"
      exact k H' (Same.trans S0 S)
    · refine .inr ⟨x, dx, nm, l, t, p, e, y, g, n0, rfl, upd_same, TyB.ext S0 tn, hz, .inr ⟨e1, n1, n2, n3, n4, pb, gb, wd, TyB.ext S0 t1, TyB.ext S0 t2, TyB.ext S0 t3, TyB.ext S0 t4, fun i hi => SeqR.ext S0 (hp i hi), SeqR.ext S0 hgg, hw, fun d H' S hd => ?_⟩⟩
      refine ⟨false, xPN, (fun z => nomatch z), fun _ => ⟨true, xPP, fun _ a ha => ?_, (fun z => nomatch z)⟩⟩
      walk_at "rd"
      refine g_xf ?_
      walk_at "rd"
      refine ⟨rfl, rfl, d, _, .str wd, rfl, hd, rfl, ?_⟩
      walk_at "rd"
      exact k H' (Same.trans S0 S)
    · refine .inl ⟨x, dx, q, .ref pa, ga, rfl, ok, upd_same, TupV.ext S0 tg, .inr ⟨he, pa, rfl, TupV.ext S0 tp⟩, fun H' pl fr => ⟨rfl, ?_⟩⟩
      walk_at "rd"
      exact k H' (same_made nx nd fr)
end
end K2

namespace K2
open PySem PySem.Spec PyProof.Rows L2 Mc
section
variable {P : Program} {w : World} {K : PySem.W.Frag} {mg : Str → Option Value} {base : Heap}
local macro_rules | `(tactic| walk_at "rd1") => `(tactic| first
  | with_reducible refine g_seq ?_
  | with_reducible refine g_asg ?_
  | with_reducible refine g_name ?_
  | with_reducible refine g_c ?_
  | with_reducible refine g_op ?_
  | with_reducible refine g_ifS ?_
  | with_reducible refine g_if ?_
  | with_reducible refine g_test ?_
  | with_reducible refine g_B ?_
  | with_reducible refine g_bl ?_
  | with_reducible refine g_blV ?_
  | with_reducible refine g_not ?_
  | with_reducible refine g_and ?_
  | with_reducible refine g_or ?_
  | with_reducible refine g_notV ?_
  | with_reducible refine g_andV ?_
  | with_reducible refine g_orV ?_
  | with_reducible refine g_ret ?_
  | with_reducible refine g_drop ?_
  | with_reducible refine g_next ?_
  | with_reducible refine g_retN ?_
  | with_reducible refine g_call ?_
  | with_reducible refine g_cb ?_
  | with_reducible refine g_cons ?_
  | with_reducible refine g_nil ?_
  | with_reducible refine g_tup ?_
  | with_reducible refine g_lst ?_
  | with_reducible refine g_prop ?_
  | with_reducible refine g_fld ?_
  | with_reducible refine g_meth ?_
  | with_reducible refine g_chain ?_
  | with_reducible refine g_yes ?_
  | with_reducible refine g_make ?_
  | with_reducible refine g_makeK ?_
  | with_reducible refine g_gsub ?_
  | with_reducible refine g_sfld ?_
  | with_reducible refine g_un ?_
  | with_reducible refine g_bm ?_
  | with_reducible refine g_iteT ?_
  | with_reducible refine g_iteF ?_
  | with_reducible refine g_I0 ?_
  | with_reducible refine g_add ?_
  | with_reducible refine g_sub ?_
  | ((with_reducible refine' g_var ?hv ?_); (case hv => rfl))
  | ((with_reducible refine g_eq ?hv ?_); (case hv => rfl))
  | ((with_reducible refine g_ne ?hv ?_); (case hv => rfl)))
local macro_rules | `(tactic| walk_at "rd") => `(tactic| repeat (walk_at "rd1"))

local macro_rules | `(tactic| walk_at "ty") => `(tactic| first | exact .non | exact .bl _ | exact .int _ | exact .str _ | exact .lst (by assumption) | exact .tup (by assumption) | exact .dK (by assumption) | exact .kTup (by assumption) (by assumption))
local macro_rules | `(tactic| walk_at "isiF") => `(tactic| refine g_isi (by walk_at "ty") (b := false) (by decide +kernel) ?_)
local macro_rules | `(tactic| walk_at "isiT") => `(tactic| refine g_isi (by walk_at "ty") (b := true) (by decide +kernel) ?_)

/-- all but the pool is as it was -/
def Sx (p : Addr) (H H' : Hp) : Prop := ∀ b o, b ≠ p → H b = some o → H' b = some o
theorem Sx.refl {p : Addr} (H : Hp) : Sx p H H := fun _ _ _ h => h
theorem Sx.trans {p : Addr} {H H1 H2 : Hp} (a : Sx p H H1) (b : Sx p H1 H2) : Sx p H H2 := fun c o hc h => b c o hc (a c o hc h)
theorem Same.sx {p : Addr} {H H' : Hp} (h : Same H H') : Sx p H H' := fun c o _ e => h c o e
def PoolAt (H : Hp) (p : Addr) : Prop := ∃ c z : Int, H p = some (.lst [.int c, .int z]) ∧ 0 ≤ c ∧ 0 ≤ z ∧ z < 2147483647
theorem PoolAt.ext {p : Addr} {H H' : Hp} (h : PoolAt H p) (e : Same H H') : PoolAt H' p := by
  obtain ⟨c, z, h1, h2⟩ := h
  exact ⟨c, z, e _ _ h1, h2⟩
theorem PoolAt.not {p a : Addr} {H : Hp} {o : HO} (h : PoolAt H p) (e : H a = some o) (n : ∀ xs, o ≠ .lst xs) : a ≠ p := by
  obtain ⟨c, z, h1, _⟩ := h
  intro q
  rw [q, h1] at e
  exact n _ (Option.some.inj e).symm
theorem TyB.sx {p : Addr} {H H' : Hp} {v : V} (pl : PoolAt H p) (e : Sx p H H') (h : TyB K H v "tuple") : TyB K H' v "tuple" := by
  generalize hn : "tuple" = n at h ⊢
  cases h with
  | tup z => exact .tup (e _ _ (pl.not z (by intro _ k; cases k)) z)
  | kTup z c => exact .kTup z c
  | lst z => exact absurd hn (by decide)
  | dK z => exact absurd hn (by decide)
  | non => exact absurd hn (by decide)
  | bl z => exact absurd hn (by decide)
  | int z => exact absurd hn (by decide)
  | str z => exact absurd hn (by decide)
theorem sqT_sx {p a : Addr} {H H' : Hp} {xs : List V} (pl : PoolAt H p) (e : Sx p H H') (h : SqT K H a xs) : SqT K H' a xs := by
  rcases h with (h | ⟨o, h⟩) | h
  · exact .inl (.inl (e _ _ (pl.not h (by intro _ k; cases k)) h))
  · exact .inl (.inr ⟨o, e _ _ (pl.not h (by intro _ k; cases k)) h⟩)
  · exact .inr h
theorem TupV.sx {p a : Addr} {H H' : Hp} {xs : List V} (pl : PoolAt H p) (e : Sx p H H') (h : TupV K H a xs) : TupV K H' a xs := ⟨TyB.sx pl e h.ty, sqT_sx pl e h.sq⟩
theorem PolAt.sx {p a C : Addr} {H H' : Hp} {q : Pol} (pl : PoolAt H p) (e : Sx p H H') (h : PolAt K C H a q) : PolAt K C H' a q := by
  obtain ⟨dx, pa, ga, h1, h2⟩ := h
  exact ⟨dx, pa, ga, e _ _ (pl.not h1 (by intro _ k; cases k)) h1, TupV.sx pl e h2.p, TupV.sx pl e h2.g⟩
theorem Sx.free {p a : Addr} {H H' : Hp} (pl' : PoolAt H' p) (e : Sx p H H') (h : H' a = none) : H a = none := by
  cases q : H a with
  | none => rfl
  | some o =>
    by_cases ha : a = p
    · obtain ⟨c, z, h1, _⟩ := pl'
      rw [ha, h1] at h
      cases h
    · rw [e a o ha q] at h
      cases h

def spPool (K : PySem.W.Frag) : Sp := fun vs H Q _ => ∃ (a : Addr) (k : Int) (ns : List Int), vs = [.ref a, .int k] ∧ SqL K H a (ns.map V.int) ∧ 0 ≤ k ∧ k ≤ 100 ∧ ∀ p H', H p = none → Same H H' → PoolAt H' p → Q (.ref p) H'
theorem ok_pool (T : Txt K mg) (D : Def K mg "_law_pool" s_law_pool ["_law_script", "_law_k"]) : Cal P w K mg base 1 "_law_pool" (spPool K) := by
  refine cal_of D sc_law_pool (fun vs H Q E h => ?_) (fun f cdv A outer s H vs Q E hr h => ?_)
  · obtain ⟨a, k, ns, rfl, _⟩ := h
    rfl
  · obtain ⟨a, k, ns, rfl, sq, k0, k1, q⟩ := h
    have hk1 : 7919 * k ≤ 791900 := by omega
    have hk2 : (7919 * k) * k ≤ 791900 * 100 := Int.mul_le_mul hk1 k1 k0 (by decide)
    have hk3 : 0 ≤ (7919 * k) * k := Int.mul_nonneg (by omega) k0
    refine ⟨_, (pss_cons (ps_set (i := 2) sc_law_pool.nd rfl (Or.inl rfl) pe_int)
      (pss_cons (ps_if (pt_cmpR op_lt (pv 1) (pe_callB call_len_seq (by rfl) T.n_len (by decide +kernel) (pa_cons (pv 0) pa_nil)) (nomark _)) (pss_one (ps_set (i := 2) sc_law_pool.nd rfl (Or.inl rfl) (pe_ix ix_list (pv 0) (pv 1) (fun _ _ => rfl)))) pss_nil)
      (pss_cons (ps_set (i := 3) sc_law_pool.nd rfl (Or.inl rfl) (pe_op op_mod (pe_op op_pow (pe_op op_add (pe_op op_add (pe_op op_mod (pe_callTy call_int1 (by rfl) T.n_int (by decide +kernel) (pa_cons (pv 2) pa_nil)) pe_int) (pe_op op_mul (pe_op op_mul pe_int (pv 1)) (pv 1))) pe_int) pe_int) pe_int))
      (pss_cons (ps_if (pt_cmpR op_lt (pv 2) (pe_op op_pow pe_int pe_int) (nomark _)) (pss_one (ps_set (i := 2) sc_law_pool.nd rfl (Or.inl rfl) pe_int)) pss_nil)
      (pss_one (ps_ret (pe_lst (pa_cons (pv 2) (pa_cons (pv 3) pa_nil))))))))), ?_⟩
    walk_at "rd"
    refine ⟨a, _, rfl, .inl sq, ?_⟩
    walk_at "rd"
    refine g_ite (fun e => ?_) (fun e => ?_)
    · have hk : k < ((ns.map V.int).length : Int) := of_decide_eq_true e
      have hk' : k.toNat < ns.length := by rw [List.length_map] at hk; omega
      walk_at "rd"
      refine g_ixL sq (v := .int ns[k.toNat]) (at_of (j := k.toNat) (by omega) (by rw [List.getElem?_map, List.getElem?_eq_getElem hk']; rfl)) ?_
      generalize ns[k.toNat] = c
      walk_at "rd"
      refine .inl ⟨_, rfl, ?_⟩
      walk_at "rd"
      refine g_I (show (0 : Int) < 2147483629 by decide) ?_
      walk_at "rd"
      refine g_I (.inl ⟨by decide, by decide⟩) ?_
      walk_at "rd"
      refine g_I (.inl ⟨by omega, by omega⟩) ?_
      walk_at "rd"
      refine g_I ⟨by decide, by decide, by omega⟩ ?_
      walk_at "rd"
      refine g_I (show (0 : Int) < 2147483647 by decide) ?_
      walk_at "rd"
      refine g_I ⟨by decide, by decide, by decide⟩ ?_
      walk_at "rd"
      refine g_ite (fun e2 => ?_) (fun e2 => ?_)
      · walk_at "rd"
        refine ⟨(by show 2 ≤ sizeLine; decide), fun p hp => ?_⟩
        refine q p _ hp (same_new hp) ⟨0, _, upd_same, by decide, Int.emod_nonneg _ (by decide), Int.emod_lt_of_pos _ (by decide)⟩
      · walk_at "rd"
        refine ⟨(by show 2 ≤ sizeLine; decide), fun p hp => ?_⟩
        have e3 := of_decide_eq_false e2
        refine q p _ hp (same_new hp) ⟨_, _, upd_same, ?_, Int.emod_nonneg _ (by decide), Int.emod_lt_of_pos _ (by decide)⟩
        exact Int.le_trans (by decide) (Int.not_lt.mp e3)
    · walk_at "rd"
      walk_at "rd"
      refine .inl ⟨_, rfl, ?_⟩
      walk_at "rd"
      refine g_I (show (0 : Int) < 2147483629 by decide) ?_
      walk_at "rd"
      refine g_I (.inl ⟨by decide, by decide⟩) ?_
      walk_at "rd"
      refine g_I (.inl ⟨by omega, by omega⟩) ?_
      walk_at "rd"
      refine g_I ⟨by decide, by decide, by omega⟩ ?_
      walk_at "rd"
      refine g_I (show (0 : Int) < 2147483647 by decide) ?_
      walk_at "rd"
      refine g_I ⟨by decide, by decide, by decide⟩ ?_
      walk_at "rd"
      refine g_ite (fun e2 => ?_) (fun e2 => ?_)
      · walk_at "rd"
        refine ⟨(by show 2 ≤ sizeLine; decide), fun p hp => ?_⟩
        refine q p _ hp (same_new hp) ⟨0, _, upd_same, by decide, Int.emod_nonneg _ (by decide), Int.emod_lt_of_pos _ (by decide)⟩
      · walk_at "rd"
        refine ⟨(by show 2 ≤ sizeLine; decide), fun p hp => ?_⟩
        have e3 := of_decide_eq_false e2
        refine q p _ hp (same_new hp) ⟨_, _, upd_same, ?_, Int.emod_nonneg _ (by decide), Int.emod_lt_of_pos _ (by decide)⟩
        exact Int.le_trans (by decide) (Int.not_lt.mp e3)

def spDraw : Sp := fun vs H Q _ => ∃ (p : Addr) (m : Int), vs = [.ref p, .int m] ∧ PoolAt H p ∧ 1 ≤ m ∧ m ≤ 1000000 ∧ ∀ (r : Int) H', 0 ≤ r → r < m → PoolAt H' p → Sx p H H' → Q (.int r) H'
theorem sx_upd {p : Addr} {H : Hp} {o : HO} : Sx p H (upd H p o) := fun b u hb e => by rw [upd_ne hb]; exact e
theorem ok_draw (T : Txt K mg) (D : Def K mg "_law_draw" s_law_draw ["_law_pool_here", "_law_many"]) : Cal P w K mg base 1 "_law_draw" spDraw := by
  refine cal_of D sc_law_draw (fun vs H Q E h => ?_) (fun f cdv A outer s H vs Q E hr h => ?_)
  · obtain ⟨p, m, rfl, _⟩ := h
    rfl
  · obtain ⟨p, m, rfl, ⟨c, z, hp, hc, hz, hz2⟩, m0, m1, q⟩ := h
    refine ⟨_, (pss_cons (ps_if (pt_cmpR op_gt (pe_ix ix_list (pv 0) pe_int (fun _ _ => rfl)) pe_int (nomark _)) (pss_cons (ps_set (i := 2) sc_law_draw.nd rfl (Or.inl rfl) (pe_op op_mod (pe_callTy call_int1 (by rfl) T.n_int (by decide +kernel) (pa_cons (pe_ix ix_list (pv 0) pe_int (fun _ _ => rfl)) pa_nil)) (pv 1)))
      (pss_cons (ps_asg (pe_op op_fdiv (pe_ix ix_list (pv 0) pe_int (fun _ _ => rfl)) (pv 1)) (pg_sub (pv 0) pe_int set_list))
      (pss_one (ps_ret (pv 2))))) pss_nil)
      (pss_cons (ps_asg (pe_op op_mod (pe_callTy call_int1 (by rfl) T.n_int (by decide +kernel) (pa_cons (pe_op op_add (pe_op op_mul (pe_ix ix_list (pv 0) pe_int (fun _ _ => rfl)) pe_int) pe_int) pa_nil)) pe_int) (pg_sub (pv 0) pe_int set_list))
      (pss_one (ps_ret (pe_op op_mod (pe_op op_fdiv (pe_op op_mod (pe_callTy call_int1 (by rfl) T.n_int (by decide +kernel) (pa_cons (pe_op op_mul (pe_ix ix_list (pv 0) pe_int (fun _ _ => rfl)) (pe_ix ix_list (pv 0) pe_int (fun _ _ => rfl))) pa_nil)) pe_int) pe_int) (pv 1)))))), ?_⟩
    walk_at "rd"
    refine g_ixL (SqL.of hp) (v := .int c) (atI_nat (j := 0) rfl) ?_
    walk_at "rd"
    refine g_ite (fun e => ?_) (fun e => ?_)
    · have cp : 0 < c := of_decide_eq_true e
      walk_at "rd"
      refine g_ixL (SqL.of hp) (v := .int c) (atI_nat (j := 0) rfl) ?_
      walk_at "rd"
      refine .inl ⟨_, rfl, ?_⟩
      walk_at "rd"
      refine g_I (show (0 : Int) < m by omega) ?_
      walk_at "rd"
      refine g_ixL (SqL.of hp) (v := .int c) (atI_nat (j := 0) rfl) ?_
      walk_at "rd"
      refine g_I (⟨by omega, by omega⟩ : CDiv _ _) ?_
      walk_at "rd"
      refine ⟨p, _, 0, 0, rfl, rfl, hp, rfl, ?_⟩
      walk_at "rd"
      refine q (c % m) _ (Int.emod_nonneg _ (by omega)) (Int.emod_lt_of_pos _ (by omega)) ⟨c / m, z, upd_same, Int.ediv_nonneg hc (by omega), hz, hz2⟩ sx_upd
    · walk_at "rd"
      refine g_ixL (SqL.of hp) (v := .int z) (atI_nat (j := 1) rfl) ?_
      walk_at "rd"
      refine g_I (.inl ⟨by omega, by omega⟩) ?_
      walk_at "rd"
      refine .inl ⟨_, rfl, ?_⟩
      walk_at "rd"
      refine g_I (show (0 : Int) < 2147483647 by decide) ?_
      walk_at "rd"
      refine ⟨p, _, 1, 1, rfl, rfl, hp, rfl, ?_⟩
      have y0 : 0 ≤ (z * 48271 + 11) % 2147483647 := Int.emod_nonneg _ (by decide)
      have y1 : (z * 48271 + 11) % 2147483647 < 2147483647 := Int.emod_lt_of_pos _ (by decide)
      generalize (z * 48271 + 11) % 2147483647 = y at y0 y1 ⊢
      walk_at "rd"
      refine g_ixL (SqL.of upd_same) (v := .int y) (atI_nat (j := 1) rfl) ?_
      walk_at "rd"
      refine g_ixL (SqL.of upd_same) (v := .int y) (atI_nat (j := 1) rfl) ?_
      walk_at "rd"
      refine g_I (.inl ⟨by omega, by omega⟩) ?_
      walk_at "rd"
      refine .inl ⟨_, rfl, ?_⟩
      walk_at "rd"
      refine g_I (show (0 : Int) < 2147483629 by decide) ?_
      walk_at "rd"
      refine g_I (⟨by decide, by decide⟩ : CDiv _ _) ?_
      walk_at "rd"
      refine g_I (show (0 : Int) < m by omega) ?_
      walk_at "rd"
      exact q _ _ (Int.emod_nonneg _ (by omega)) (Int.emod_lt_of_pos _ (by omega)) ⟨c, y, upd_same, hc, y0, y1⟩ sx_upd

def spChoose : Sp := fun vs H Q _ => ∃ (p l : Addr) (xs : List V), vs = [.ref p, .ref l] ∧ PoolAt H p ∧ l ≠ p ∧ H l = some (.lst xs) ∧ 0 < xs.length ∧ xs.length ≤ 1000 ∧ ∀ x H', x ∈ xs → PoolAt H' p → Sx p H H' → Q x H'
theorem ok_choose (T : Txt K mg) (D : Def K mg "_law_choose" s_law_choose ["_law_pool_here", "_law_items"]) (c_law_draw : Cal P w K mg base 1 "_law_draw" spDraw) : Cal P w K mg base 2 "_law_choose" spChoose := by
  refine cal_of D sc_law_choose (fun vs H Q E h => ?_) (fun f cdv A outer s H vs Q E hr h => ?_)
  · obtain ⟨p, l, xs, rfl, _⟩ := h
    rfl
  · obtain ⟨p, l, xs, rfl, pl, hn, hl, h0, h1, q⟩ := h
    refine ⟨_, (pss_one (ps_ret (pe_ix ix_list (pv 1) (pe_f c_law_draw hr (by decide) (by rfl) (pa_cons (pv 0) (pa_cons (pe_callB call_len_seq (by rfl) T.n_len (by decide +kernel) (pa_cons (pv 1) pa_nil)) pa_nil))) (fun _ _ => rfl)))), ?_⟩
    walk_at "rd"
    refine ⟨l, xs, rfl, .inl (SqL.of hl), ?_⟩
    walk_at "rd"
    refine ⟨p, _, rfl, pl, by omega, by omega, fun r H1 r0 r1 pl1 sx => ?_⟩
    have hr' : r.toNat < xs.length := by omega
    walk_at "rd"
    refine g_ixL (SqL.of (sx _ _ hn hl)) (v := xs[r.toNat]) (at_of (j := r.toNat) (by omega) (List.getElem?_eq_getElem hr')) ?_
    exact q _ _ (List.getElem_mem hr') pl1 sx
end
end K2

namespace K2
open PySem PySem.Spec PyProof.Rows L2 Mc Mx
section
variable {P : Program} {w : World} {K : PySem.W.Frag} {mg : Str → Option Value} {base : Heap}
local macro_rules | `(tactic| walk_at "rd1") => `(tactic| first
  | with_reducible refine g_seq ?_
  | with_reducible refine g_asg ?_
  | with_reducible refine g_name ?_
  | with_reducible refine g_c ?_
  | with_reducible refine g_op ?_
  | with_reducible refine g_ifS ?_
  | with_reducible refine g_if ?_
  | with_reducible refine g_test ?_
  | with_reducible refine g_B ?_
  | with_reducible refine g_bl ?_
  | with_reducible refine g_blV ?_
  | with_reducible refine g_not ?_
  | with_reducible refine g_and ?_
  | with_reducible refine g_or ?_
  | with_reducible refine g_notV ?_
  | with_reducible refine g_andV ?_
  | with_reducible refine g_orV ?_
  | with_reducible refine g_ret ?_
  | with_reducible refine g_drop ?_
  | with_reducible refine g_next ?_
  | with_reducible refine g_retN ?_
  | with_reducible refine g_call ?_
  | with_reducible refine g_cb ?_
  | with_reducible refine g_cons ?_
  | with_reducible refine g_nil ?_
  | with_reducible refine g_tup ?_
  | with_reducible refine g_lst ?_
  | with_reducible refine g_prop ?_
  | with_reducible refine g_fld ?_
  | with_reducible refine g_meth ?_
  | with_reducible refine g_chain ?_
  | with_reducible refine g_yes ?_
  | with_reducible refine g_make ?_
  | with_reducible refine g_makeK ?_
  | with_reducible refine g_gsub ?_
  | with_reducible refine g_sfld ?_
  | with_reducible refine g_un ?_
  | with_reducible refine g_bm ?_
  | with_reducible refine g_iteT ?_
  | with_reducible refine g_iteF ?_
  | with_reducible refine g_I0 ?_
  | with_reducible refine g_add ?_
  | with_reducible refine g_sub ?_
  | ((with_reducible refine' g_var ?hv ?_); (case hv => rfl))
  | ((with_reducible refine g_eq ?hv ?_); (case hv => rfl))
  | ((with_reducible refine g_ne ?hv ?_); (case hv => rfl)))
local macro_rules | `(tactic| walk_at "rd") => `(tactic| repeat (walk_at "rd1"))

local macro_rules | `(tactic| walk_at "ty") => `(tactic| first | exact .non | exact .bl _ | exact .int _ | exact .str _ | exact .lst (by assumption) | exact .tup (by assumption) | exact .dK (by assumption) | exact .kTup (by assumption) (by assumption))
local macro_rules | `(tactic| walk_at "isiF") => `(tactic| refine g_isi (by walk_at "ty") (b := false) (by decide +kernel) ?_)
local macro_rules | `(tactic| walk_at "isiT") => `(tactic| refine g_isi (by walk_at "ty") (b := true) (by decide +kernel) ?_)

theorem tup_go {H : Hp} {xs : List V} {Q : VK} (hl : xs.length ≤ 1000) (k : ∀ a H', H a = none → Same H H' → H' a = some (.tup xs) → Q (.ref a) H') : TupG Q xs H :=
  ⟨sz_le hl, fun p hp => k p _ hp (same_new hp) upd_same⟩
theorem lst_go {H : Hp} {xs : List V} {Q : VK} (hl : xs.length ≤ 1000) (k : ∀ a H', H a = none → Same H H' → H' a = some (.lst xs) → Q (.ref a) H') : LstG Q xs H :=
  ⟨sz_le hl, fun p hp => k p _ hp (same_new hp) upd_same⟩
theorem dn_go {σ : L2.St} {H : Hp} {Q : VK} (k : ∀ a H', H a = none → Same H H' → H' a = some (.dK []) → Q (.ref a) H') : tDNewK σ H Q := fun p hp => k p _ hp (same_new hp) upd_same
theorem app_go {H : Hp} {r : Addr} {xs : List V} {y : V} {Q : VK} (h : H r = some (.lst xs)) (hl : xs.length < 100) (k : ∀ H', H' r = some (.lst (xs ++ [y])) → Sx r H H' → Q .non H') : rAppend (.ref r) [y] H Q :=
  ⟨r, xs, y, rfl, rfl, h, small1000 (by omega), k _ upd_same sx_upd⟩
theorem cat_go {H : Hp} {Q : VK} {a b : Addr} {xs ys : List V} (h : H a = some (.lst xs)) (h' : H b = some (.lst ys)) (hl : xs.length + ys.length ≤ 1000) (k : ∀ s H', H s = none → Same H H' → H' s = some (.lst (xs ++ ys)) → Q (.ref s) H') : rCat (.ref a) (.ref b) H Q :=
  ⟨a, b, xs, ys, rfl, rfl, h, h', sz_le hl, fun p hp => k p _ hp (same_new hp) upd_same⟩
/-- objects made since H0 -/
structure Made (H0 H : Hp) (l : List (Addr × HO)) : Prop where
  all : ∀ x ∈ l, H0 x.1 = none ∧ H x.1 = some x.2
  bx : Same H0 H
theorem Made.nil {H0 : Hp} : Made H0 H0 [] := ⟨fun _ h => (nomatch h), Same.refl _⟩
theorem Made.new {H0 H H' : Hp} {l : List (Addr × HO)} {a : Addr} {o : HO} (m : Made H0 H l) (n : H a = none) (e : Same H H') (h : H' a = some o) : Made H0 H' ((a, o) :: l) := by
  refine ⟨fun x hx => ?_, Same.trans m.bx e⟩
  rcases List.mem_cons.mp hx with rfl | hx
  · refine ⟨?_, h⟩
    cases q : H0 a with
    | none => rfl
    | some u => rw [m.bx _ _ q] at n; cases n
  · exact ⟨(m.all x hx).1, e _ _ (m.all x hx).2⟩
/-- .. beside the list at r -/
structure MadeR (H0 H : Hp) (r : Addr) (xs : List V) (l : List (Addr × HO)) : Prop where
  m : Made H0 H l
  r0 : H0 r = none
  row : H r = some (.lst xs)
  ne : ∀ x ∈ l, x.1 ≠ r
theorem Made.r {H0 H H' : Hp} {l : List (Addr × HO)} {r : Addr} {xs : List V} (m : Made H0 H l) (n : H r = none) (e : Same H H') (h : H' r = some (.lst xs)) : MadeR H0 H' r xs l := by
  have q := m.new n e h
  refine ⟨⟨fun x hx => q.all x (List.mem_cons_of_mem _ hx), q.bx⟩, (q.all _ (List.mem_cons_self ..)).1, h, fun x hx z => ?_⟩
  have := (m.all x hx).2
  rw [z, n] at this
  cases this
theorem MadeR.new {H0 H H' : Hp} {l : List (Addr × HO)} {r a : Addr} {xs : List V} {o : HO} (m : MadeR H0 H r xs l) (n : H a = none) (e : Same H H') (h : H' a = some o) : MadeR H0 H' r xs ((a, o) :: l) := by
  refine ⟨m.m.new n e h, m.r0, e _ _ m.row, fun x hx => ?_⟩
  rcases List.mem_cons.mp hx with rfl | hx
  · intro z
    have q := m.row
    rw [← z, n] at q
    cases q
  · exact m.ne x hx
theorem MadeR.app {H0 H H' : Hp} {l : List (Addr × HO)} {r : Addr} {xs ys : List V} (m : MadeR H0 H r xs l) (h : H' r = some (.lst ys)) (e : Sx r H H') : MadeR H0 H' r ys l :=
  ⟨⟨fun x hx => ⟨(m.m.all x hx).1, e _ _ (m.ne x hx) (m.m.all x hx).2⟩, fun b o hb => e _ _ (fun z => by rw [z, m.r0] at hb; cases hb) (m.m.bx b o hb)⟩, m.r0, h, m.ne⟩
def Later (H0 H H' : Hp) : Prop := ∀ b o, H0 b = none → H b = some o → H' b = some o
theorem Made.later {H0 H H' : Hp} {l : List (Addr × HO)} (m : Made H0 H l) (e : Later H0 H H') {x : Addr × HO} (hx : x ∈ l) : H' x.1 = some x.2 := e _ _ (m.all x hx).1 (m.all x hx).2
/-- values that are wrong at a place -/
def TyA (K : PySem.W.Frag) (H : Hp) (v : V) : Prop := ∃ n, TyB K H v n
def SqA (K : PySem.W.Frag) (H : Hp) (v : V) (f : List V → Bool) : Prop := (∃ n, TyB K H v n ∧ n ≠ "tuple") ∨ ∃ a xs, v = .ref a ∧ TupV K H a xs ∧ Typed K H xs ∧ xs.length ≤ 1000 ∧ f xs = false
def Bad (K : PySem.W.Frag) (H : Hp) : Nat → V → Prop
  | 0, v => TyA K H v ∧ btw v 1 20 = false
  | 1, v => TyA K H v ∧ btw v 1 3 = false
  | 2, v => v ≠ .non ∧ SqA K H v (fun xs => arePz xs 3)
  | 3, v => TyA K H v ∧ v ≠ .non ∧ btw v 1 20 = false
  | 4, v => TyA K H v ∧ isB v = false
  | _, v => SqA K H v endOk
local macro_rules | `(tactic| walk_at "mem") => `(tactic| repeat (first | exact List.mem_cons_self .. | refine List.mem_cons_of_mem _ ?_))
def spWrongs (K : PySem.W.Frag) : Sp := fun vs H Q _ => vs = [] ∧ ∀ (W : Addr) (rs : List Addr) (xss : List (List V)) H', rs.length = 6 → xss.length = 6 → Same H H' → H W = none → H' W = some (.lst (rs.map V.ref)) →
  (∀ (i : Nat) r xs, rs[i]? = some r → xss[i]? = some xs → H r = none ∧ H' r = some (.lst xs) ∧ 0 < xs.length ∧ xs.length ≤ 1000 ∧ ∀ H'', Later H H' H'' → ∀ v ∈ xs, Bad K H'' i v) → Q (.ref W) H'
theorem ok_wrong (T : Txt K mg) (D : Def K mg "_law_wrong" s_law_wrong []) : Cal P w K mg base 1 "_law_wrong" (spWrongs K) := by
  refine cal_of D sc_law_wrong (fun vs H Q E h => ?_) (fun f cdv A outer s H vs Q E hr h => ?_)
  · obtain ⟨rfl, _⟩ := h
    rfl
  · obtain ⟨rfl, k⟩ := h
    refine ⟨_, (pss_cons (ps_set (i := 0) sc_law_wrong.nd rfl (Or.inl rfl) (pe_lst (pa_cons (pe_lst (pa_cons pe_int (pa_cons pe_int (pa_cons pe_non (pa_cons pe_bl (pa_cons pe_str (pa_cons (pe_tup (pa_cons pe_int pa_nil)) (pa_cons (pe_un un_neg pe_int) pa_nil)))))))) (pa_cons (pe_lst (pa_cons pe_int (pa_cons pe_int (pa_cons pe_non (pa_cons pe_bl (pa_cons pe_str (pa_cons (pe_lst (pa_cons pe_int pa_nil)) pa_nil))))))) (pa_cons (pe_lst (pa_cons (pe_tup (pa_cons pe_int pa_nil)) (pa_cons (pe_lst (pa_cons pe_int (pa_cons pe_int pa_nil))) (pa_cons (pe_tup (pa_cons pe_int (pa_cons pe_int pa_nil))) (pa_cons (pe_tup (pa_cons pe_int (pa_cons (pe_un un_neg pe_int) pa_nil))) (pa_cons (pe_tup (pa_cons pe_int (pa_cons pe_bl pa_nil))) pa_nil)))))) pa_nil)))))
      (pss_cons (ps_expr (pe_bm PySem.F.plainAttrs_list PySem.F.slot_list_append PySem.F.type_list_append mt_append (pv 0) (pa_cons (pe_lst (pa_cons pe_int (pa_cons pe_int (pa_cons pe_bl (pa_cons pe_str (pa_cons (pe_tup (pa_cons pe_int pa_nil)) (pa_cons (pe_un un_neg pe_int) pa_nil))))))) pa_nil)))
      (pss_cons (ps_expr (pe_bm PySem.F.plainAttrs_list PySem.F.slot_list_append PySem.F.type_list_append mt_append (pv 0) (pa_cons (pe_lst (pa_cons pe_int (pa_cons pe_int (pa_cons pe_non (pa_cons pe_str pa_nil))))) pa_nil)))
      (pss_cons (ps_set (i := 1) sc_law_wrong.nd rfl (Or.inl rfl) (pe_lst (pa_cons pe_non (pa_cons pe_str (pa_cons (pe_tup (pa_cons pe_str (pa_cons pe_int pa_nil))) (pa_cons (pe_tup (pa_cons pe_str pa_nil)) (pa_cons (pe_tup (pa_cons pe_str (pa_cons pe_int pa_nil))) (pa_cons (pe_tup (pa_cons pe_str (pa_cons (pe_un un_neg pe_int) pa_nil))) (pa_cons (pe_tup (pa_cons pe_str (pa_cons pe_bl pa_nil))) (pa_cons (pe_lst (pa_cons pe_str pa_nil)) (pa_cons (pe_tup (pa_cons pe_str (pa_cons pe_int pa_nil))) (pa_cons (pe_tup (pa_cons pe_str pa_nil)) pa_nil))))))))))))
      (pss_one (ps_ret (pe_op op_cat (pv 0) (pe_lst (pa_cons (pe_op op_cat (pv 1) (pe_lst (pa_cons (pe_tup pa_nil) (pa_cons (pe_tup (pa_cons pe_str (pa_cons pe_int (pa_cons pe_int pa_nil)))) (pa_cons (pe_tup (pa_cons (pe_lst (pa_cons pe_str pa_nil)) pa_nil)) (pa_cons (pe_tup (pa_cons pe_dnewK (pa_cons pe_int pa_nil))) pa_nil)))))) pa_nil))))))))), ?_⟩
    have m : Made H H [] := .nil
    walk_at "rd"
    refine tup_go ?hl fun t5 H1 n1 S1 h1 => ?_
    case hl => exact Nat.le_of_ble_eq_true rfl
    have m := m.new n1 S1 h1
    clear n1 S1 h1
    walk_at "rd"
    refine ⟨_, rfl, ?_⟩
    walk_at "rd"
    refine lst_go ?hl fun r0 H3 n3 S3 h3 => ?_
    case hl => exact Nat.le_of_ble_eq_true rfl
    have m := m.new n3 S3 h3
    clear n3 S3 h3
    walk_at "rd"
    refine lst_go ?hl fun l1 H4 n4 S4 h4 => ?_
    case hl => exact Nat.le_of_ble_eq_true rfl
    have m := m.new n4 S4 h4
    clear n4 S4 h4
    walk_at "rd"
    refine lst_go ?hl fun r1 H5 n5 S5 h5 => ?_
    case hl => exact Nat.le_of_ble_eq_true rfl
    have m := m.new n5 S5 h5
    clear n5 S5 h5
    walk_at "rd"
    refine tup_go ?hl fun a1 H6 n6 S6 h6 => ?_
    case hl => exact Nat.le_of_ble_eq_true rfl
    have m := m.new n6 S6 h6
    clear n6 S6 h6
    walk_at "rd"
    refine lst_go ?hl fun l00 H7 n7 S7 h7 => ?_
    case hl => exact Nat.le_of_ble_eq_true rfl
    have m := m.new n7 S7 h7
    clear n7 S7 h7
    walk_at "rd"
    refine tup_go ?hl fun a2 H8 n8 S8 h8 => ?_
    case hl => exact Nat.le_of_ble_eq_true rfl
    have m := m.new n8 S8 h8
    clear n8 S8 h8
    walk_at "rd"
    refine ⟨_, rfl, ?_⟩
    walk_at "rd"
    refine tup_go ?hl fun a3 H10 n10 S10 h10 => ?_
    case hl => exact Nat.le_of_ble_eq_true rfl
    have m := m.new n10 S10 h10
    clear n10 S10 h10
    walk_at "rd"
    refine tup_go ?hl fun a4 H11 n11 S11 h11 => ?_
    case hl => exact Nat.le_of_ble_eq_true rfl
    have m := m.new n11 S11 h11
    clear n11 S11 h11
    walk_at "rd"
    refine lst_go ?hl fun r2 H12 n12 S12 h12 => ?_
    case hl => exact Nat.le_of_ble_eq_true rfl
    have m := m.new n12 S12 h12
    clear n12 S12 h12
    walk_at "rd"
    refine lst_go ?hl fun R H13 n13 S13 h13 => ?_
    case hl => exact Nat.le_of_ble_eq_true rfl
    have m := m.r n13 S13 h13
    clear n13 S13 h13
    walk_at "rd"
    refine ⟨.inl ⟨rfl, _, SqL.of m.row⟩, ?_⟩
    walk_at "rd"
    refine tup_go ?hl fun t1 H15 n15 S15 h15 => ?_
    case hl => exact Nat.le_of_ble_eq_true rfl
    have m := m.new n15 S15 h15
    clear n15 S15 h15
    walk_at "rd"
    refine ⟨_, rfl, ?_⟩
    walk_at "rd"
    refine lst_go ?hl fun r3 H17 n17 S17 h17 => ?_
    case hl => exact Nat.le_of_ble_eq_true rfl
    have m := m.new n17 S17 h17
    clear n17 S17 h17
    walk_at "rd"
    refine app_go m.row (Nat.le_of_ble_eq_true rfl) fun H18 h18 S18 => ?_
    have m := m.app h18 S18
    clear h18 S18
    walk_at "rd"
    refine ⟨.inl ⟨rfl, _, SqL.of m.row⟩, ?_⟩
    walk_at "rd"
    refine lst_go ?hl fun r4 H20 n20 S20 h20 => ?_
    case hl => exact Nat.le_of_ble_eq_true rfl
    have m := m.new n20 S20 h20
    clear n20 S20 h20
    walk_at "rd"
    refine app_go m.row (Nat.le_of_ble_eq_true rfl) fun H21 h21 S21 => ?_
    have m := m.app h21 S21
    clear h21 S21
    walk_at "rd"
    refine tup_go ?hl fun b1 H22 n22 S22 h22 => ?_
    case hl => exact Nat.le_of_ble_eq_true rfl
    have m := m.new n22 S22 h22
    clear n22 S22 h22
    walk_at "rd"
    refine tup_go ?hl fun b2 H23 n23 S23 h23 => ?_
    case hl => exact Nat.le_of_ble_eq_true rfl
    have m := m.new n23 S23 h23
    clear n23 S23 h23
    walk_at "rd"
    refine tup_go ?hl fun b3 H24 n24 S24 h24 => ?_
    case hl => exact Nat.le_of_ble_eq_true rfl
    have m := m.new n24 S24 h24
    clear n24 S24 h24
    walk_at "rd"
    refine ⟨_, rfl, ?_⟩
    walk_at "rd"
    refine tup_go ?hl fun b4 H26 n26 S26 h26 => ?_
    case hl => exact Nat.le_of_ble_eq_true rfl
    have m := m.new n26 S26 h26
    clear n26 S26 h26
    walk_at "rd"
    refine tup_go ?hl fun b5 H27 n27 S27 h27 => ?_
    case hl => exact Nat.le_of_ble_eq_true rfl
    have m := m.new n27 S27 h27
    clear n27 S27 h27
    walk_at "rd"
    refine lst_go ?hl fun lg H28 n28 S28 h28 => ?_
    case hl => exact Nat.le_of_ble_eq_true rfl
    have m := m.new n28 S28 h28
    clear n28 S28 h28
    walk_at "rd"
    refine tup_go ?hl fun b6 H29 n29 S29 h29 => ?_
    case hl => exact Nat.le_of_ble_eq_true rfl
    have m := m.new n29 S29 h29
    clear n29 S29 h29
    walk_at "rd"
    refine tup_go ?hl fun b7 H30 n30 S30 h30 => ?_
    case hl => exact Nat.le_of_ble_eq_true rfl
    have m := m.new n30 S30 h30
    clear n30 S30 h30
    walk_at "rd"
    refine lst_go ?hl fun E H31 n31 S31 h31 => ?_
    case hl => exact Nat.le_of_ble_eq_true rfl
    have m := m.new n31 S31 h31
    clear n31 S31 h31
    walk_at "rd"
    refine tup_go ?hl fun c0 H32 n32 S32 h32 => ?_
    case hl => exact Nat.le_of_ble_eq_true rfl
    have m := m.new n32 S32 h32
    clear n32 S32 h32
    walk_at "rd"
    refine tup_go ?hl fun c1 H33 n33 S33 h33 => ?_
    case hl => exact Nat.le_of_ble_eq_true rfl
    have m := m.new n33 S33 h33
    clear n33 S33 h33
    walk_at "rd"
    refine lst_go ?hl fun lg2 H34 n34 S34 h34 => ?_
    case hl => exact Nat.le_of_ble_eq_true rfl
    have m := m.new n34 S34 h34
    clear n34 S34 h34
    walk_at "rd"
    refine tup_go ?hl fun c2 H35 n35 S35 h35 => ?_
    case hl => exact Nat.le_of_ble_eq_true rfl
    have m := m.new n35 S35 h35
    clear n35 S35 h35
    walk_at "rd"
    refine dn_go fun dd H36 n36 S36 h36 => ?_
    have m := m.new n36 S36 h36
    clear n36 S36 h36
    walk_at "rd"
    refine tup_go ?hl fun c3 H37 n37 S37 h37 => ?_
    case hl => exact Nat.le_of_ble_eq_true rfl
    have m := m.new n37 S37 h37
    clear n37 S37 h37
    walk_at "rd"
    refine lst_go ?hl fun E2 H38 n38 S38 h38 => ?_
    case hl => exact Nat.le_of_ble_eq_true rfl
    have m := m.new n38 S38 h38
    clear n38 S38 h38
    walk_at "rd"
    refine cat_go (m.m.all (E, _) (by walk_at "mem")).2 (m.m.all (E2, _) (by walk_at "mem")).2 (Nat.le_of_ble_eq_true rfl) fun r5 H39 n39 S39 h39 => ?_
    have m := m.new n39 S39 h39
    clear n39 S39 h39
    walk_at "rd"
    refine lst_go ?hl fun X H40 n40 S40 h40 => ?_
    case hl => exact Nat.le_of_ble_eq_true rfl
    have m := m.new n40 S40 h40
    clear n40 S40 h40
    walk_at "rd"
    refine cat_go m.row (m.m.all (X, _) (by walk_at "mem")).2 (Nat.le_of_ble_eq_true rfl) fun W H41 n41 S41 h41 => ?_
    have m := m.m.new n41 S41 h41
    clear n41 S41 h41
    walk_at "rd"
    dsimp only at m
    refine k W [r0, r1, r2, r3, r4, r5] [[.int 0, .int 21, .non, .bl true, .str "5", .ref t5, .int (-1)], [.int 0, .int 4, .non, .bl false, .str "2", .ref l1], [.ref a1, .ref l00, .ref a2, .ref a3, .ref a4], [.int 0, .int 21, .bl true, .str "1", .ref t1, .int (-3)], [.int 0, .int 1, .non, .str "yes"], [.non, .str "go", .ref b1, .ref b2, .ref b3, .ref b4, .ref b5, .ref lg, .ref b6, .ref b7, .ref c0, .ref c1, .ref c2, .ref c3]] _ rfl rfl m.bx (m.all (W, _) (by walk_at "mem")).1 (m.all (W, _) (by walk_at "mem")).2 (fun i r xs hr hx => ?_)
    match i, hr, hx with
    | 0, hr, hx =>
      cases hr
      cases hx
      refine ⟨(m.all (r0, _) (by walk_at "mem")).1, (m.all (r0, _) (by walk_at "mem")).2, Nat.le_of_ble_eq_true rfl, Nat.le_of_ble_eq_true rfl, fun G e v hv => ?_⟩
      simp only [List.mem_cons, List.not_mem_nil, or_false] at hv
      rcases hv with rfl | rfl | rfl | rfl | rfl | rfl | rfl
      · exact ⟨⟨_, .int _⟩, by decide⟩
      · exact ⟨⟨_, .int _⟩, by decide⟩
      · exact ⟨⟨_, .non⟩, by decide⟩
      · exact ⟨⟨_, .bl _⟩, by decide⟩
      · exact ⟨⟨_, .str _⟩, by decide⟩
      · exact ⟨⟨_, .tup (m.later e (x := (t5, _)) (by walk_at "mem"))⟩, rfl⟩
      · exact ⟨⟨_, .int _⟩, by decide⟩
    | 1, hr, hx =>
      cases hr
      cases hx
      refine ⟨(m.all (r1, _) (by walk_at "mem")).1, (m.all (r1, _) (by walk_at "mem")).2, Nat.le_of_ble_eq_true rfl, Nat.le_of_ble_eq_true rfl, fun G e v hv => ?_⟩
      simp only [List.mem_cons, List.not_mem_nil, or_false] at hv
      rcases hv with rfl | rfl | rfl | rfl | rfl | rfl
      · exact ⟨⟨_, .int _⟩, by decide⟩
      · exact ⟨⟨_, .int _⟩, by decide⟩
      · exact ⟨⟨_, .non⟩, by decide⟩
      · exact ⟨⟨_, .bl _⟩, by decide⟩
      · exact ⟨⟨_, .str _⟩, by decide⟩
      · exact ⟨⟨_, .lst (m.later e (x := (l1, _)) (by walk_at "mem"))⟩, rfl⟩
    | 2, hr, hx =>
      cases hr
      cases hx
      refine ⟨(m.all (r2, _) (by walk_at "mem")).1, (m.all (r2, _) (by walk_at "mem")).2, Nat.le_of_ble_eq_true rfl, Nat.le_of_ble_eq_true rfl, fun G e v hv => ?_⟩
      simp only [List.mem_cons, List.not_mem_nil, or_false] at hv
      rcases hv with rfl | rfl | rfl | rfl | rfl
      · exact ⟨(fun z => by cases z), .inr ⟨a1, _, rfl, ⟨.tup (m.later e (x := (a1, _)) (by walk_at "mem")), SqT.of (m.later e (x := (a1, _)) (by walk_at "mem"))⟩, (fun x hx => by simp only [List.mem_cons, List.not_mem_nil, or_false] at hx; rcases hx with rfl <;> first | exact ⟨_, .int _⟩ | exact ⟨_, .bl _⟩ | exact ⟨_, .str _⟩), Nat.le_of_ble_eq_true rfl, by first | rfl | decide +kernel⟩⟩
      · exact ⟨(fun z => by cases z), .inl ⟨_, .lst (m.later e (x := (l00, _)) (by walk_at "mem")), by decide⟩⟩
      · exact ⟨(fun z => by cases z), .inr ⟨a2, _, rfl, ⟨.tup (m.later e (x := (a2, _)) (by walk_at "mem")), SqT.of (m.later e (x := (a2, _)) (by walk_at "mem"))⟩, (fun x hx => by simp only [List.mem_cons, List.not_mem_nil, or_false] at hx; rcases hx with rfl | rfl <;> first | exact ⟨_, .int _⟩ | exact ⟨_, .bl _⟩ | exact ⟨_, .str _⟩), Nat.le_of_ble_eq_true rfl, by first | rfl | decide +kernel⟩⟩
      · exact ⟨(fun z => by cases z), .inr ⟨a3, _, rfl, ⟨.tup (m.later e (x := (a3, _)) (by walk_at "mem")), SqT.of (m.later e (x := (a3, _)) (by walk_at "mem"))⟩, (fun x hx => by simp only [List.mem_cons, List.not_mem_nil, or_false] at hx; rcases hx with rfl | rfl <;> first | exact ⟨_, .int _⟩ | exact ⟨_, .bl _⟩ | exact ⟨_, .str _⟩), Nat.le_of_ble_eq_true rfl, by first | rfl | decide +kernel⟩⟩
      · exact ⟨(fun z => by cases z), .inr ⟨a4, _, rfl, ⟨.tup (m.later e (x := (a4, _)) (by walk_at "mem")), SqT.of (m.later e (x := (a4, _)) (by walk_at "mem"))⟩, (fun x hx => by simp only [List.mem_cons, List.not_mem_nil, or_false] at hx; rcases hx with rfl | rfl <;> first | exact ⟨_, .int _⟩ | exact ⟨_, .bl _⟩ | exact ⟨_, .str _⟩), Nat.le_of_ble_eq_true rfl, by first | rfl | decide +kernel⟩⟩
    | 3, hr, hx =>
      cases hr
      cases hx
      refine ⟨(m.all (r3, _) (by walk_at "mem")).1, (m.all (r3, _) (by walk_at "mem")).2, Nat.le_of_ble_eq_true rfl, Nat.le_of_ble_eq_true rfl, fun G e v hv => ?_⟩
      simp only [List.mem_cons, List.not_mem_nil, or_false] at hv
      rcases hv with rfl | rfl | rfl | rfl | rfl | rfl
      · exact ⟨⟨_, .int _⟩, (fun z => by cases z), by decide⟩
      · exact ⟨⟨_, .int _⟩, (fun z => by cases z), by decide⟩
      · exact ⟨⟨_, .bl _⟩, (fun z => by cases z), by decide⟩
      · exact ⟨⟨_, .str _⟩, (fun z => by cases z), by decide⟩
      · exact ⟨⟨_, .tup (m.later e (x := (t1, _)) (by walk_at "mem"))⟩, (fun z => by cases z), rfl⟩
      · exact ⟨⟨_, .int _⟩, (fun z => by cases z), by decide⟩
    | 4, hr, hx =>
      cases hr
      cases hx
      refine ⟨(m.all (r4, _) (by walk_at "mem")).1, (m.all (r4, _) (by walk_at "mem")).2, Nat.le_of_ble_eq_true rfl, Nat.le_of_ble_eq_true rfl, fun G e v hv => ?_⟩
      simp only [List.mem_cons, List.not_mem_nil, or_false] at hv
      rcases hv with rfl | rfl | rfl | rfl
      · exact ⟨⟨_, .int _⟩, by decide⟩
      · exact ⟨⟨_, .int _⟩, by decide⟩
      · exact ⟨⟨_, .non⟩, by decide⟩
      · exact ⟨⟨_, .str _⟩, by decide⟩
    | 5, hr, hx =>
      cases hr
      cases hx
      refine ⟨(m.all (r5, _) (by walk_at "mem")).1, (m.all (r5, _) (by walk_at "mem")).2, Nat.le_of_ble_eq_true rfl, Nat.le_of_ble_eq_true rfl, fun G e v hv => ?_⟩
      simp only [List.mem_cons, List.not_mem_nil, or_false] at hv
      rcases hv with rfl | rfl | rfl | rfl | rfl | rfl | rfl | rfl | rfl | rfl | rfl | rfl | rfl | rfl
      · exact .inl ⟨_, .non, by decide⟩
      · exact .inl ⟨_, .str _, by decide⟩
      · exact .inr ⟨b1, _, rfl, ⟨.tup (m.later e (x := (b1, _)) (by walk_at "mem")), SqT.of (m.later e (x := (b1, _)) (by walk_at "mem"))⟩, (fun x hx => by simp only [List.mem_cons, List.not_mem_nil, or_false] at hx; rcases hx with rfl | rfl <;> first | exact ⟨_, .int _⟩ | exact ⟨_, .bl _⟩ | exact ⟨_, .str _⟩), Nat.le_of_ble_eq_true rfl, by first | rfl | decide +kernel⟩
      · exact .inr ⟨b2, _, rfl, ⟨.tup (m.later e (x := (b2, _)) (by walk_at "mem")), SqT.of (m.later e (x := (b2, _)) (by walk_at "mem"))⟩, (fun x hx => by simp only [List.mem_cons, List.not_mem_nil, or_false] at hx; rcases hx with rfl <;> first | exact ⟨_, .int _⟩ | exact ⟨_, .bl _⟩ | exact ⟨_, .str _⟩), Nat.le_of_ble_eq_true rfl, by first | rfl | decide +kernel⟩
      · exact .inr ⟨b3, _, rfl, ⟨.tup (m.later e (x := (b3, _)) (by walk_at "mem")), SqT.of (m.later e (x := (b3, _)) (by walk_at "mem"))⟩, (fun x hx => by simp only [List.mem_cons, List.not_mem_nil, or_false] at hx; rcases hx with rfl | rfl <;> first | exact ⟨_, .int _⟩ | exact ⟨_, .bl _⟩ | exact ⟨_, .str _⟩), Nat.le_of_ble_eq_true rfl, by first | rfl | decide +kernel⟩
      · exact .inr ⟨b4, _, rfl, ⟨.tup (m.later e (x := (b4, _)) (by walk_at "mem")), SqT.of (m.later e (x := (b4, _)) (by walk_at "mem"))⟩, (fun x hx => by simp only [List.mem_cons, List.not_mem_nil, or_false] at hx; rcases hx with rfl | rfl <;> first | exact ⟨_, .int _⟩ | exact ⟨_, .bl _⟩ | exact ⟨_, .str _⟩), Nat.le_of_ble_eq_true rfl, by first | rfl | decide +kernel⟩
      · exact .inr ⟨b5, _, rfl, ⟨.tup (m.later e (x := (b5, _)) (by walk_at "mem")), SqT.of (m.later e (x := (b5, _)) (by walk_at "mem"))⟩, (fun x hx => by simp only [List.mem_cons, List.not_mem_nil, or_false] at hx; rcases hx with rfl | rfl <;> first | exact ⟨_, .int _⟩ | exact ⟨_, .bl _⟩ | exact ⟨_, .str _⟩), Nat.le_of_ble_eq_true rfl, by first | rfl | decide +kernel⟩
      · exact .inl ⟨_, .lst (m.later e (x := (lg, _)) (by walk_at "mem")), by decide⟩
      · exact .inr ⟨b6, _, rfl, ⟨.tup (m.later e (x := (b6, _)) (by walk_at "mem")), SqT.of (m.later e (x := (b6, _)) (by walk_at "mem"))⟩, (fun x hx => by simp only [List.mem_cons, List.not_mem_nil, or_false] at hx; rcases hx with rfl | rfl <;> first | exact ⟨_, .int _⟩ | exact ⟨_, .bl _⟩ | exact ⟨_, .str _⟩), Nat.le_of_ble_eq_true rfl, by first | rfl | decide +kernel⟩
      · exact .inr ⟨b7, _, rfl, ⟨.tup (m.later e (x := (b7, _)) (by walk_at "mem")), SqT.of (m.later e (x := (b7, _)) (by walk_at "mem"))⟩, (fun x hx => by simp only [List.mem_cons, List.not_mem_nil, or_false] at hx; rcases hx with rfl <;> first | exact ⟨_, .int _⟩ | exact ⟨_, .bl _⟩ | exact ⟨_, .str _⟩), Nat.le_of_ble_eq_true rfl, by first | rfl | decide +kernel⟩
      · exact .inr ⟨c0, _, rfl, ⟨.tup (m.later e (x := (c0, _)) (by walk_at "mem")), SqT.of (m.later e (x := (c0, _)) (by walk_at "mem"))⟩, (fun x hx => by cases hx), Nat.le_of_ble_eq_true rfl, by first | rfl | decide +kernel⟩
      · exact .inr ⟨c1, _, rfl, ⟨.tup (m.later e (x := (c1, _)) (by walk_at "mem")), SqT.of (m.later e (x := (c1, _)) (by walk_at "mem"))⟩, (fun x hx => by simp only [List.mem_cons, List.not_mem_nil, or_false] at hx; rcases hx with rfl | rfl | rfl <;> first | exact ⟨_, .int _⟩ | exact ⟨_, .bl _⟩ | exact ⟨_, .str _⟩), Nat.le_of_ble_eq_true rfl, by first | rfl | decide +kernel⟩
      · exact .inr ⟨c2, _, rfl, ⟨.tup (m.later e (x := (c2, _)) (by walk_at "mem")), SqT.of (m.later e (x := (c2, _)) (by walk_at "mem"))⟩, (fun x hx => by simp only [List.mem_cons, List.not_mem_nil, or_false] at hx; subst hx; exact ⟨_, .lst (m.later e (x := (lg2, _)) (by walk_at "mem"))⟩), Nat.le_of_ble_eq_true rfl, by first | rfl | decide +kernel⟩
      · exact .inr ⟨c3, _, rfl, ⟨.tup (m.later e (x := (c3, _)) (by walk_at "mem")), SqT.of (m.later e (x := (c3, _)) (by walk_at "mem"))⟩, (fun x hx => by simp only [List.mem_cons, List.not_mem_nil, or_false] at hx; rcases hx with rfl | rfl; exact ⟨_, .dK (m.later e (x := (dd, _)) (by walk_at "mem"))⟩; exact ⟨_, .int _⟩), Nat.le_of_ble_eq_true rfl, by first | rfl | decide +kernel⟩
    | n + 6, hr, hx => simp at hr
end
end K2

namespace K2
open PySem PySem.Spec PyProof.Rows L2 Mc Mx
section
variable {P : Program} {w : World} {K : PySem.W.Frag} {mg : Str → Option Value} {base : Heap}
/-- what a wrong row is -/
def Wr (K : PySem.W.Frag) (H : Hp) (l t p e y g : V) (wd : Str) : Prop := ∃ n1 n2 n3 n4 pb gb, TyB K H l n1 ∧ TyB K H t n2 ∧ TyB K H e n3 ∧ TyB K H y n4 ∧ (∀ i, t = .int i → SeqR K H p (fun xs => arePz xs i) pb) ∧ SeqR K H g endOk gb ∧ wfV l t p e y pb gb = .str wd
theorem told_go {H : Hp} {Q : VK} {E : XK} {r : Addr} {l t p e y g : V} {wd : Str} (hr : SqL K H r [l, t, p, e, y, g]) (hw : Wr K H l t p e y g wd) (k : ∀ H', Same H H' → Q (.str wd) H') : spToldB K [.str "a", .ref r] H Q E := by
  obtain ⟨n1, n2, n3, n4, pb, gb, t1, t2, t3, t4, hp, hg, hw⟩ := hw
  exact ⟨r, _, _, _, _, _, _, _, _, rfl, hr, .str _, (fun z h => by cases h; decide), .inr (.inl ⟨by decide +kernel, n1, n2, n3, n4, pb, gb, wd, t1, t2, t3, t4, hp, hg, hw, k⟩)⟩
/-- values of a place, right or wrong -/
def SqK (K : PySem.W.Frag) (H : Hp) (v : V) : Prop := (∃ n, TyB K H v n ∧ n ≠ "tuple") ∨ ∃ a xs, v = .ref a ∧ TupV K H a xs ∧ Typed K H xs ∧ xs.length ≤ 1000
theorem SqA.k {H : Hp} {v : V} {f : List V → Bool} (h : SqA K H v f) : SqK K H v := h.imp id fun ⟨a, xs, h1, h2, h3, h4, _⟩ => ⟨a, xs, h1, h2, h3, h4⟩
theorem SqK.b {H : Hp} {v : V} (h : SqK K H v) (f : List V → Bool) : ∃ b, SeqR K H v f b := by
  rcases h with ⟨n, ty, hn⟩ | ⟨a, xs, h1, h2, h3, h4⟩
  · exact ⟨false, .inl ⟨n, ty, hn, rfl⟩⟩
  · exact ⟨f xs, .inr ⟨a, xs, h1, h2, h3, h4, rfl⟩⟩
theorem SqA.f {H : Hp} {v : V} {f : List V → Bool} (h : SqA K H v f) : SeqR K H v f false := by
  rcases h with ⟨n, ty, hn⟩ | ⟨a, xs, h1, h2, h3, h4, h5⟩
  · exact .inl ⟨n, ty, hn, rfl⟩
  · exact .inr ⟨a, xs, h1, h2, h3, h4, h5.symm⟩
theorem SqK.t {H : Hp} {v : V} (h : SqK K H v) (t : V) : ∃ pb, ∀ i, t = .int i → SeqR K H v (fun xs => arePz xs i) pb := by
  by_cases ht : ∃ i, t = .int i
  · obtain ⟨i, rfl⟩ := ht
    obtain ⟨b, hb⟩ := h.b (fun xs => arePz xs i)
    exact ⟨b, fun i' e => by cases e; exact hb⟩
  · exact ⟨false, fun i e => absurd ⟨i, e⟩ ht⟩
def wds : List Str := ["limit", "tries", "pauses", "early", "lossy", "ending"]
/-- a row after some turns: b says which places were changed, v the values -/
def rowB (b : Nat → Bool) (v : Nat → V) (pa ga : Addr) : List V := [if b 0 then v 0 else .int 5, if b 1 then v 1 else .int 3, if b 2 then v 2 else if b 3 && !b 0 && !b 1 then .non else .ref pa, if b 3 then v 3 else .non, if b 4 then v 4 else .bl false, if b 5 then v 5 else .ref ga]
def fstB (b : Nat → Bool) : V := if b 0 then .str "limit" else if b 1 then .str "tries" else if b 2 then .str "pauses" else if b 3 then .str "early" else if b 4 then .str "lossy" else if b 5 then .str "ending" else .non
theorem tya_if {H : Hp} {c : Bool} {v u : V} (h : c = true → TyA K H v) (h' : TyA K H u) : TyA K H (if c then v else u) := by
  cases c
  · exact h'
  · exact h rfl
theorem sqk_if {H : Hp} {c : Bool} {v u : V} (h : c = true → SqK K H v) (h' : SqK K H u) : SqK K H (if c then v else u) := by
  cases c
  · exact h'
  · exact h rfl
theorem wf_l {l t p e y : V} {pb gb : Bool} (h : btw l 1 20 = false) : wfV l t p e y pb gb = .str "limit" := by
  unfold wfV
  rw [h]
  rfl
theorem wf_t {t p e y : V} {pb gb : Bool} (h : btw t 1 3 = false) : wfV (.int 5) t p e y pb gb = .str "tries" := by
  unfold wfV
  rw [h]
  rfl
theorem wf_p {p e y : V} {gb : Bool} (h : p ≠ .non) : wfV (.int 5) (.int 3) p e y false gb = .str "pauses" := by
  unfold wfV
  rw [decide_eq_false h, Bool.and_false]
  rfl
theorem wf_e {e y : V} {gb : Bool} (h : e ≠ .non) (h' : btw e 1 20 = false) : wfV (.int 5) (.int 3) .non e y false gb = .str "early" := by
  unfold wfV
  rw [decide_eq_false h, h', Bool.and_false]
  rfl
theorem wf_y {y : V} {a : Addr} {gb : Bool} (h : isB y = false) : wfV (.int 5) (.int 3) (.ref a) .non y true gb = .str "lossy" := by
  unfold wfV
  rw [h]
  rfl
theorem wr_row {H : Hp} {b : Nat → Bool} {v : Nat → V} {pa ga : Addr} {wd : Str} (tp : TupV K H pa [.int 0, .int 1]) (tg : TupV K H ga [.str "go"]) (hb : ∀ j, j < 6 → b j = true → Bad K H j (v j)) (hf : fstB b = .str wd) :
    ∃ l t p e y g, rowB b v pa ga = [l, t, p, e, y, g] ∧ Wr K H l t p e y g wd := by
  refine ⟨_, _, _, _, _, _, rfl, ?_⟩
  have b0 := hb 0 (by decide)
  have b1 := hb 1 (by decide)
  have b2 := hb 2 (by decide)
  have b3 := hb 3 (by decide)
  have b4 := hb 4 (by decide)
  have b5 := hb 5 (by decide)
  have kp : SqK K H (.ref pa) := .inr ⟨pa, _, rfl, tp, typed_ints (ns := [0, 1]), by show 2 ≤ 1000; decide⟩
  have kg : SqK K H (.ref ga) := .inr ⟨ga, _, rfl, tg, typed_en (g := .go), by show 1 ≤ 1000; decide⟩
  have gp : SeqR K H (.ref pa) (fun xs => arePz xs 3) true := .inr ⟨pa, _, rfl, tp, typed_ints (ns := [0, 1]), by show 2 ≤ 1000; decide, by decide +kernel⟩
  have gg : SeqR K H (.ref ga) endOk true := .inr ⟨ga, _, rfl, tg, typed_en (g := .go), by show 1 ≤ 1000; decide, by decide +kernel⟩
  obtain ⟨n1, t1⟩ : TyA K H (if b 0 then v 0 else .int 5) := tya_if (fun h => (b0 h).1) ⟨_, .int _⟩
  obtain ⟨n2, t2⟩ : TyA K H (if b 1 then v 1 else .int 3) := tya_if (fun h => (b1 h).1) ⟨_, .int _⟩
  obtain ⟨n3, t3⟩ : TyA K H (if b 3 then v 3 else .non) := tya_if (fun h => (b3 h).1) ⟨_, .non⟩
  obtain ⟨n4, t4⟩ : TyA K H (if b 4 then v 4 else .bl false) := tya_if (fun h => (b4 h).1) ⟨_, .bl _⟩
  have sp : SqK K H (if b 2 then v 2 else if b 3 && !b 0 && !b 1 then .non else .ref pa) := sqk_if (fun h => (b2 h).2.k) (sqk_if (fun _ => .inl ⟨_, .non, by decide⟩) kp)
  have sg : SqK K H (if b 5 then v 5 else .ref ga) := sqk_if (fun h => (b5 h).k) kg
  unfold fstB at hf
  rcases Bool.eq_false_or_eq_true (b 0) with h0 | h0
  · skip
    rw [if_pos h0] at hf
    obtain ⟨pb, hpb⟩ := sp.t (if b 1 then v 1 else .int 3)
    obtain ⟨gb, hgb⟩ := sg.b endOk
    refine ⟨n1, n2, n3, n4, pb, gb, t1, t2, t3, t4, hpb, hgb, ?_⟩
    rw [if_pos h0, ← hf]
    exact wf_l (b0 h0).2
  rw [if_neg (by rw [h0]; decide)] at hf
  have g0 : (if b 0 = true then v 0 else V.int 5) = .int 5 := if_neg (by rw [h0]; decide)
  rcases Bool.eq_false_or_eq_true (b 1) with h1 | h1
  · skip
    rw [if_pos h1] at hf
    obtain ⟨pb, hpb⟩ := sp.t (if b 1 then v 1 else .int 3)
    obtain ⟨gb, hgb⟩ := sg.b endOk
    refine ⟨n1, n2, n3, n4, pb, gb, t1, t2, t3, t4, hpb, hgb, ?_⟩
    rw [g0, if_pos h1, ← hf]
    exact wf_t (b1 h1).2
  rw [if_neg (by rw [h1]; decide)] at hf
  have g1 : (if b 1 = true then v 1 else V.int 3) = .int 3 := if_neg (by rw [h1]; decide)
  rw [g1] at t2
  rcases Bool.eq_false_or_eq_true (b 2) with h2 | h2
  · skip
    rw [if_pos h2] at hf
    obtain ⟨gb, hgb⟩ := sg.b endOk
    refine ⟨n1, n2, n3, n4, false, gb, t1, by rw [g1]; exact t2, t3, t4, fun i hi => ?_, hgb, ?_⟩
    · rw [g1] at hi
      cases hi
      rw [if_pos h2]
      exact (b2 h2).2.f
    · rw [g0, g1, if_pos h2, ← hf]
      exact wf_p (b2 h2).1
  rw [if_neg (by rw [h2]; decide)] at hf
  rcases Bool.eq_false_or_eq_true (b 3) with h3 | h3
  · skip
    rw [if_pos h3] at hf
    have g2 : (if b 2 = true then v 2 else if (b 3 && !b 0 && !b 1) = true then V.non else .ref pa) = .non := by
      rw [if_neg (by rw [h2]; decide), h3, h0, h1]
      rfl
    obtain ⟨gb, hgb⟩ := sg.b endOk
    refine ⟨n1, n2, n3, n4, false, gb, t1, by rw [g1]; exact t2, t3, t4, fun i hi => ?_, hgb, ?_⟩
    · show SeqR K H (if b 2 = true then v 2 else if (b 3 && !b 0 && !b 1) = true then V.non else .ref pa) _ _
      rw [g2]
      exact .inl ⟨_, .non, by decide, rfl⟩
    · show wfV _ _ (if b 2 = true then v 2 else if (b 3 && !b 0 && !b 1) = true then V.non else .ref pa) _ _ _ _ = _
      rw [g0, g1, g2, if_pos h3, ← hf]
      exact wf_e (b3 h3).2.1 (b3 h3).2.2
  rw [if_neg (by rw [h3]; decide)] at hf
  have g2 : (if b 2 = true then v 2 else if (b 3 && !b 0 && !b 1) = true then V.non else .ref pa) = .ref pa := by
    rw [if_neg (by rw [h2]; decide), h3]
    rfl
  have g3 : (if b 3 = true then v 3 else V.non) = .non := if_neg (by rw [h3]; decide)
  have pp : ∀ i, (if b 1 = true then v 1 else V.int 3) = .int i → SeqR K H (if b 2 = true then v 2 else if (b 3 && !b 0 && !b 1) = true then V.non else .ref pa) (fun xs => arePz xs i) true := fun i hi => by
    rw [g1] at hi
    cases hi
    rw [g2]
    exact gp
  rcases Bool.eq_false_or_eq_true (b 4) with h4 | h4
  · skip
    rw [if_pos h4] at hf
    obtain ⟨gb, hgb⟩ := sg.b endOk
    refine ⟨n1, n2, n3, n4, true, gb, t1, by rw [g1]; exact t2, t3, t4, pp, hgb, ?_⟩
    show wfV _ _ (if b 2 = true then v 2 else if (b 3 && !b 0 && !b 1) = true then V.non else .ref pa) _ _ _ _ = _
    rw [g0, g1, g2, g3, if_pos h4, ← hf]
    exact wf_y (b4 h4).2
  rw [if_neg (by rw [h4]; decide)] at hf
  have g4 : (if b 4 = true then v 4 else V.bl false) = .bl false := if_neg (by rw [h4]; decide)
  rcases Bool.eq_false_or_eq_true (b 5) with h5 | h5
  · skip
    rw [if_pos h5] at hf
    refine ⟨n1, n2, n3, n4, true, false, t1, by rw [g1]; exact t2, t3, t4, pp, ?_, ?_⟩
    · rw [if_pos h5]
      exact (b5 h5).f
    · show wfV _ _ (if b 2 = true then v 2 else if (b 3 && !b 0 && !b 1) = true then V.non else .ref pa) _ _ _ _ = _
      rw [g0, g1, g2, g3, g4, ← hf]
      rfl
  · skip
    rw [if_neg (by rw [h5]; decide)] at hf
    cases hf
end
end K2

namespace K2
open PySem PySem.Spec PyProof.Rows L2 Mc Mx
section
variable {P : Program} {w : World} {K : PySem.W.Frag} {mg : Str → Option Value} {base : Heap}
local macro_rules | `(tactic| walk_at "rd1") => `(tactic| first
  | with_reducible refine g_seq ?_
  | with_reducible refine g_asg ?_
  | with_reducible refine g_name ?_
  | with_reducible refine g_c ?_
  | with_reducible refine g_op ?_
  | with_reducible refine g_ifS ?_
  | with_reducible refine g_if ?_
  | with_reducible refine g_test ?_
  | with_reducible refine g_B ?_
  | with_reducible refine g_bl ?_
  | with_reducible refine g_blV ?_
  | with_reducible refine g_not ?_
  | with_reducible refine g_and ?_
  | with_reducible refine g_or ?_
  | with_reducible refine g_notV ?_
  | with_reducible refine g_andV ?_
  | with_reducible refine g_orV ?_
  | with_reducible refine g_ret ?_
  | with_reducible refine g_drop ?_
  | with_reducible refine g_next ?_
  | with_reducible refine g_retN ?_
  | with_reducible refine g_call ?_
  | with_reducible refine g_cb ?_
  | with_reducible refine g_cons ?_
  | with_reducible refine g_nil ?_
  | with_reducible refine g_tup ?_
  | with_reducible refine g_lst ?_
  | with_reducible refine g_prop ?_
  | with_reducible refine g_fld ?_
  | with_reducible refine g_meth ?_
  | with_reducible refine g_chain ?_
  | with_reducible refine g_yes ?_
  | with_reducible refine g_make ?_
  | with_reducible refine g_makeK ?_
  | with_reducible refine g_gsub ?_
  | with_reducible refine g_sfld ?_
  | with_reducible refine g_un ?_
  | with_reducible refine g_bm ?_
  | with_reducible refine g_iteT ?_
  | with_reducible refine g_iteF ?_
  | with_reducible refine g_I0 ?_
  | with_reducible refine g_add ?_
  | with_reducible refine g_sub ?_
  | ((with_reducible refine' g_var ?hv ?_); (case hv => rfl))
  | ((with_reducible refine g_eq ?hv ?_); (case hv => rfl))
  | ((with_reducible refine g_ne ?hv ?_); (case hv => rfl)))
local macro_rules | `(tactic| walk_at "rd") => `(tactic| repeat (walk_at "rd1"))

local macro_rules | `(tactic| walk_at "ty") => `(tactic| first | exact .non | exact .bl _ | exact .int _ | exact .str _ | exact .lst (by assumption) | exact .tup (by assumption) | exact .dK (by assumption) | exact .kTup (by assumption) (by assumption))
local macro_rules | `(tactic| walk_at "isiF") => `(tactic| refine g_isi (by walk_at "ty") (b := false) (by decide +kernel) ?_)
local macro_rules | `(tactic| walk_at "isiT") => `(tactic| refine g_isi (by walk_at "ty") (b := true) (by decide +kernel) ?_)

theorem g_par {σ : L2.St} {H : Hp} {D : Ends} {i j : Nat} {ta : TA} (q : ta σ H fun vs H1 => ∃ v w, vs = [v, w] ∧ D.nx ((σ.set i (some v)).set j (some w)) H1) : tPar i j ta D σ H := q
theorem g_sl {σ : L2.St} {H : Hp} {Q : VK} {r : V → Option Int → Option Int → Hp → VK → Prop} {te : TE} {tl th : TO} (q : te σ H fun x H1 => tl σ H1 fun l H2 => th σ H2 fun u H3 => r x l u H3 Q) : tSl r te tl th σ H Q := q
theorem g_nopart {σ : L2.St} {H : Hp} {Q : Option Int → Hp → Prop} (q : Q none H) : tNoPart σ H Q := q
theorem g_part {σ : L2.St} {H : Hp} {Q : Option Int → Hp → Prop} {t : TE} (q : t σ H fun x H1 => ∃ i, x = .int i ∧ Q (some i) H1) : tPart t σ H Q := q
theorem sl_go {H : Hp} {Q : VK} {a : Addr} {xs : List V} {lo hi : Option Int} (h : SqL K H a xs) (k : ∀ s H', Same H H' → H' s = some (.lst (cutV xs lo hi)) → Q (.ref s) H') : rSlL K (.ref a) lo hi H Q :=
  ⟨a, xs, rfl, h, fun p hp => k p _ (same_new hp) upd_same⟩
theorem for_enum {K : PySem.W.Frag} {a : Addr} {xs : List V} {g : TG} {tb : TS} {D : Ends} {σ : L2.St} {H : Hp} (Pv : Nat → L2.St → Hp → Prop) (h0 : Pv 0 σ H) (hl : ∀ i σ H, i ≤ xs.length → Pv i σ H → SqL K H a xs)
    (hs : ∀ i x σ H T, xs[i]? = some x → Pv i σ H → H T = none → g (.ref T) σ (upd H T (.tup [.int (i : Nat), x])) fun σ2 H2 => tb { D with nx := Pv (i + 1), ct := Pv (i + 1), bk := D.nx } σ2 H2) (hd : ∀ σ H, Pv xs.length σ H → D.nx σ H) :
    ∃ W : Nat → Nat → L2.St → Hp → Prop, (∃ m, W 0 m σ H) ∧ ∀ i m σ H, W i m σ H →
      ((Ite K a).stop i H ∧ D.nx σ H) ∨ ((Ite K a).go i H ∧ ∃ N : L2.St → Hp → Prop, (∀ σ' H', N σ' H' → ∃ m', m' < m ∧ W (i + 1) m' σ' H') ∧ ∀ x H', (Ite K a).yld i H x H' → g x σ H' fun σ2 H2 => tb { D with nx := N, ct := N, bk := D.nx } σ2 H2) := by
  refine ⟨fun i m σ H => m = xs.length - i ∧ i ≤ xs.length ∧ Pv i σ H, ⟨_, rfl, Nat.zero_le _, h0⟩, fun i m σ H ⟨em, le, pv⟩ => ?_⟩
  have sq := hl i σ H le pv
  rcases Nat.lt_or_ge i xs.length with lt | ge
  · refine .inr ⟨⟨xs, xs[i], sq, List.getElem?_eq_getElem lt⟩, Pv (i + 1), fun σ' H' p => ⟨_, ?_, rfl, lt, p⟩, fun x H' y => ?_⟩
    · omega
    · obtain ⟨T, z, e1, nT, e2, ez⟩ := y
      rw [e1, e2]
      exact hs i z σ H T (ez xs sq) pv nT
  · obtain rfl : i = xs.length := Nat.le_antisymm le ge
    exact .inl ⟨⟨xs, sq, Nat.le_refl _⟩, hd σ H pv⟩
def ForW (g : TG) (tb : TS) (D : Ends) (σ : L2.St) (J : It) (H1 : Hp) : Prop := ∃ W : Nat → Nat → L2.St → Hp → Prop, (∃ m, W 0 m σ H1) ∧ ∀ i m σ H, W i m σ H →
  (J.stop i H ∧ D.nx σ H) ∨ (J.go i H ∧ ∃ N : L2.St → Hp → Prop, (∀ σ' H', N σ' H' → ∃ m', m' < m ∧ W (i + 1) m' σ' H') ∧ ∀ x H', J.yld i H x H' → g x σ H' fun σ2 H2 => tb { D with nx := N, ct := N, bk := D.nx } σ2 H2)
theorem g_for {wi : TI} {g : TG} {tb : TS} {D : Ends} {σ : L2.St} {H : Hp} (q : wi σ H fun J H1 => ForW g tb D σ J H1) : tFor wi g tb D σ H := q
theorem g_ienum {ta : TA} {σ : L2.St} {H : Hp} {R : It → Hp → Prop} (q : ta σ H fun vs H1 => ∃ a xs, vs = [.ref a] ∧ SqL K H1 a xs ∧ R (Ite K a) H1) : iEnum K ta σ H R := q
theorem g_irng {ta : TA} {σ : L2.St} {H : Hp} {R : It → Hp → Prop} (q : ta σ H fun vs H1 => ∃ j : Int, vs = [.int j] ∧ -(2 ^ 62) ≤ j ∧ j < 2 ^ 62 ∧ R (Itr 0 j.toNat) H1) : iRng1 ta σ H R := q
theorem g_ilist {te : TE} {σ : L2.St} {H : Hp} {R : It → Hp → Prop} (q : te σ H fun v H1 => ∃ a, v = .ref a ∧ (∃ xs, SqL K H1 a xs) ∧ R (Itl K a) H1) : iList K te σ H R := q
theorem g_fset {i : Nat} {v : V} {σ : L2.St} {H : Hp} {Q : L2.St → Hp → Prop} (q : Q (σ.set i (some v)) H) : gName i v σ H Q := q
theorem cat_go' {H : Hp} {Q : VK} {a b : Addr} {xs ys : List V} (h : H a = some (.lst xs)) (h' : H b = some (.lst ys)) (hl : xs.length + ys.length ≤ 1000) (k : ∀ s H', H s = none → Same H H' → H' s = some (.lst (xs ++ ys)) → Q (.ref s) H') : rCat (.ref a) (.ref b) H Q :=
  ⟨a, b, xs, ys, rfl, rfl, h, h', sz_le hl, fun p hp => k p _ hp (same_new hp) upd_same⟩
theorem told_row {H : Hp} {Q : VK} {E : XK} {r pa ga : Addr} {b : Nat → Bool} {v : Nat → V} {wd : Str} (hr : SqL K H r (rowB b v pa ga)) (tp : TupV K H pa [.int 0, .int 1]) (tg : TupV K H ga [.str "go"]) (hb : ∀ j, j < 6 → b j = true → Bad K H j (v j)) (hf : fstB b = .str wd)
    (k : ∀ H', Same H H' → Q (.str wd) H') : spToldB K [.str "a", .ref r] H Q E := by
  obtain ⟨l, t, p, e, y, g, er, hw⟩ := wr_row tp tg hb hf
  rw [er] at hr
  exact told_go hr hw k
theorem cut_set {l t p e y g v : V} : ∀ i : Nat, i < 6 → (cutV [l, t, p, e, y, g] none (some (i : Int)) ++ [v]) ++ cutV [l, t, p, e, y, g] (some ((i : Int) + 1)) none = [l, t, p, e, y, g].set i v
  | 0, _ => rfl
  | 1, _ => rfl
  | 2, _ => rfl
  | 3, _ => rfl
  | 4, _ => rfl
  | 5, _ => rfl
  | n + 6, h => absurd h (by omega)
theorem cut_l1 {l t p e y g v : V} : ∀ i : Nat, i < 6 → (cutV [l, t, p, e, y, g] none (some (i : Int))).length + [v].length ≤ 1000
  | 0, _ => Nat.le_of_ble_eq_true rfl
  | 1, _ => Nat.le_of_ble_eq_true rfl
  | 2, _ => Nat.le_of_ble_eq_true rfl
  | 3, _ => Nat.le_of_ble_eq_true rfl
  | 4, _ => Nat.le_of_ble_eq_true rfl
  | 5, _ => Nat.le_of_ble_eq_true rfl
  | n + 6, h => absurd h (by omega)
theorem cut_l2 {l t p e y g v : V} : ∀ i : Nat, i < 6 → (cutV [l, t, p, e, y, g] none (some (i : Int)) ++ [v]).length + (cutV [l, t, p, e, y, g] (some ((i : Int) + 1)) none).length ≤ 1000
  | 0, _ => Nat.le_of_ble_eq_true rfl
  | 1, _ => Nat.le_of_ble_eq_true rfl
  | 2, _ => Nat.le_of_ble_eq_true rfl
  | 3, _ => Nat.le_of_ble_eq_true rfl
  | 4, _ => Nat.le_of_ble_eq_true rfl
  | 5, _ => Nat.le_of_ble_eq_true rfl
  | n + 6, h => absurd h (by omega)
theorem fst_one : ∀ i : Nat, i < 6 → ∃ wd, wds[i]? = some wd ∧ fstB (fun j => j == i) = .str wd
  | 0, _ => ⟨_, rfl, rfl⟩
  | 1, _ => ⟨_, rfl, rfl⟩
  | 2, _ => ⟨_, rfl, rfl⟩
  | 3, _ => ⟨_, rfl, rfl⟩
  | 4, _ => ⟨_, rfl, rfl⟩
  | 5, _ => ⟨_, rfl, rfl⟩
  | n + 6, h => absurd h (by omega)
theorem row_one {v : V} {pa ga : Addr} : ∀ i : Nat, i < 6 → i ≠ 3 → [V.int 5, V.int 3, V.ref pa, V.non, V.bl false, V.ref ga].set i v = rowB (fun j => j == i) (fun _ => v) pa ga
  | 0, _, _ => rfl
  | 1, _, _ => rfl
  | 2, _, _ => rfl
  | 3, _, h => absurd rfl h
  | 4, _, _ => rfl
  | 5, _, _ => rfl
  | n + 6, h, _ => absurd h (by omega)
theorem row_three {v : V} {pa ga : Addr} : ([V.int 5, V.int 3, V.ref pa, V.non, V.bl false, V.ref ga].set 3 v).set 2 .non = rowB (fun j => j == 3) (fun _ => v) pa ga := rfl
theorem g_gc {g : TG} {gs : TGs} {x : V} {xs : List V} {σ : L2.St} {H : Hp} {Q : L2.St → Hp → Prop} (q : g x σ H fun σ1 H1 => gs xs σ1 H1 Q) : gCons g gs (x :: xs) σ H Q := ⟨x, xs, rfl, q⟩
theorem g_gn {σ : L2.St} {H : Hp} {Q : L2.St → Hp → Prop} (q : Q σ H) : gNil [] σ H Q := ⟨rfl, q⟩

theorem wr_two {H : Hp} {p e : Addr} (h : H p = some (.tup [.int 0])) (h' : H e = some (.tup [.str "go"])) : Wr K H (.int 5) (.int 2) (.ref p) (.int 3) (.bl false) (.ref e) "pauses" := by
  have kp : SqK K H (.ref p) := .inr ⟨p, _, rfl, ⟨.tup h, SqT.of h⟩, typed_ints (ns := [0]), by show 1 ≤ 1000; decide⟩
  have kg : SqK K H (.ref e) := .inr ⟨e, _, rfl, ⟨.tup h', SqT.of h'⟩, typed_en (g := .go), by show 1 ≤ 1000; decide⟩
  obtain ⟨pb, hp⟩ := kp.t (.int 2)
  obtain ⟨gb, hg⟩ := kg.b endOk
  exact ⟨_, _, _, _, pb, gb, .int _, .int _, .int _, .bl _, hp, hg, rfl⟩
theorem wr_one {H : Hp} {e : Addr} (h' : H e = some (.tup [.str "go"])) : Wr K H (.int 5) (.int 1) .non (.int 3) (.bl false) (.ref e) "early" := by
  have kg : SqK K H (.ref e) := .inr ⟨e, _, rfl, ⟨.tup h', SqT.of h'⟩, typed_en (g := .go), by show 1 ≤ 1000; decide⟩
  obtain ⟨gb, hg⟩ := kg.b endOk
  exact ⟨_, _, _, _, false, gb, .int _, .int _, .int _, .bl _, (fun i _ => .inl ⟨_, .non, by decide, rfl⟩), hg, rfl⟩
/-- a value that is no name, and what is shown of it -/
def NB (K : PySem.W.Frag) (H : Hp) (v : V) : Prop := ∃ n z, TyB K H v n ∧ (∀ y, v = .str y → y.length ≤ 1000) ∧ nmV v = false ∧ ShowsV K H v z ∧ 5 + z.length ≤ sizeLine
theorem nb_str {H : Hp} {x : Str} (h1 : x.length ≤ 1000) (h2 : nmV (.str x) = false) (h3 : 5 + (reprText x).length ≤ 1000) : NB K H (.str x) :=
  ⟨_, _, .str _, (fun y e => by cases e; exact h1), h2, .str (sz_le (by omega)), sz_le h3⟩
theorem nb_all {H : Hp} {la : Addr} (h : H la = some (.lst [.str "a"])) : ∀ v ∈ [V.non, .int 5, .str "", .str "A", .str "ninesigns", .str "a b", .str "a1", .ref la, .bl true, .str "a~"], NB K H v := by
  intro v hv
  simp only [List.mem_cons, List.not_mem_nil, or_false] at hv
  rcases hv with rfl | rfl | rfl | rfl | rfl | rfl | rfl | rfl | rfl | rfl
  · exact ⟨_, _, .non, (fun y e => by cases e), rfl, .non, sz_le (by decide +kernel)⟩
  · exact ⟨_, _, .int _, (fun y e => by cases e), rfl, .int (by decide +kernel), sz_le (by decide +kernel)⟩
  · exact nb_str (by decide +kernel) (by decide +kernel) (by decide +kernel)
  · exact nb_str (by decide +kernel) (by decide +kernel) (by decide +kernel)
  · exact nb_str (by decide +kernel) (by decide +kernel) (by decide +kernel)
  · exact nb_str (by decide +kernel) (by decide +kernel) (by decide +kernel)
  · exact nb_str (by decide +kernel) (by decide +kernel) (by decide +kernel)
  · exact ⟨_, _, .lst h, (fun y e => by cases e), rfl, .ref (d := .list [.str "a"]) (.lst (SqL.of h) (.cons (.str _) .nil)) (by decide +kernel) (by decide +kernel) (by decide +kernel) (sz_le (by decide +kernel)), sz_le (by decide +kernel)⟩
  · exact ⟨_, _, .bl _, (fun y e => by cases e), rfl, .bl _, sz_le (by decide +kernel)⟩
  · exact nb_str (by decide +kernel) (by decide +kernel) (by decide +kernel)
def upB (b : Nat → Bool) (i : Nat) : Nat → Bool := fun j => if j = i then true else b j
def upV (v : Nat → V) (i : Nat) (x : V) : Nat → V := fun j => if j = i then x else v j
theorem set_row {b : Nat → Bool} {v : Nat → V} {pa ga : Addr} {x : V} : ∀ i : Nat, i < 6 → i ≠ 3 → (∀ j, i ≤ j → b j = false) → (rowB b v pa ga).set i x = rowB (upB b i) (upV v i x) pa ga
  | 0, _, _, h => by simp [rowB, upB, upV, h 3 (by decide)]
  | 1, _, _, h => by simp [rowB, upB, upV, h 3 (by decide)]
  | 2, _, _, h => by simp [rowB, upB, upV]
  | 3, _, h, _ => absurd rfl h
  | 4, _, _, h => by simp [rowB, upB, upV]
  | 5, _, _, h => by simp [rowB, upB, upV]
  | n + 6, h, _, _ => absurd h (by omega)
theorem fst_cases (b : Nat → Bool) : (fstB b = .non ∧ b 0 = false ∧ b 1 = false ∧ b 2 = false ∧ b 3 = false ∧ b 4 = false ∧ b 5 = false) ∨ ∃ wd, fstB b = .str wd := by
  unfold fstB
  cases b 0 <;> cases b 1 <;> cases b 2 <;> cases b 3 <;> cases b 4 <;> cases b 5 <;> simp
theorem three_non {b : Nat → Bool} {v : Nat → V} {pa ga : Addr} {x : V} (h : fstB b = .non) : ((rowB b v pa ga).set 3 x).set 2 .non = rowB (upB b 3) (upV v 3 x) pa ga := by
  rcases fst_cases b with ⟨_, h0, h1, h2, _⟩ | ⟨wd, h'⟩
  · simp [rowB, upB, upV, h0, h1, h2]
  · rw [h] at h'
    cases h'
theorem three_str {b : Nat → Bool} {v : Nat → V} {pa ga : Addr} {x : V} {wd : Str} (hb : ∀ j, 3 ≤ j → b j = false) (h : fstB b = .str wd) : (rowB b v pa ga).set 3 x = rowB (upB b 3) (upV v 3 x) pa ga := by
  have h3 := hb 3 (by decide)
  have h4 := hb 4 (by decide)
  have h5 := hb 5 (by decide)
  unfold fstB at h
  cases h0 : b 0 <;> cases h1 : b 1 <;> cases h2 : b 2 <;> simp [rowB, upB, upV, h0, h1, h2, h3, h4, h5] at h ⊢
theorem fst_up_non {b : Nat → Bool} (h : fstB b = .non) : ∀ i : Nat, i < 6 → ∃ wd, wds[i]? = some wd ∧ fstB (upB b i) = .str wd := by
  rcases fst_cases b with ⟨_, h0, h1, h2, h3, h4, h5⟩ | ⟨wd, h'⟩
  · intro i hi
    match i, hi with
    | 0, _ => exact ⟨_, rfl, by simp [fstB, upB, h0, h1, h2, h3, h4, h5]⟩
    | 1, _ => exact ⟨_, rfl, by simp [fstB, upB, h0, h1, h2, h3, h4, h5]⟩
    | 2, _ => exact ⟨_, rfl, by simp [fstB, upB, h0, h1, h2, h3, h4, h5]⟩
    | 3, _ => exact ⟨_, rfl, by simp [fstB, upB, h0, h1, h2, h3, h4, h5]⟩
    | 4, _ => exact ⟨_, rfl, by simp [fstB, upB, h0, h1, h2, h3, h4, h5]⟩
    | 5, _ => exact ⟨_, rfl, by simp [fstB, upB, h0, h1, h2, h3, h4, h5]⟩
    | n + 6, h => exact absurd h (by omega)
  · rw [h] at h'
    cases h'
theorem fst_up_str {b : Nat → Bool} {wd : Str} (h : fstB b = .str wd) : ∀ i : Nat, i < 6 → (∀ j, i ≤ j → b j = false) → fstB (upB b i) = .str wd := by
  intro i hi hb
  rw [← h]
  unfold fstB at h ⊢
  match i, hi with
  | 0, _ => simp [hb 0, hb 1, hb 2, hb 3, hb 4, hb 5] at h
  | 1, _ =>
    have := hb 1; have := hb 2; have := hb 3; have := hb 4; have := hb 5
    cases h0 : b 0 <;> simp_all [upB]
  | 2, _ =>
    have := hb 2; have := hb 3; have := hb 4; have := hb 5
    cases h0 : b 0 <;> cases h1 : b 1 <;> simp_all [upB]
  | 3, _ =>
    have := hb 3; have := hb 4; have := hb 5
    cases h0 : b 0 <;> cases h1 : b 1 <;> cases h2 : b 2 <;> simp_all [upB]
  | 4, _ =>
    have := hb 4; have := hb 5
    cases h0 : b 0 <;> cases h1 : b 1 <;> cases h2 : b 2 <;> cases h3 : b 3 <;> simp_all [upB]
  | 5, _ =>
    have := hb 5
    cases h0 : b 0 <;> cases h1 : b 1 <;> cases h2 : b 2 <;> cases h3 : b 3 <;> cases h4 : b 4 <;> simp_all [upB]
  | n + 6, h => exact absurd h (by omega)
theorem ix6 : ∀ i : Nat, i < 6 → ixN 6 (i : Int) = some i
  | 0, _ => rfl
  | 1, _ => rfl
  | 2, _ => rfl
  | 3, _ => rfl
  | 4, _ => rfl
  | 5, _ => rfl
  | n + 6, h => absurd h (by omega)
theorem PoolAt.off {H : Hp} {p c : Addr} {o : HO} (h : PoolAt H p) (n : c ≠ p) : PoolAt (upd H c o) p := by
  obtain ⟨u, z, h1, h2⟩ := h
  exact ⟨u, z, by rw [upd_ne n.symm]; exact h1, h2⟩
theorem up0 {b : Nat → Bool} {i : Nat} (h : ∀ j, i ≤ j → b j = false) : ∀ j, i + 1 ≤ j → upB b i j = false := fun j hj => by
  unfold upB
  rw [if_neg (by omega)]
  exact h j (by omega)
theorem up1 {b : Nat → Bool} {v : Nat → V} {i : Nat} {x : V} {xss : List (List V)} {xs : List V} (hxs : xss[i]? = some xs) (hx : x ∈ xs) (h : ∀ j, b j = true → ∃ xs, xss[j]? = some xs ∧ v j ∈ xs) : ∀ j, upB b i j = true → ∃ xs, xss[j]? = some xs ∧ upV v i x j ∈ xs := fun j hj => by
  unfold upB at hj
  unfold upV
  by_cases e : j = i
  · rw [if_pos e]
    subst e
    exact ⟨xs, hxs, hx⟩
  · rw [if_neg e] at hj ⊢
    exact h j hj

structure Txt3 (K : PySem.W.Frag) (mg : Str → Option Value) : Prop extends Txt K mg where
  n_list : mg "list" = none
  n_enumerate : mg "enumerate" = none
def qG : Pol := ⟨"a", 5, 3, [0, 1], none, false, .go⟩
theorem okG : qG.ok := ⟨by decide +kernel, by decide +kernel, by decide, by decide, by decide, by decide, (fun i h => by cases h), fun _ => ⟨by decide, by decide⟩, trivial⟩
theorem later_same {H0 H H' H'' : Hp} (e : Later H0 H H') (s : Same H' H'') : Later H0 H H'' := fun b o n h => s b o (e b o n h)
theorem Later.refl {H0 H : Hp} : Later H0 H H := fun _ _ _ h => h
def spLaw (K : PySem.W.Frag) : Sp := fun vs H Q _ => ∃ (a : Addr) (ns : List Int), vs = [.ref a] ∧ SqL K H a (ns.map V.int) ∧ ns.length ≤ 63 ∧ ∀ H', Q (.bl true) H'
theorem ok_law {f : Addr} {fd : FuncData} (F : Fun K "law" "law" s_law f fd) (T : Txt3 K mg) (c_law_told : CalG P w K mg base 8 "_law_told" (spToldB K)) (c_law_wrong : Cal P w K mg base 1 "_law_wrong" (spWrongs K))
    (c_law_pool : Cal P w K mg base 1 "_law_pool" (spPool K)) (c_law_draw : Cal P w K mg base 1 "_law_draw" spDraw) (c_law_choose : Cal P w K mg base 2 "_law_choose" spChoose) : FnG P w K mg base CX0 10 f fd ["_law_script"] (spLaw K) := by
  refine fnG_of F sc_law (fun vs H Q E h => ?_) (fun cdv A outer s H vs Q E hgA hr h => ?_)
  · obtain ⟨a, ns, rfl, _⟩ := h
    rfl
  · obtain ⟨a, ns, rfl, hS, hlen, k⟩ := h
    have hg : (A.deeper (envOfC "law" (defScope s_law) s.heap.objs.size f cdv)).guards = some [] := hgA
    have hu : (A.deeper (envOfC "law" (defScope s_law) s.heap.objs.size f cdv)).units + 64 < cLine := hr.units
    refine ⟨_, (pss_cons (ps_set (i := 1) sc_law.nd rfl (Or.inl rfl) (pe_lst (pa_cons pe_str (pa_cons pe_str (pa_cons pe_str (pa_cons pe_str (pa_cons pe_str (pa_cons pe_str pa_nil))))))))
      (pss_cons (ps_set (i := 2) sc_law.nd rfl (Or.inl rfl) (pe_lst (pa_cons pe_int (pa_cons pe_int (pa_cons (pe_tup (pa_cons pe_int (pa_cons pe_int pa_nil))) (pa_cons pe_non (pa_cons pe_bl (pa_cons (pe_tup (pa_cons pe_str pa_nil)) pa_nil))))))))
      (pss_cons (ps_if (pt_cmpR op_ne (pe_fG c_law_told hg hr (by decide) (by rfl) (pa_cons pe_str (pa_cons (pv 2) pa_nil))) pe_str (nomark _)) (pss_one (ps_ret pe_bl)) pss_nil)
      (pss_cons (ps_for PassesOwn.never rfl (pi_enum (by rfl) T.n_enumerate (pa_cons (pe_f0 c_law_wrong hr (by decide) (by rfl)) pa_nil)) (pg_tup rfl (pgs_cons (pg_name (i := 3) sc_law.nd rfl (Or.inl rfl)) (pgs_cons (pg_name (i := 4) sc_law.nd rfl (Or.inl rfl)) pgs_nil))) (pss_one (ps_for PassesOwn.never rfl (pi_list (pv 4)) (pg_name (i := 5) sc_law.nd rfl (Or.inl rfl)) (pss_cons (ps_set (i := 6) sc_law.nd rfl (Or.inl rfl) (pe_op op_cat (pe_op op_cat (pe_slice sl_list (pv 2) po_none (po_some (pv 3))) (pe_lst (pa_cons (pv 5) pa_nil))) (pe_slice sl_list (pv 2) (po_some (pe_op op_add (pv 3) pe_int)) po_none)))
      (pss_cons (ps_if (pt_cmpR op_eq (pv 3) pe_int (nomark _)) (pss_one (ps_asg pe_non (pg_sub (pv 6) pe_int set_list))) pss_nil)
      (pss_one (ps_if (pt_cmpR op_ne (pe_fG c_law_told hg hr (by decide) (by rfl) (pa_cons pe_str (pa_cons (pv 6) pa_nil))) (pe_ix ix_list (pv 1) (pv 3) (fun _ _ => rfl)) (nomark _)) (pss_one (ps_ret pe_bl)) pss_nil)))))))
      (pss_cons (ps_for PassesOwn.never rfl (pi_list (pe_lst (pa_cons (pe_lst (pa_cons pe_int (pa_cons pe_int (pa_cons (pe_tup (pa_cons pe_int pa_nil)) (pa_cons pe_int (pa_cons pe_bl (pa_cons (pe_tup (pa_cons pe_str pa_nil)) pa_nil))))))) (pa_cons (pe_lst (pa_cons pe_int (pa_cons pe_int (pa_cons pe_non (pa_cons pe_int (pa_cons pe_bl (pa_cons (pe_tup (pa_cons pe_str pa_nil)) pa_nil))))))) pa_nil)))) (pg_name (i := 6) sc_law.nd rfl (Or.inl rfl)) (pss_one (ps_if (pt_cmpR op_ne (pe_fG c_law_told hg hr (by decide) (by rfl) (pa_cons pe_str (pa_cons (pv 6) pa_nil))) (pe_ix ix_list (pe_lst (pa_cons pe_str (pa_cons pe_str pa_nil))) (pe_callTy call_int1 (by rfl) T.n_int (by decide +kernel) (pa_cons (pe_cmpR op_eq (pe_ix ix_list (pv 6) pe_int (fun _ _ => rfl)) pe_int (nomark _)) pa_nil)) (fun _ _ => rfl)) (nomark _)) (pss_one (ps_ret pe_bl)) pss_nil)))
      (pss_cons (ps_for PassesOwn.never rfl (pi_range1 (by rfl) T.n_range (pa_cons (pe_callB (call_max2 rfl) (by rfl) T.n_max (by decide +kernel) (pa_cons pe_int (pa_cons (pe_callB (call_min2 rfl) (by rfl) T.n_min (by decide +kernel) (pa_cons (pe_callB call_len_seq (by rfl) T.n_len (by decide +kernel) (pa_cons (pv 0) pa_nil)) (pa_cons pe_int pa_nil))) pa_nil))) pa_nil)) (pg_name (i := 7) sc_law.nd rfl (Or.inl rfl)) (pss_cons (ps_set (i := 8) sc_law.nd rfl (Or.inl rfl) (pe_f c_law_pool hr (by decide) (by rfl) (pa_cons (pv 0) (pa_cons (pv 7) pa_nil))))
      (pss_cons (ps_for PassesOwn.never rfl (pi_list (pe_lst (pa_cons pe_non (pa_cons pe_int (pa_cons pe_str (pa_cons pe_str (pa_cons pe_str (pa_cons pe_str (pa_cons pe_str (pa_cons (pe_lst (pa_cons pe_str pa_nil)) (pa_cons pe_bl (pa_cons pe_str pa_nil)))))))))))) (pg_name (i := 5) sc_law.nd rfl (Or.inl rfl)) (pss_one (ps_if (pt_cmpR op_ne (pe_fG c_law_told hg hr (by decide) (by rfl) (pa_cons (pv 5) (pa_cons (pe_op op_rep (pe_lst (pa_cons pe_non pa_nil)) pe_int) pa_nil))) (pe_op op_add_str pe_str (pe_callB (call_reprA (K := K) hg hu rfl) (by rfl) T.n_repr (by decide +kernel) (pa_cons (pv 5) pa_nil))) (nomark _)) (pss_one (ps_ret pe_bl)) pss_nil)))
      (pss_cons (ps_par (i := 6) (j := 9) (by rfl) sc_law.nd rfl rfl (by decide) rfl rfl (pa_cons (pe_callTy call_list_of (by rfl) T.n_list (by decide +kernel) (pa_cons (pv 2) pa_nil)) (pa_cons pe_non pa_nil)) (by rfl))
      (pss_cons (ps_for PassesOwn.never rfl (pi_enum (by rfl) T.n_enumerate (pa_cons (pe_f0 c_law_wrong hr (by decide) (by rfl)) pa_nil)) (pg_tup rfl (pgs_cons (pg_name (i := 3) sc_law.nd rfl (Or.inl rfl)) (pgs_cons (pg_name (i := 4) sc_law.nd rfl (Or.inl rfl)) pgs_nil))) (pss_one (ps_if (pt_cmpR op_eq (pe_f c_law_draw hr (by decide) (by rfl) (pa_cons (pv 8) (pa_cons pe_int pa_nil))) pe_int (nomark _)) (pss_cons (ps_asg (pe_f c_law_choose hr (by decide) (by rfl) (pa_cons (pv 8) (pa_cons (pv 4) pa_nil))) (pg_sub (pv 6) (pv 3) set_list))
      (pss_cons (ps_if (PW.pt (pw_and (pt_cmpR op_eq (pv 3) pe_int (nomark _)) (pw_and1 (pt_cmpR op_isN (pv 9) pe_non (nomark _))))) (pss_one (ps_asg pe_non (pg_sub (pv 6) pe_int set_list))) pss_nil)
      (pss_one (ps_set (i := 9) sc_law.nd rfl (Or.inl rfl) (pe_ifExp (pt_cmpR op_isN (pv 9) pe_non (nomark _)) (pe_ix ix_list (pv 1) (pv 3) (fun _ _ => rfl)) (pv 9)))))) pss_nil)))
      (pss_cons (ps_if (PW.pt (pw_and (pt_cmpR op_notN (pv 9) pe_non (nomark _)) (pw_and (pt_cmpR op_notIn_seq pe_str (pe_lst (pa_cons (pv 9) pa_nil)) (by rfl)) (pw_and1 (pt_cmpR op_ne (pe_fG c_law_told hg hr (by decide) (by rfl) (pa_cons pe_str (pa_cons (pv 6) pa_nil))) (pv 9) (nomark _)))))) (pss_one (ps_ret pe_bl)) pss_nil)
      (pss_one (ps_if (PW.pt (pw_and (pt_cmpR op_eq (pv 9) pe_str (nomark _)) (pw_and1 (pt_cmpR op_ne (pe_fG c_law_told hg hr (by decide) (by rfl) (pa_cons pe_str (pa_cons (pv 6) pa_nil))) pe_str (nomark _))))) (pss_one (ps_ret pe_bl)) pss_nil))))))))
      (pss_one (ps_ret pe_bl)))))))), ?_⟩
    walk_at "rd"
    refine lst_go ?hl fun Wd H1 nW S1 hW => ?_
    case hl => exact Nat.le_of_ble_eq_true rfl
    walk_at "rd"
    refine tup_go ?hl fun pa H2 _ S2 hpa => ?_
    case hl => exact Nat.le_of_ble_eq_true rfl
    walk_at "rd"
    refine tup_go ?hl fun ga H3 _ S3 hga => ?_
    case hl => exact Nat.le_of_ble_eq_true rfl
    walk_at "rd"
    refine lst_go ?hl fun G H4 nG S4 hG => ?_
    case hl => exact Nat.le_of_ble_eq_true rfl
    have W4 : H4 Wd = some (.lst (wds.map V.str)) := S4 _ _ (S3 _ _ (S2 _ _ hW))
    have tp4 : TupV K H4 pa [.int 0, .int 1] := TupV.ext (Same.trans S3 S4) ⟨.tup hpa, SqT.of hpa⟩
    have tg4 : TupV K H4 ga [.str "go"] := TupV.ext S4 ⟨.tup hga, SqT.of hga⟩
    have SH4 : Same H H4 := Same.trans S1 (Same.trans S2 (Same.trans S3 S4))
    walk_at "rd"
    refine ⟨G, .str "a", .int 5, .int 3, .ref pa, .non, .bl false, .ref ga, _, rfl, SqL.of hG, .str _, (fun z h => by cases h; decide), .inr (.inr ⟨qG, ga, pa, rfl, rfl, rfl, rfl, rfl, rfl, rfl, okG, tg4, rfl, tp4, fun H5 S5 => ?_⟩)⟩
    walk_at "rd"
    rw [decide_eq_true (Eq.refl _)]
    show (if false = true then _ else _)
    walk_at "rd"
    have W5 := S5 _ _ W4
    have tp5 := TupV.ext S5 tp4
    have tg5 := TupV.ext S5 tg4
    have G5 := S5 _ _ hG
    have SH5 := Same.trans SH4 S5
    clear W4 tp4 tg4 hG SH4 S5 S4 S3 S2 S1 hW hpa hga nW nG
    refine g_for (g_ienum ?_)
    walk_at "rd"
    refine ⟨rfl, fun W rs xss H6 hl1 hl2 S6 nW hW rows => ?_⟩
    walk_at "rd"
    refine ⟨W, _, rfl, SqL.of hW, ?_⟩
    have W6 := S6 _ _ W5
    have tp6 := TupV.ext S6 tp5
    have tg6 := TupV.ext S6 tg5
    have G6 := S6 _ _ G5
    have SH6 := Same.trans SH5 S6
    clear W5 tp5 tg5 G5 SH5
    unfold ForW
    refine for_enum (K := K) (a := W) (xs := rs.map V.ref) (fun i σ H' => ∃ o3 o4 o5 o6 o7 o8 o9 : Option V, σ = [some (.ref a), some (.ref Wd), some (.ref G), o3, o4, o5, o6, o7, o8, o9] ∧ Same H6 H') ⟨_, _, _, _, _, _, _, rfl, Same.refl _⟩ (fun i σ H' _ ⟨_, _, _, _, _, _, _, _, e⟩ => SqL.of (e _ _ hW)) ?_ ?_
    · rintro i x σ H7 Tn hx ⟨o3, o4, o5, o6, o7, o8, o9, rfl, S7⟩ nT
      have ST := Same.trans S7 (same_new (o := .tup [.int (i : Nat), x]) nT)
      have ilt : i < 6 := by
        have q := (List.getElem?_eq_some_iff.mp hx).1
        rw [List.length_map, hl1] at q
        exact q
      obtain ⟨r, hr', rfl⟩ : ∃ r, rs[i]? = some r ∧ V.ref r = x := by
        rw [List.getElem?_map] at hx
        cases q : rs[i]? with
        | none => rw [q] at hx; cases hx
        | some r => rw [q] at hx; cases hx; exact ⟨r, rfl, rfl⟩
      obtain ⟨xs, hxs⟩ : ∃ xs, xss[i]? = some xs := ⟨_, List.getElem?_eq_getElem (by rw [hl2]; exact ilt)⟩
      obtain ⟨nr, hrow, l0, l1, bad⟩ := rows i r xs hr' hxs
      obtain ⟨wd, hwd, hfst⟩ := fst_one i ilt
      refine ⟨Tn, _, rfl, SqT.of upd_same, rfl, ?_⟩
      refine g_gc ?_
      walk_at "rd"
      refine g_gc ?_
      walk_at "rd"
      refine g_gn ?_
      refine g_for (g_ilist ?_)
      walk_at "rd"
      refine ⟨r, rfl, ⟨_, SqL.of (ST _ _ hrow)⟩, ?_⟩
      unfold ForW
      refine for_list (K := K) (a := r) (xs := xs) (fun i' σ H' => ∃ o5 o6 o7 o8 o9 : Option V, σ = [some (.ref a), some (.ref Wd), some (.ref G), some (.int (i : Nat)), some (.ref r), o5, o6, o7, o8, o9] ∧ Same H6 H') ⟨_, _, _, _, _, rfl, ST⟩ (fun i' σ H' _ ⟨_, _, _, _, _, _, e⟩ => SqL.of (e _ _ hrow)) ?_ ?_
      · rintro i' v σ H8 hv ⟨o5, o6, o7, o8, o9, rfl, S8⟩
        have bad8 : Bad K H8 i v := bad H8 (later_same Later.refl S8) v (List.mem_of_getElem? hv)
        walk_at "rd"
        refine g_sl ?_
        walk_at "rd"
        refine g_nopart (g_part ?_)
        walk_at "rd"
        refine ⟨_, rfl, ?_⟩
        refine sl_go (SqL.of (S8 _ _ G6)) fun s1 H9 S9 hs1 => ?_
        walk_at "rd"
        refine lst_go ?hl fun s2 H10 _ S10 hs2 => ?_
        case hl => exact Nat.le_of_ble_eq_true rfl
        walk_at "rd"
        refine cat_go' (S10 _ _ hs1) hs2 (cut_l1 i ilt) fun s3 H11 _ S11 hs3 => ?_
        walk_at "rd"
        refine g_sl ?_
        walk_at "rd"
        refine g_part ?_
        walk_at "rd"
        refine ⟨_, rfl, g_nopart ?_⟩
        refine sl_go (SqL.of (S11 _ _ (S10 _ _ (S9 _ _ (S8 _ _ G6))))) fun s4 H12 S12 hs4 => ?_
        walk_at "rd"
        refine cat_go' (S12 _ _ hs3) hs4 (cut_l2 i ilt) fun s5 H13 n5 S13 hs5 => ?_
        rw [cut_set i ilt] at hs5
        walk_at "rd"
        have SX13 : Same H6 H13 := Same.trans S8 (Same.trans S9 (Same.trans S10 (Same.trans S11 (Same.trans S12 S13))))
        by_cases h3 : i = 3
        · subst h3
          show (if true = true then _ else _)
          walk_at "rd"
          refine ⟨s5, _, 2, 2, rfl, rfl, hs5, rfl, ?_⟩
          have SX : Same H6 (upd H13 s5 (.lst (([V.int 5, V.int 3, V.ref pa, V.non, V.bl false, V.ref ga].set 3 v).set 2 .non))) := fun b o hb => by
            have q := S12 _ _ (S11 _ _ (S10 _ _ (S9 _ _ (S8 _ _ hb))))
            rw [upd_ne (fun z => by rw [z, n5] at q; cases q)]
            exact S13 _ _ q
          have hX : (upd H13 s5 (.lst (([V.int 5, V.int 3, V.ref pa, V.non, V.bl false, V.ref ga].set 3 v).set 2 .non))) s5 = some (.lst (rowB (fun j => j == 3) (fun _ => v) pa ga)) := upd_same
          generalize upd H13 s5 _ = HX at hX SX ⊢
          walk_at "rd"
          refine told_row (b := fun j => j == 3) (v := fun _ => v) (SqL.of hX) (TupV.ext SX tp6) (TupV.ext SX tg6) (fun j hj hji => ?hb) hfst fun H14 S14 => ?_
          case hb =>
            have e : j = 3 := by simpa using hji
            subst e
            exact bad _ (later_same Later.refl SX) v (List.mem_of_getElem? hv)
          walk_at "rd"
          refine g_ixL (SqL.of (S14 _ _ (SX _ _ W6))) (v := .str wd) (at_of (j := 3) (by omega) (by rw [List.getElem?_map, hwd]; rfl)) ?_
          walk_at "rd"
          rw [decide_eq_true (Eq.refl _)]
          show (if false = true then _ else _)
          walk_at "rd"
          exact ⟨_, _, _, _, _, rfl, Same.trans SX S14⟩
        · rw [decide_eq_false (show ¬ (V.int (i : Int) = V.int 3) from fun z => by injection z with z; omega)]
          show (if false = true then _ else _)
          have SX := SX13
          have hX := hs5
          rw [row_one i ilt h3] at hX
          walk_at "rd"
          refine told_row (b := fun j => j == i) (v := fun _ => v) (SqL.of hX) (TupV.ext SX tp6) (TupV.ext SX tg6) (fun j hj hji => ?hb) hfst fun H14 S14 => ?_
          case hb =>
            have e : j = i := by simpa using hji
            subst e
            exact bad _ (later_same Later.refl SX) v (List.mem_of_getElem? hv)
          walk_at "rd"
          refine g_ixL (SqL.of (S14 _ _ (SX _ _ W6))) (v := .str wd) (at_of (j := i) (by omega) (by rw [List.getElem?_map, hwd]; rfl)) ?_
          walk_at "rd"
          rw [decide_eq_true (Eq.refl _)]
          show (if false = true then _ else _)
          walk_at "rd"
          exact ⟨_, _, _, _, _, rfl, Same.trans SX S14⟩
      · rintro σ H8 ⟨o5, o6, o7, o8, o9, rfl, S8⟩
        exact ⟨_, _, _, _, _, _, _, rfl, S8⟩
    · rintro σ H7 ⟨o3, o4, o5, o6, o7, o8, o9, rfl, S7⟩
      have W7 := S7 _ _ W6
      have tp7 := TupV.ext S7 tp6
      have tg7 := TupV.ext S7 tg6
      have G7 := S7 _ _ G6
      have SH7 := Same.trans SH6 S7
      clear W6 tp6 tg6 G6 SH6 hW rows S6 S7
      walk_at "rd"
      refine g_for (g_ilist ?_)
      walk_at "rd"
      refine tup_go ?hl fun p1 H8 _ S8 h8 => ?_
      case hl => exact Nat.le_of_ble_eq_true rfl
      walk_at "rd"
      refine tup_go ?hl fun e1 H9 _ S9 h9 => ?_
      case hl => exact Nat.le_of_ble_eq_true rfl
      walk_at "rd"
      refine lst_go ?hl fun b1 H10 _ S10 h10 => ?_
      case hl => exact Nat.le_of_ble_eq_true rfl
      walk_at "rd"
      refine tup_go ?hl fun e2 H11 _ S11 h11 => ?_
      case hl => exact Nat.le_of_ble_eq_true rfl
      walk_at "rd"
      refine lst_go ?hl fun b2 H12 _ S12 h12 => ?_
      case hl => exact Nat.le_of_ble_eq_true rfl
      walk_at "rd"
      refine lst_go ?hl fun L H13 _ S13 h13 => ?_
      case hl => exact Nat.le_of_ble_eq_true rfl
      have f1 := S13 _ _ (S12 _ _ (S11 _ _ h10))
      have f2 := S13 _ _ h12
      have f3 : H13 p1 = some (.tup [.int 0]) := S13 _ _ (S12 _ _ (S11 _ _ (S10 _ _ (S9 _ _ h8))))
      have f4 : H13 e1 = some (.tup [.str "go"]) := S13 _ _ (S12 _ _ (S11 _ _ (S10 _ _ h9)))
      have f5 : H13 e2 = some (.tup [.str "go"]) := S13 _ _ (S12 _ _ h11)
      have SX : Same H7 H13 := Same.trans S8 (Same.trans S9 (Same.trans S10 (Same.trans S11 (Same.trans S12 S13))))
      clear h8 h9 h10 h11 h12 S8 S9 S10 S11 S12 S13
      refine ⟨L, rfl, ⟨_, SqL.of h13⟩, ?_⟩
      unfold ForW
      refine for_list (K := K) (a := L) (xs := [.ref b1, .ref b2]) (fun i' σ H' => ∃ o3 o4 o5 o6 o7 o8 o9 : Option V, σ = [some (.ref a), some (.ref Wd), some (.ref G), o3, o4, o5, o6, o7, o8, o9] ∧ Same H13 H') ⟨_, _, _, _, _, _, _, rfl, Same.refl _⟩ (fun i' σ H' _ ⟨_, _, _, _, _, _, _, _, e⟩ => SqL.of (e _ _ h13)) ?_ ?_
      · rintro i' y σ H14 hy ⟨o3, o4, o5, o6, o7, o8, o9, rfl, S14⟩
        match i', hy with
        | 0, hy =>
          cases hy
          walk_at "rd"
          refine told_go (SqL.of (S14 _ _ f1)) (wr_two (S14 _ _ f3) (S14 _ _ f4)) fun H15 S15 => ?_
          walk_at "rd"
          refine lst_go ?hl fun c1 H16 _ S16 hc1 => ?_
          case hl => exact Nat.le_of_ble_eq_true rfl
          walk_at "rd"
          refine g_ixL (SqL.of (S16 _ _ (S15 _ _ (S14 _ _ f1)))) (v := .int 2) (atI_nat (j := 1) rfl) ?_
          walk_at "rd"
          refine .inr ⟨_, rfl, ?_⟩
          refine g_ixL (SqL.of hc1) (v := .str "pauses") (atI_nat (j := 0) rfl) ?_
          walk_at "rd"
          rw [decide_eq_true (Eq.refl _)]
          show (if false = true then _ else _)
          walk_at "rd"
          exact ⟨_, _, _, _, _, _, _, rfl, Same.trans S14 (Same.trans S15 S16)⟩
        | 1, hy =>
          cases hy
          walk_at "rd"
          refine told_go (SqL.of (S14 _ _ f2)) (wr_one (S14 _ _ f5)) fun H15 S15 => ?_
          walk_at "rd"
          refine lst_go ?hl fun c1 H16 _ S16 hc1 => ?_
          case hl => exact Nat.le_of_ble_eq_true rfl
          walk_at "rd"
          refine g_ixL (SqL.of (S16 _ _ (S15 _ _ (S14 _ _ f2)))) (v := .int 1) (atI_nat (j := 1) rfl) ?_
          walk_at "rd"
          refine .inr ⟨_, rfl, ?_⟩
          refine g_ixL (SqL.of hc1) (v := .str "early") (atI_nat (j := 1) rfl) ?_
          walk_at "rd"
          rw [decide_eq_true (Eq.refl _)]
          show (if false = true then _ else _)
          walk_at "rd"
          exact ⟨_, _, _, _, _, _, _, rfl, Same.trans S14 (Same.trans S15 S16)⟩
        | n + 2, hy => simp at hy
      · rintro σ H14 ⟨o3, o4, o5, o6, o7, o8, o9, rfl, S14⟩
        have W14 := S14 _ _ (SX _ _ W7)
        have tp14 := TupV.ext S14 (TupV.ext SX tp7)
        have tg14 := TupV.ext S14 (TupV.ext SX tg7)
        have G14 := S14 _ _ (SX _ _ G7)
        have SH14 := Same.trans SH7 (Same.trans SX S14)
        clear W7 tp7 tg7 G7 SH7 SX S14 f1 f2 f3 f4 f5 h13
        walk_at "rd"
        refine g_for (g_irng ?_)
        walk_at "rd"
        refine ⟨a, _, rfl, .inl (SH14.seq hS), ?_⟩
        walk_at "rd"
        refine ⟨_, _, rfl, ?_⟩
        walk_at "rd"
        refine ⟨_, _, rfl, ?_⟩
        walk_at "rd"
        obtain ⟨j, ej, j0, j8⟩ : ∃ j : Int, (if (if (6 : Int) < ((ns.map V.int).length : Int) then 6 else ((ns.map V.int).length : Int)) > 1 then (if (6 : Int) < ((ns.map V.int).length : Int) then 6 else ((ns.map V.int).length : Int)) else 1) = j ∧ 0 ≤ j ∧ j ≤ 6 := by
          refine ⟨_, rfl, ?_, ?_⟩ <;> (split <;> split <;> omega)
        rw [ej]
        refine ⟨j, rfl, by omega, by omega, ?_⟩
        unfold ForW
        refine for_range (lo := 0) (n := j.toNat) (fun i σ H' => ∃ o3 o4 o5 o6 o7 o8 o9 : Option V, σ = [some (.ref a), some (.ref Wd), some (.ref G), o3, o4, o5, o6, o7, o8, o9] ∧ Same H14 H') ⟨_, _, _, _, _, _, _, rfl, Same.refl _⟩ ?_ ?_
        · rintro kk σ H15 hi ⟨o3, o4, o5, o6, o7, o8, o9, rfl, S15⟩
          walk_at "rd"
          refine ⟨a, 0 + (kk : Int), ns, rfl, (Same.trans SH14 S15).seq hS, by omega, by omega, fun p H16 p0 S16 pl16 => ?_⟩
          walk_at "rd"
          refine g_for (g_ilist ?_)
          walk_at "rd"
          refine lst_go ?hl fun la H17 _ S17 h17 => ?_
          case hl => exact Nat.le_of_ble_eq_true rfl
          walk_at "rd"
          refine lst_go ?hl fun L2 H18 _ S18 h18 => ?_
          case hl => exact Nat.le_of_ble_eq_true rfl
          have nb : ∀ H', Same H18 H' → ∀ v ∈ [V.non, .int 5, .str "", .str "A", .str "ninesigns", .str "a b", .str "a1", .ref la, .bl true, .str "a~"], NB K H' v := fun H' e => nb_all (e _ _ (S18 _ _ h17))
          refine ⟨L2, rfl, ⟨_, SqL.of h18⟩, ?_⟩
          unfold ForW
          refine for_list (K := K) (a := L2) (xs := [V.non, .int 5, .str "", .str "A", .str "ninesigns", .str "a b", .str "a1", .ref la, .bl true, .str "a~"]) (fun i' σ H' => ∃ o5 : Option V, σ = [some (.ref a), some (.ref Wd), some (.ref G), o3, o4, o5, o6, some (.int (0 + (kk : Int))), some (.ref p), o9] ∧ Same H18 H') ⟨_, rfl, Same.refl _⟩ (fun i' σ H' _ ⟨_, _, e⟩ => SqL.of (e _ _ h18)) ?_ ?_
          · rintro i' v σ H19 hv ⟨o5, rfl, S19⟩
            have nbv := fun H' e => nb H' e v (List.mem_of_getElem? hv)
            walk_at "rd"
            refine lst_go ?hl fun c1 H20 _ S20 h20 => ?_
            case hl => exact Nat.le_of_ble_eq_true rfl
            walk_at "rd"
            refine ⟨c1, 6, _, rfl, rfl, h20, by decide, by decide, by decide, fun c2 n21 => ?_⟩
            have S21 := Same.trans S19 (Same.trans S20 (same_new (o := .lst [V.non, .non, .non, .non, .non, .non]) n21))
            obtain ⟨nn, z, tn, hz, hnm, hsh, hsz⟩ := nbv _ S21
            refine ⟨c2, v, .non, .non, .non, .non, .non, .non, nn, rfl, SqL.of upd_same, tn, hz, .inl ⟨hnm, z, hsh, hsz, fun H22 S22 => ?_⟩⟩
            walk_at "rd"
            refine ⟨v, z, rfl, hsh.ext S22, ?_⟩
            walk_at "rd"
            refine ⟨_, _, rfl, rfl, hsz, ?_⟩
            walk_at "rd"
            rw [decide_eq_true (Eq.refl _)]
            show (if false = true then _ else _)
            walk_at "rd"
            exact ⟨_, rfl, Same.trans S21 S22⟩
          · rintro σ H19 ⟨o5, rfl, S19⟩
            walk_at "rd"
            refine g_par ?_
            walk_at "rd"
            have SH19 : Same H14 H19 := Same.trans S15 (Same.trans S16 (Same.trans S17 (Same.trans S18 S19)))
            refine ⟨G, _, rfl, .inl (SqL.of (SH19 _ _ G14)), fun bt nbt => ?_⟩
            walk_at "rd"
            refine ⟨_, _, rfl, ?_⟩
            walk_at "rd"
            have pl19 : PoolAt H19 p := pl16.ext (Same.trans S17 (Same.trans S18 S19))
            have bne : bt ≠ p := fun z => by obtain ⟨_, _, q, _⟩ := pl19; rw [← z, nbt] at q; cases q
            have p15 : H14 p = none := by
              cases q : H14 p with
              | none => rfl
              | some o => rw [S15 _ _ q] at p0; cases p0
            have b14 : H14 bt = none := by
              cases q : H14 bt with
              | none => rfl
              | some o => rw [SH19 _ _ q] at nbt; cases nbt
            have S20 : Same H19 (upd H19 bt (.lst [V.int 5, .int 3, .ref pa, .non, .bl false, .ref ga])) := same_new nbt
            have hb20 : (upd H19 bt (.lst [V.int 5, .int 3, .ref pa, .non, .bl false, .ref ga])) bt = some (.lst [V.int 5, .int 3, .ref pa, .non, .bl false, .ref ga]) := upd_same
            have pl20 := pl19.ext S20
            have SH20 := Same.trans SH19 S20
            generalize upd H19 bt (.lst [V.int 5, .int 3, .ref pa, .non, .bl false, .ref ga]) = H20 at S20 hb20 pl20 SH20 ⊢
            clear S20 pl19 SH19 S15 S16 S17 S18 S19 h17 h18 nb pl16 p0 nbt
            refine g_for (g_ienum ?_)
            walk_at "rd"
            refine ⟨rfl, fun W rs xss H21 hl1 hl2 S21 nW hW rows => ?_⟩
            walk_at "rd"
            refine ⟨W, _, rfl, SqL.of hW, ?_⟩
            have hb21 := S21 _ _ hb20
            have pl21 := pl20.ext S21
            have SH21 := Same.trans SH20 S21
            have wne : W ≠ p ∧ W ≠ bt := ⟨(fun z => by obtain ⟨_, _, q, _⟩ := pl20; rw [← z, nW] at q; cases q), (fun z => by rw [z, hb20] at nW; cases nW)⟩
            have wdne : Wd ≠ p ∧ Wd ≠ bt := ⟨(fun z => by rw [← z, W14] at p15; cases p15), (fun z => by rw [← z, W14] at b14; cases b14)⟩
            have W21 := SH21 _ _ W14
            unfold ForW
            refine for_enum (K := K) (a := W) (xs := rs.map V.ref) (fun i σ H' => ∃ (b : Nat → Bool) (v : Nat → V) (o3 o4 o5 : Option V), σ = [some (.ref a), some (.ref Wd), some (.ref G), o3, o4, o5, some (.ref bt), some (.int (0 + (kk : Int))), some (.ref p), some (fstB b)] ∧
                (∀ j, i ≤ j → b j = false) ∧ (∀ j, b j = true → ∃ xs, xss[j]? = some xs ∧ v j ∈ xs) ∧ H' bt = some (.lst (rowB b v pa ga)) ∧ PoolAt H' p ∧ (∀ c o, c ≠ p → c ≠ bt → H21 c = some o → H' c = some o))
              ⟨fun _ => false, fun _ => .non, _, _, _, rfl, (fun _ _ => rfl), (fun _ h => by cases h), hb21, pl21, fun _ _ _ _ h => h⟩ (fun i σ H' _ ⟨_, _, _, _, _, _, _, _, _, _, e⟩ => SqL.of (e _ _ wne.1 wne.2 hW)) ?_ ?_
            · rintro i x σ H22 Tn hx ⟨b, v, o3, o4, o5, rfl, hb0, hb1, hbt, pl, fr⟩ nT
              have ilt : i < 6 := by
                have q := (List.getElem?_eq_some_iff.mp hx).1
                rw [List.length_map, hl1] at q
                exact q
              obtain ⟨r, hr', rfl⟩ : ∃ r, rs[i]? = some r ∧ V.ref r = x := by
                rw [List.getElem?_map] at hx
                cases q : rs[i]? with
                | none => rw [q] at hx; cases hx
                | some r => rw [q] at hx; cases hx; exact ⟨r, rfl, rfl⟩
              obtain ⟨xs, hxs⟩ : ∃ xs, xss[i]? = some xs := ⟨_, List.getElem?_eq_getElem (by rw [hl2]; exact ilt)⟩
              obtain ⟨nr, hrow, l0, l1, bad⟩ := rows i r xs hr' hxs
              have rne : r ≠ p ∧ r ≠ bt := ⟨(fun z => by obtain ⟨_, _, q, _⟩ := pl20; rw [← z, nr] at q; cases q), (fun z => by rw [z, hb20] at nr; cases nr)⟩
              have S23 : Same H22 (upd H22 Tn (.tup [.int (i : Nat), .ref r])) := same_new nT
              refine ⟨Tn, _, rfl, SqT.of upd_same, rfl, ?_⟩
              refine g_gc ?_
              walk_at "rd"
              refine g_gc ?_
              walk_at "rd"
              refine g_gn ?_
              have hbt := S23 _ _ hbt
              have pl := pl.ext S23
              have fr : ∀ c o, c ≠ p → c ≠ bt → H21 c = some o → (upd H22 Tn (.tup [.int (i : Nat), .ref r])) c = some o := fun c o h1 h2 h => S23 _ _ (fr c o h1 h2 h)
              generalize upd H22 Tn (.tup [.int (i : Nat), .ref r]) = H23 at hbt pl fr S23 ⊢
              clear S23
              walk_at "rd"
              refine ⟨p, 2, rfl, pl, by decide, by decide, fun dr H24 r0 r1 pl24 sx24 => ?_⟩
              have hbt := sx24 _ _ bne hbt
              have fr : ∀ c o, c ≠ p → c ≠ bt → H21 c = some o → H24 c = some o := fun c o h1 h2 h => sx24 _ _ h1 (fr c o h1 h2 h)
              clear sx24 pl
              walk_at "rd"
              refine g_ite (fun e => ?_) (fun e => ?_)
              · walk_at "rd"
                refine ⟨p, r, xs, rfl, pl24, rne.1, fr _ _ rne.1 rne.2 hrow, l0, l1, fun x H25 hx pl25 sx25 => ?_⟩
                have hbt := sx25 _ _ bne hbt
                have fr : ∀ c o, c ≠ p → c ≠ bt → H21 c = some o → H25 c = some o := fun c o h1 h2 h => sx25 _ _ h1 (fr c o h1 h2 h)
                clear sx25 pl24
                walk_at "rd"
                refine ⟨bt, _, i, i, rfl, rfl, hbt, ix6 i ilt, ?_⟩
                have pl := pl25.off (o := .lst ((rowB b v pa ga).set i x)) bne
                have fr : ∀ c o, c ≠ p → c ≠ bt → H21 c = some o → (upd H25 bt (.lst ((rowB b v pa ga).set i x))) c = some o := fun c o h1 h2 h => by rw [upd_ne h2]; exact fr c o h1 h2 h
                have hbt : (upd H25 bt (.lst ((rowB b v pa ga).set i x))) bt = some (.lst ((rowB b v pa ga).set i x)) := upd_same
                generalize upd H25 bt (.lst ((rowB b v pa ga).set i x)) = H26 at hbt pl fr ⊢
                walk_at "rd"
                by_cases h3 : i = 3
                · rw [decide_eq_true (show V.int (i : Int) = V.int 3 by rw [h3]; rfl)]
                  show (if true = true then _ else _)
                  walk_at "rd"
                  refine ⟨rfl, ?_⟩
                  walk_at "rd"
                  rcases fst_cases b with ⟨h0, _⟩ | ⟨wd0, h0⟩
                  · rw [decide_eq_true h0]
                    show (if true = true then _ else _)
                    walk_at "rd"
                    refine ⟨bt, _, 2, 2, rfl, rfl, hbt, ?ix, ?_⟩
                    case ix => rw [List.length_set]; rfl
                    have pl := pl.off (o := .lst (((rowB b v pa ga).set i x).set 2 .non)) bne
                    have fr : ∀ c o, c ≠ p → c ≠ bt → H21 c = some o → (upd H26 bt (.lst (((rowB b v pa ga).set i x).set 2 .non))) c = some o := fun c o h1 h2 h => by rw [upd_ne h2]; exact fr c o h1 h2 h
                    have hbt : (upd H26 bt (.lst (((rowB b v pa ga).set i x).set 2 .non))) bt = some (.lst (((rowB b v pa ga).set i x).set 2 .non)) := upd_same
                    generalize upd H26 bt (.lst (((rowB b v pa ga).set i x).set 2 .non)) = H27 at hbt pl fr ⊢
                    have hbt : H27 bt = some (.lst (rowB (upB b i) (upV v i x) pa ga)) := by
                      subst h3
                      rw [hbt, three_non h0]
                    clear h0
                    walk_at "rd"
                    refine ⟨rfl, ?_⟩
                    walk_at "rd"
                    rcases fst_cases b with ⟨h0, _⟩ | ⟨wd0, h0⟩
                    · obtain ⟨wd, hwd, hf⟩ := fst_up_non h0 i ilt
                      rw [h0]
                      show (if true = true then _ else _)
                      walk_at "rd"
                      refine g_ixL (SqL.of (fr _ _ wdne.1 wdne.2 W21)) (v := .str wd) (at_of (j := i) (by omega) (by rw [List.getElem?_map, hwd]; rfl)) ?_
                      walk_at "rd"
                      exact ⟨upB b i, upV v i x, _, _, _, (by rw [hf]; rfl), up0 hb0, up1 hxs hx hb1, hbt, pl, fr⟩
                    · have hf := fst_up_str h0 i ilt hb0
                      rw [h0, decide_eq_false (show ¬ (V.str wd0 = V.non) from fun z => by cases z)]
                      show (if false = true then _ else _)
                      walk_at "rd"
                      exact ⟨upB b i, upV v i x, _, _, _, (by rw [hf]; rfl), up0 hb0, up1 hxs hx hb1, hbt, pl, fr⟩
                  · rw [decide_eq_false (show ¬ (fstB b = V.non) from fun z => by rw [h0] at z; cases z)]
                    show (if false = true then _ else _)
                    have hbt : H26 bt = some (.lst (rowB (upB b i) (upV v i x) pa ga)) := by
                      subst h3
                      rw [hbt, three_str hb0 h0]
                    clear h0
                    walk_at "rd"
                    refine ⟨rfl, ?_⟩
                    walk_at "rd"
                    rcases fst_cases b with ⟨h0, _⟩ | ⟨wd0, h0⟩
                    · obtain ⟨wd, hwd, hf⟩ := fst_up_non h0 i ilt
                      rw [h0]
                      show (if true = true then _ else _)
                      walk_at "rd"
                      refine g_ixL (SqL.of (fr _ _ wdne.1 wdne.2 W21)) (v := .str wd) (at_of (j := i) (by omega) (by rw [List.getElem?_map, hwd]; rfl)) ?_
                      walk_at "rd"
                      exact ⟨upB b i, upV v i x, _, _, _, (by rw [hf]; rfl), up0 hb0, up1 hxs hx hb1, hbt, pl, fr⟩
                    · have hf := fst_up_str h0 i ilt hb0
                      rw [h0, decide_eq_false (show ¬ (V.str wd0 = V.non) from fun z => by cases z)]
                      show (if false = true then _ else _)
                      walk_at "rd"
                      exact ⟨upB b i, upV v i x, _, _, _, (by rw [hf]; rfl), up0 hb0, up1 hxs hx hb1, hbt, pl, fr⟩
                · rw [decide_eq_false (show ¬ (V.int (i : Int) = V.int 3) from fun z => by injection z with z; omega)]
                  show (if false = true then _ else _)
                  rw [set_row i ilt h3 hb0] at hbt
                  walk_at "rd"
                  refine ⟨rfl, ?_⟩
                  walk_at "rd"
                  rcases fst_cases b with ⟨h0, _⟩ | ⟨wd0, h0⟩
                  · obtain ⟨wd, hwd, hf⟩ := fst_up_non h0 i ilt
                    rw [h0]
                    show (if true = true then _ else _)
                    walk_at "rd"
                    refine g_ixL (SqL.of (fr _ _ wdne.1 wdne.2 W21)) (v := .str wd) (at_of (j := i) (by omega) (by rw [List.getElem?_map, hwd]; rfl)) ?_
                    walk_at "rd"
                    exact ⟨upB b i, upV v i x, _, _, _, (by rw [hf]; rfl), up0 hb0, up1 hxs hx hb1, hbt, pl, fr⟩
                  · have hf := fst_up_str h0 i ilt hb0
                    rw [h0, decide_eq_false (show ¬ (V.str wd0 = V.non) from fun z => by cases z)]
                    show (if false = true then _ else _)
                    walk_at "rd"
                    exact ⟨upB b i, upV v i x, _, _, _, (by rw [hf]; rfl), up0 hb0, up1 hxs hx hb1, hbt, pl, fr⟩
              · walk_at "rd"
                exact ⟨b, v, _, _, _, rfl, fun j h => hb0 j (by omega), hb1, hbt, pl24, fr⟩
            · rintro σ H22 ⟨b, v, o3, o4, o5, rfl, _, hb1, hbt, pl, fr⟩
              have hbad : ∀ H'', Same H22 H'' → ∀ j, j < 6 → b j = true → Bad K H'' j (v j) := fun H'' e j hj hbj => by
                obtain ⟨xs, h1, h2⟩ := hb1 j hbj
                refine (rows j rs[j] xs (List.getElem?_eq_getElem (by rw [hl1]; exact hj)) h1).2.2.2.2 H'' (fun c o h20 h21 => e _ _ (fr c o ?_ ?_ h21)) _ h2
                · intro z
                  obtain ⟨_, _, q, _⟩ := pl20
                  rw [← z, h20] at q
                  cases q
                · intro z
                  rw [z, hb20] at h20
                  cases h20
              have SX : Same H14 H22 := fun c o hc => fr c o (fun z => by rw [z, p15] at hc; cases hc) (fun z => by rw [z, b14] at hc; cases hc) (SH21 _ _ hc)
              clear rows W21 SH21 S21 hb20 pl20 SH20 hb21 pl21 fr
              walk_at "rd"
              refine ⟨rfl, ?_⟩
              walk_at "rd"
              rcases fst_cases b with ⟨h0, _⟩ | ⟨wd0, h0⟩
              · rw [h0]
                show (if false = true then _ else _)
                walk_at "rd"
                rw [decide_eq_false (show ¬ (V.non = V.str "tries") from fun z => by cases z)]
                show (if false = true then _ else _)
                walk_at "rd"
                exact ⟨_, _, _, _, _, _, _, rfl, SX⟩
              · rw [h0]
                show (if true = true then _ else _)
                walk_at "rd"
                refine lst_go ?hl fun c1 H23 _ S23 h23 => ?_
                case hl => exact Nat.le_of_ble_eq_true rfl
                refine ⟨c1, _, rfl, .inl (SqL.of h23), rfl, rfl, ?_⟩
                have SX := Same.trans SX S23
                have hbt := S23 _ _ hbt
                have hbad : ∀ H'', Same H23 H'' → ∀ j, j < 6 → b j = true → Bad K H'' j (v j) := fun H'' e => hbad H'' (Same.trans S23 e)
                by_cases hw : wd0 = "tries"
                · rw [hw] at h0 ⊢
                  refine ⟨false, rfl, ?_⟩
                  show (if false = true then _ else _)
                  walk_at "rd"
                  rw [decide_eq_true (Eq.refl _)]
                  show (if true = true then _ else _)
                  walk_at "rd"
                  refine told_row (SqL.of hbt) (TupV.ext SX tp14) (TupV.ext SX tg14) (hbad _ (Same.refl _)) h0 fun H24 S24 => ?_
                  walk_at "rd"
                  rw [decide_eq_true (Eq.refl _)]
                  show (if false = true then _ else _)
                  walk_at "rd"
                  exact ⟨_, _, _, _, _, _, _, rfl, Same.trans SX S24⟩
                · have e1 : inV (.str "tries") [.str wd0] = false := by
                    show (eqV (.str wd0) (.str "tries") || false) = false
                    rw [Bool.or_false]
                    show decide (wd0 = "tries") = false
                    exact decide_eq_false hw
                  rw [e1]
                  refine ⟨true, rfl, ?_⟩
                  show (if true = true then _ else _)
                  walk_at "rd"
                  refine told_row (SqL.of hbt) (TupV.ext SX tp14) (TupV.ext SX tg14) (hbad _ (Same.refl _)) h0 fun H24 S24 => ?_
                  walk_at "rd"
                  rw [decide_eq_true (Eq.refl _)]
                  show (if false = true then _ else _)
                  walk_at "rd"
                  rw [decide_eq_false (show ¬ (V.str wd0 = V.str "tries") from fun z => by injection z with z; exact hw z)]
                  show (if false = true then _ else _)
                  walk_at "rd"
                  exact ⟨_, _, _, _, _, _, _, rfl, Same.trans SX S24⟩
        · rintro σ H15 _
          walk_at "rd"
          exact k _
end
end K2

namespace K2
open PySem PySem.Spec PyProof.Rows L2 Mc Mx
theorem exm_is {K : PySem.W.Frag} {A B : Addr} {b : Bool} (be : PySem.W.subIn K (.ref B) (.type "BaseException") = some true) (ty : PySem.W.typeIn K (.ref B) = some (.type "type")) (hd : PySem.W.hasDictIn K B = true) (s : PySem.W.subIn K (.ref A) (.ref B) = some b) : PySem.W.exmOne K (.ref A) (.ref B) = some b := by
  obtain ⟨cd, hc, _⟩ := PySem.W.any_some hd
  unfold PySem.W.exmOne
  rw [be]
  show (if ((PySem.W.clsIn K B).isSome && PySem.W.typeIn K (.ref B) == some (.type "type")) = true then PySem.W.subIn K (.ref A) (.ref B) else none) = some b
  rw [hc, ty, s]
  simp
theorem all_mk {l : PySem.W.OpenLaw} {w : World} {K : PySem.W.Frag} {h : Heap} {mg : Str → Option Value} {fa : Addr} {fg0 : Addr} {odg0 ang0 : Option Addr} {slg0 : Array (Option Value)} {ocg0 dcg0 pmg0 cdg0 ctg0 kVg0 : Value} {fg1 : Addr} {odg1 ang1 : Option Addr} {slg1 : Array (Option Value)} {ocg1 dcg1 pmg1 cdg1 ctg1 kVg1 : Value} {fg2 : Addr} {odg2 ang2 : Option Addr} {slg2 : Array (Option Value)} {ocg2 dcg2 pmg2 cdg2 ctg2 kVg2 : Value} {fg3 : Addr} {odg3 ang3 : Option Addr} {slg3 : Array (Option Value)} {ocg3 dcg3 pmg3 cdg3 ctg3 kVg3 : Value} {fg4 : Addr} {odg4 ang4 : Option Addr} {slg4 : Array (Option Value)} {ocg4 dcg4 pmg4 cdg4 ctg4 kVg4 : Value} {fg5 : Addr} {odg5 ang5 : Option Addr} {slg5 : Array (Option Value)} {ocg5 dcg5 pmg5 cdg5 ctg5 kVg5 : Value} {fg6 : Addr} {odg6 ang6 : Option Addr} {slg6 : Array (Option Value)} {ocg6 dcg6 pmg6 cdg6 ctg6 kVg6 : Value} {fg7 : Addr} {odg7 ang7 : Option Addr} {slg7 : Array (Option Value)} {ocg7 dcg7 pmg7 cdg7 ctg7 kVg7 : Value} {fg8 : Addr} {odg8 ang8 : Option Addr} {slg8 : Array (Option Value)} {ocg8 dcg8 pmg8 cdg8 ctg8 kVg8 : Value} {fg9 : Addr} {odg9 ang9 : Option Addr} {slg9 : Array (Option Value)} {ocg9 dcg9 pmg9 cdg9 ctg9 kVg9 : Value} {fg10 : Addr} {odg10 ang10 : Option Addr} {slg10 : Array (Option Value)} {ocg10 dcg10 pmg10 cdg10 ctg10 kVg10 : Value} {fg11 : Addr} {odg11 ang11 : Option Addr} {slg11 : Array (Option Value)} {ocg11 dcg11 pmg11 cdg11 ctg11 kVg11 : Value} {fg12 : Addr} {odg12 ang12 : Option Addr} {slg12 : Array (Option Value)} {ocg12 dcg12 pmg12 cdg12 ctg12 kVg12 : Value} {fL : Addr} {odL anL : Option Addr} {slL : Array (Option Value)} {ocL dcL pmL cdL ctL kVL : Value} {tL : Tok} {tML tMT : Tok} {C : Addr} {Dk : Addr} {fI : Addr} {odI anI : Option Addr} {slI : Array (Option Value)} {ocI dcI pmI cdI ctI : Value} {go : Addr} {tk1 tk2 : Tok} {gd : Option Addr} {gn : Nat} {gs : Array (Option Value)} {CN : Addr} {nmN qnN : Str} {NN : Addr} {bsN bmN : List Value} {snN : List Str} {subN : List Value} {abN : Bool} {colN : Option Bool} {ddN : Option Addr} {k0N k1N k2N k3N k5N : Option Value} {fN cN ccN : Addr} {odN anN cddN cldN : Option Addr} {oslN ccsN cslN : Array (Option Value)} {ocN kVN dcN pmN ctN cclN clN : Value} {vsN : Array Value} {flN : Str} {tfN : Tok} {CP : Addr} {nmP qnP : Str} {NP : Addr} {bsP bmP : List Value} {snP : List Str} {subP : List Value} {abP : Bool} {colP : Option Bool} {ddP : Option Addr} {k0P k1P k2P k3P k5P : Option Value} {fP cP ccP : Addr} {odP anP cddP cldP : Option Addr} {oslP ccsP cslP : Array (Option Value)} {ocP kVP dcP pmP ctP cclP clP : Value} {vsP : Array Value} {flP : Str} {tfP : Tok}
    (X : K.In h) (G : h.Ns mainGlobals mg) (hfa : mg "law" = some (.ref fa))
    (ag0 : PySem.W.nsIn K mainGlobals "is_integer" = some (some (.ref fg0)))
    (lg0 : K.lookup fg0 = some ⟨ocg0, odg0, .func (PySem.W.fnOf "is_integer" "is_integer" (defArgs s_is_integer) (defBody s_is_integer) (defScope s_is_integer) .none kVg0 dcg0 pmg0 ang0 cdg0 ctg0), slg0⟩)
    (cg0 : PySem.W.codeIn K cdg0 "is_integer" = true)
    (kg0 : PySem.W.keepIn K (.ref fg0) = true)
    (ag1 : PySem.W.nsIn K mainGlobals "is_between" = some (some (.ref fg1)))
    (lg1 : K.lookup fg1 = some ⟨ocg1, odg1, .func (PySem.W.fnOf "is_between" "is_between" (defArgs s_is_between) (defBody s_is_between) (defScope s_is_between) .none kVg1 dcg1 pmg1 ang1 cdg1 ctg1), slg1⟩)
    (cg1 : PySem.W.codeIn K cdg1 "is_between" = true)
    (kg1 : PySem.W.keepIn K (.ref fg1) = true)
    (ag2 : PySem.W.nsIn K mainGlobals "is_name" = some (some (.ref fg2)))
    (lg2 : K.lookup fg2 = some ⟨ocg2, odg2, .func (PySem.W.fnOf "is_name" "is_name" (defArgs s_is_name) (defBody s_is_name) (defScope s_is_name) .none kVg2 dcg2 pmg2 ang2 cdg2 ctg2), slg2⟩)
    (cg2 : PySem.W.codeIn K cdg2 "is_name" = true)
    (kg2 : PySem.W.keepIn K (.ref fg2) = true)
    (ag3 : PySem.W.nsIn K mainGlobals "accepts" = some (some (.ref fg3)))
    (lg3 : K.lookup fg3 = some ⟨ocg3, odg3, .func (PySem.W.fnOf "accepts" "accepts" (defArgs s_accepts) (defBody s_accepts) (defScope s_accepts) .none kVg3 dcg3 pmg3 ang3 cdg3 ctg3), slg3⟩)
    (cg3 : PySem.W.codeIn K cdg3 "accepts" = true)
    (kg3 : PySem.W.keepIn K (.ref fg3) = true)
    (ag4 : PySem.W.nsIn K mainGlobals "_wrong_field" = some (some (.ref fg4)))
    (lg4 : K.lookup fg4 = some ⟨ocg4, odg4, .func (PySem.W.fnOf "_wrong_field" "_wrong_field" (defArgs s_wrong_field) (defBody s_wrong_field) (defScope s_wrong_field) .none kVg4 dcg4 pmg4 ang4 cdg4 ctg4), slg4⟩)
    (cg4 : PySem.W.codeIn K cdg4 "_wrong_field" = true)
    (kg4 : PySem.W.keepIn K (.ref fg4) = true)
    (ag5 : PySem.W.nsIn K mainGlobals "_are_pauses" = some (some (.ref fg5)))
    (lg5 : K.lookup fg5 = some ⟨ocg5, odg5, .func (PySem.W.fnOf "_are_pauses" "_are_pauses" (defArgs s_are_pauses) (defBody s_are_pauses) (defScope s_are_pauses) .none kVg5 dcg5 pmg5 ang5 cdg5 ctg5), slg5⟩)
    (cg5 : PySem.W.codeIn K cdg5 "_are_pauses" = true)
    (kg5 : PySem.W.keepIn K (.ref fg5) = true)
    (ag6 : PySem.W.nsIn K mainGlobals "_is_ending" = some (some (.ref fg6)))
    (lg6 : K.lookup fg6 = some ⟨ocg6, odg6, .func (PySem.W.fnOf "_is_ending" "_is_ending" (defArgs s_is_ending) (defBody s_is_ending) (defScope s_is_ending) .none kVg6 dcg6 pmg6 ang6 cdg6 ctg6), slg6⟩)
    (cg6 : PySem.W.codeIn K cdg6 "_is_ending" = true)
    (kg6 : PySem.W.keepIn K (.ref fg6) = true)
    (ag7 : PySem.W.nsIn K mainGlobals "_all_pauses" = some (some (.ref fg7)))
    (lg7 : K.lookup fg7 = some ⟨ocg7, odg7, .func (PySem.W.fnOf "_all_pauses" "_all_pauses" (defArgs s_all_pauses) (defBody s_all_pauses) (defScope s_all_pauses) .none kVg7 dcg7 pmg7 ang7 cdg7 ctg7), slg7⟩)
    (cg7 : PySem.W.codeIn K cdg7 "_all_pauses" = true)
    (kg7 : PySem.W.keepIn K (.ref fg7) = true)
    (ag8 : PySem.W.nsIn K mainGlobals "_law_pool" = some (some (.ref fg8)))
    (lg8 : K.lookup fg8 = some ⟨ocg8, odg8, .func (PySem.W.fnOf "_law_pool" "_law_pool" (defArgs s_law_pool) (defBody s_law_pool) (defScope s_law_pool) .none kVg8 dcg8 pmg8 ang8 cdg8 ctg8), slg8⟩)
    (cg8 : PySem.W.codeIn K cdg8 "_law_pool" = true)
    (kg8 : PySem.W.keepIn K (.ref fg8) = true)
    (ag9 : PySem.W.nsIn K mainGlobals "_law_draw" = some (some (.ref fg9)))
    (lg9 : K.lookup fg9 = some ⟨ocg9, odg9, .func (PySem.W.fnOf "_law_draw" "_law_draw" (defArgs s_law_draw) (defBody s_law_draw) (defScope s_law_draw) .none kVg9 dcg9 pmg9 ang9 cdg9 ctg9), slg9⟩)
    (cg9 : PySem.W.codeIn K cdg9 "_law_draw" = true)
    (kg9 : PySem.W.keepIn K (.ref fg9) = true)
    (ag10 : PySem.W.nsIn K mainGlobals "_law_choose" = some (some (.ref fg10)))
    (lg10 : K.lookup fg10 = some ⟨ocg10, odg10, .func (PySem.W.fnOf "_law_choose" "_law_choose" (defArgs s_law_choose) (defBody s_law_choose) (defScope s_law_choose) .none kVg10 dcg10 pmg10 ang10 cdg10 ctg10), slg10⟩)
    (cg10 : PySem.W.codeIn K cdg10 "_law_choose" = true)
    (kg10 : PySem.W.keepIn K (.ref fg10) = true)
    (ag11 : PySem.W.nsIn K mainGlobals "_law_told" = some (some (.ref fg11)))
    (lg11 : K.lookup fg11 = some ⟨ocg11, odg11, .func (PySem.W.fnOf "_law_told" "_law_told" (defArgs s_law_told) (defBody s_law_told) (defScope s_law_told) .none kVg11 dcg11 pmg11 ang11 cdg11 ctg11), slg11⟩)
    (cg11 : PySem.W.codeIn K cdg11 "_law_told" = true)
    (kg11 : PySem.W.keepIn K (.ref fg11) = true)
    (ag12 : PySem.W.nsIn K mainGlobals "_law_wrong" = some (some (.ref fg12)))
    (lg12 : K.lookup fg12 = some ⟨ocg12, odg12, .func (PySem.W.fnOf "_law_wrong" "_law_wrong" (defArgs s_law_wrong) (defBody s_law_wrong) (defScope s_law_wrong) .none kVg12 dcg12 pmg12 ang12 cdg12 ctg12), slg12⟩)
    (cg12 : PySem.W.codeIn K cdg12 "_law_wrong" = true)
    (kg12 : PySem.W.keepIn K (.ref fg12) = true)
    (aL : PySem.W.nsIn K mainGlobals "law" = some (some (.ref fL)))
    (lL : K.lookup fL = some ⟨ocL, odL, .func (PySem.W.fnOf "law" "law" (defArgs s_law) (defBody s_law) (defScope s_law) .none kVL dcL pmL anL cdL ctL), slL⟩)
    (cL : PySem.W.codeIn K cdL "law" = true)
    (kL : PySem.W.keepIn K (.ref fL) = true)
    (z_isinstance : PySem.W.nsIn K mainGlobals "isinstance" = some none)
    (z_int : PySem.W.nsIn K mainGlobals "int" = some none)
    (z_bool : PySem.W.nsIn K mainGlobals "bool" = some none)
    (z_str : PySem.W.nsIn K mainGlobals "str" = some none)
    (z_tuple : PySem.W.nsIn K mainGlobals "tuple" = some none)
    (z_len : PySem.W.nsIn K mainGlobals "len" = some none)
    (z_all : PySem.W.nsIn K mainGlobals "all" = some none)
    (z_range : PySem.W.nsIn K mainGlobals "range" = some none)
    (z_repr : PySem.W.nsIn K mainGlobals "repr" = some none)
    (z_max : PySem.W.nsIn K mainGlobals "max" = some none)
    (z_min : PySem.W.nsIn K mainGlobals "min" = some none)
    (z_list : PySem.W.nsIn K mainGlobals "list" = some none)
    (z_enumerate : PySem.W.nsIn K mainGlobals "enumerate" = some none)
    (z_super : PySem.W.nsIn K mainGlobals "super" = some none)
    (gLET : PySem.W.nsIn K mainGlobals "LETTERS" = some (some (.str letters tL)))
    (gML : PySem.W.nsIn K mainGlobals "MOST_LIMIT" = some (some (.int 20 tML)))
    (gMT : PySem.W.nsIn K mainGlobals "MOST_TRIES" = some (some (.int 3 tMT)))
    (aC : PySem.W.nsIn K mainGlobals "Policy" = some (some (.ref C)))
    (aI : PySem.W.findIn K (.ref C) "__init__" = some (some (.ref fI)))
    (lI : K.lookup fI = some ⟨ocI, odI, .func (PySem.W.fnOf "__init__" "Policy.__init__" (defArgs s_Policyinit) (defBody s_Policyinit) (defScope s_Policyinit) .none (.ref Dk) dcI pmI anI cdI ctI), slI⟩)
    (cI : PySem.W.codeIn K cdI "Policy.__init__" = true)
    (kI : PySem.W.keepIn K (.ref fI) = true)
    (iI : PySem.W.isFn K (.ref fI) = true)
    (d1 : PySem.W.nsIn K Dk "tries" = some (some (.int 1 tk1)))
    (d2 : PySem.W.nsIn K Dk "pauses" = some (some .none))
    (d3 : PySem.W.nsIn K Dk "early" = some (some .none))
    (d4 : PySem.W.nsIn K Dk "lossy" = some (some (.bool false)))
    (d5 : PySem.W.nsIn K Dk "ending" = some (some (.ref go)))
    (d6 : K.lookup go = some ⟨.type "tuple", gd, .seq #[.str "go" tk2] gn, gs⟩)
    (pg : PySem.W.plainGet K C Str.empty = true)
    (hd : PySem.W.hasDictIn K C = true)
    (po : PySem.W.plainOver K C = true)
    (sa : PySem.W.findIn K (.ref C) "__setattr__" = some (some (.builtin "object.__setattr__")))
    (mk : PySem.W.makesIn K C = true)
    (kc : PySem.W.keepIn K (.ref C) = true)
    (n1 : PySem.W.findIn K (.ref C) "_name" = some none)
    (n2 : PySem.W.findIn K (.ref C) "_limit" = some none)
    (n3 : PySem.W.findIn K (.ref C) "_tries" = some none)
    (n4 : PySem.W.findIn K (.ref C) "_pauses" = some none)
    (n5 : PySem.W.findIn K (.ref C) "_early" = some none)
    (n6 : PySem.W.findIn K (.ref C) "_lossy" = some none)
    (n7 : PySem.W.findIn K (.ref C) "_ending" = some none)
    (tp : PySem.W.nsIn K cStatics "thirdparty.any" = some none)
    (top : (l.prog.main.scope.names.lookup ("super" : Str)).isSome = false)
    (gN : PySem.W.nsIn K mainGlobals "InvalidName" = some (some (.ref CN)))
    (xN : K.lookup CN = some (excClassObj nmN qnN CN NN bsN bmN true snN subN abN colN ddN k0N k1N k2N k3N k5N "ValueError.__new__"))
    (rvN : PySem.HandSPX.refsVE bmN = true)
    (saN : PySem.W.findIn K (.ref CN) "__setattr__" = some (some (.builtin "object.__setattr__")))
    (beN : PySem.W.subIn K (.ref CN) (.type "BaseException") = some true)
    (tyN : PySem.W.typeIn K (.ref CN) = some (.type "type"))
    (kpN : PySem.W.keepIn K (.ref CN) = true)
    (suN : PySem.W.ks_superIn K CN CN "__init__" = some (some (.builtin "ValueError.__init__")))
    (veN : PySem.W.subIn K (.ref CN) (.type "ValueError") = some true)
    (gaN : PySem.W.findIn K (.ref CN) "__getattribute__" = some (some (.builtin "BaseException.__getattribute__")))
    (ggN : PySem.W.findIn K (.ref CN) "__getattr__" = some none)
    (hdN : PySem.W.hasDictIn K CN = true)
    (nfN : PySem.W.findIn K (.ref CN) "value" = some none)
    (iN : PySem.W.findIn K (.ref CN) "__init__" = some (some (.ref fN)))
    (lN : K.lookup fN = some ⟨ocN, odN, .func (PySem.W.ksFn "__init__" "InvalidName.__init__" (defArgs s_InvalidNameinit) (defBody s_InvalidNameinit) (defScope s_InvalidNameinit) .none kVN dcN pmN anN (.ref cN) ctN ccN), oslN⟩)
    (tN : PySem.W.typeIn K (.ref fN) = some (.type "function"))
    (cdN : PySem.W.codeIn K (.ref cN) "InvalidName.__init__" = true)
    (lcN : K.lookup cN = some ⟨cclN, cddN, .fields vsN, ccsN⟩)
    (v2N : vsN[2]? = some (.str flN tfN))
    (fiN : ((l.prog.main.file : Str) == flN) = true)
    (llN : K.lookup ccN = some ⟨clN, cldN, .cell (some (.ref CN)), cslN⟩)
    (gP : PySem.W.nsIn K mainGlobals "InvalidPolicy" = some (some (.ref CP)))
    (xP : K.lookup CP = some (excClassObj nmP qnP CP NP bsP bmP true snP subP abP colP ddP k0P k1P k2P k3P k5P "ValueError.__new__"))
    (rvP : PySem.HandSPX.refsVE bmP = true)
    (saP : PySem.W.findIn K (.ref CP) "__setattr__" = some (some (.builtin "object.__setattr__")))
    (beP : PySem.W.subIn K (.ref CP) (.type "BaseException") = some true)
    (tyP : PySem.W.typeIn K (.ref CP) = some (.type "type"))
    (kpP : PySem.W.keepIn K (.ref CP) = true)
    (suP : PySem.W.ks_superIn K CP CP "__init__" = some (some (.builtin "ValueError.__init__")))
    (veP : PySem.W.subIn K (.ref CP) (.type "ValueError") = some true)
    (gaP : PySem.W.findIn K (.ref CP) "__getattribute__" = some (some (.builtin "BaseException.__getattribute__")))
    (ggP : PySem.W.findIn K (.ref CP) "__getattr__" = some none)
    (hdP : PySem.W.hasDictIn K CP = true)
    (nfP : PySem.W.findIn K (.ref CP) "field" = some none)
    (iP : PySem.W.findIn K (.ref CP) "__init__" = some (some (.ref fP)))
    (lP : K.lookup fP = some ⟨ocP, odP, .func (PySem.W.ksFn "__init__" "InvalidPolicy.__init__" (defArgs s_InvalidPolicyinit) (defBody s_InvalidPolicyinit) (defScope s_InvalidPolicyinit) .none kVP dcP pmP anP (.ref cP) ctP ccP), oslP⟩)
    (tP : PySem.W.typeIn K (.ref fP) = some (.type "function"))
    (cdP : PySem.W.codeIn K (.ref cP) "InvalidPolicy.__init__" = true)
    (lcP : K.lookup cP = some ⟨cclP, cddP, .fields vsP, ccsP⟩)
    (v2P : vsP[2]? = some (.str flP tfP))
    (fiP : ((l.prog.main.file : Str) == flP) = true)
    (llP : K.lookup ccP = some ⟨clP, cldP, .cell (some (.ref CP)), cslP⟩)
    (subPN : PySem.W.subIn K (.ref CP) (.ref CN) = some false)
    (subNN : PySem.W.subIn K (.ref CN) (.ref CN) = some true)
    (subPP : PySem.W.subIn K (.ref CP) (.ref CP) = some true)
    : ∃ fd : FuncData, (∀ (s : Shared) (v : Value), BindsTo s fd ⟨[v], []⟩ [("_law_script", v)]) ∧ ∀ base : Heap, K.In base → base.Ns mainGlobals mg → Mc.FnG l.prog w K mg base CX0 10 fa fd ["_law_script"] (spLaw K) := by
  have Dg0 : Mc.Def K mg "is_integer" s_is_integer ["value"] := ⟨fg0, _, fun_mk (st := s_is_integer) lg0 cg0 kg0, PySem.W.mg_of X G ag0, (fun_mk (st := s_is_integer) lg0 cg0 kg0).binds (ps := ["value"]) fun _ _ _ _ _ _ us hl => match us, hl with | [_], _ => rfl⟩
  have Dg1 : Mc.Def K mg "is_between" s_is_between ["value", "least", "most"] := ⟨fg1, _, fun_mk (st := s_is_between) lg1 cg1 kg1, PySem.W.mg_of X G ag1, (fun_mk (st := s_is_between) lg1 cg1 kg1).binds (ps := ["value", "least", "most"]) fun _ _ _ _ _ _ us hl => match us, hl with | [_, _, _], _ => rfl⟩
  have Dg2 : Mc.Def K mg "is_name" s_is_name ["value"] := ⟨fg2, _, fun_mk (st := s_is_name) lg2 cg2 kg2, PySem.W.mg_of X G ag2, (fun_mk (st := s_is_name) lg2 cg2 kg2).binds (ps := ["value"]) fun _ _ _ _ _ _ us hl => match us, hl with | [_], _ => rfl⟩
  have Dg3 : Mc.Def K mg "accepts" s_accepts ["field", "value"] := ⟨fg3, _, fun_mk (st := s_accepts) lg3 cg3 kg3, PySem.W.mg_of X G ag3, (fun_mk (st := s_accepts) lg3 cg3 kg3).binds (ps := ["field", "value"]) fun _ _ _ _ _ _ us hl => match us, hl with | [_, _], _ => rfl⟩
  have Dg4 : Mc.Def K mg "_wrong_field" s_wrong_field ["limit", "tries", "pauses", "early", "lossy", "ending"] := ⟨fg4, _, fun_mk (st := s_wrong_field) lg4 cg4 kg4, PySem.W.mg_of X G ag4, (fun_mk (st := s_wrong_field) lg4 cg4 kg4).binds (ps := ["limit", "tries", "pauses", "early", "lossy", "ending"]) fun _ _ _ _ _ _ us hl => match us, hl with | [_, _, _, _, _, _], _ => rfl⟩
  have Dg5 : Mc.Def K mg "_are_pauses" s_are_pauses ["value", "tries"] := ⟨fg5, _, fun_mk (st := s_are_pauses) lg5 cg5 kg5, PySem.W.mg_of X G ag5, (fun_mk (st := s_are_pauses) lg5 cg5 kg5).binds (ps := ["value", "tries"]) fun _ _ _ _ _ _ us hl => match us, hl with | [_, _], _ => rfl⟩
  have Dg6 : Mc.Def K mg "_is_ending" s_is_ending ["value"] := ⟨fg6, _, fun_mk (st := s_is_ending) lg6 cg6 kg6, PySem.W.mg_of X G ag6, (fun_mk (st := s_is_ending) lg6 cg6 kg6).binds (ps := ["value"]) fun _ _ _ _ _ _ us hl => match us, hl with | [_], _ => rfl⟩
  have Dg7 : Mc.Def K mg "_all_pauses" s_all_pauses ["tries", "pauses", "early"] := ⟨fg7, _, fun_mk (st := s_all_pauses) lg7 cg7 kg7, PySem.W.mg_of X G ag7, (fun_mk (st := s_all_pauses) lg7 cg7 kg7).binds (ps := ["tries", "pauses", "early"]) fun _ _ _ _ _ _ us hl => match us, hl with | [_, _, _], _ => rfl⟩
  have Dg8 : Mc.Def K mg "_law_pool" s_law_pool ["_law_script", "_law_k"] := ⟨fg8, _, fun_mk (st := s_law_pool) lg8 cg8 kg8, PySem.W.mg_of X G ag8, (fun_mk (st := s_law_pool) lg8 cg8 kg8).binds (ps := ["_law_script", "_law_k"]) fun _ _ _ _ _ _ us hl => match us, hl with | [_, _], _ => rfl⟩
  have Dg9 : Mc.Def K mg "_law_draw" s_law_draw ["_law_pool_here", "_law_many"] := ⟨fg9, _, fun_mk (st := s_law_draw) lg9 cg9 kg9, PySem.W.mg_of X G ag9, (fun_mk (st := s_law_draw) lg9 cg9 kg9).binds (ps := ["_law_pool_here", "_law_many"]) fun _ _ _ _ _ _ us hl => match us, hl with | [_, _], _ => rfl⟩
  have Dg10 : Mc.Def K mg "_law_choose" s_law_choose ["_law_pool_here", "_law_items"] := ⟨fg10, _, fun_mk (st := s_law_choose) lg10 cg10 kg10, PySem.W.mg_of X G ag10, (fun_mk (st := s_law_choose) lg10 cg10 kg10).binds (ps := ["_law_pool_here", "_law_items"]) fun _ _ _ _ _ _ us hl => match us, hl with | [_, _], _ => rfl⟩
  have Dg11 : Mc.Def K mg "_law_told" s_law_told ["_law_name", "_law_row"] := ⟨fg11, _, fun_mk (st := s_law_told) lg11 cg11 kg11, PySem.W.mg_of X G ag11, (fun_mk (st := s_law_told) lg11 cg11 kg11).binds (ps := ["_law_name", "_law_row"]) fun _ _ _ _ _ _ us hl => match us, hl with | [_, _], _ => rfl⟩
  have Dg12 : Mc.Def K mg "_law_wrong" s_law_wrong [] := ⟨fg12, _, fun_mk (st := s_law_wrong) lg12 cg12 kg12, PySem.W.mg_of X G ag12, (fun_mk (st := s_law_wrong) lg12 cg12 kg12).binds (ps := []) fun _ _ _ _ _ _ us hl => match us, hl with | [], _ => rfl⟩
  have T : Txt K mg := ⟨PySem.W.mg_none_of X G z_isinstance, PySem.W.mg_none_of X G z_int, PySem.W.mg_none_of X G z_bool, PySem.W.mg_none_of X G z_str, PySem.W.mg_none_of X G z_tuple, PySem.W.mg_none_of X G z_len, PySem.W.mg_none_of X G z_all, PySem.W.mg_none_of X G z_range, PySem.W.mg_none_of X G z_repr, PySem.W.mg_none_of X G z_max, PySem.W.mg_none_of X G z_min, ⟨_, PySem.W.mg_of X G gLET, ⟨_, rfl⟩⟩, ⟨_, PySem.W.mg_of X G gML, ⟨_, rfl⟩⟩, ⟨_, PySem.W.mg_of X G gMT, ⟨_, rfl⟩⟩⟩
  have T3 : Txt3 K mg := ⟨T, PySem.W.mg_none_of X G z_list, PySem.W.mg_none_of X G z_enumerate⟩
  have scN : Mx.SupC l.prog K mg CN := ⟨⟨⟨_, _, _, _, _, _, _, _, _, _, _, _, _, _, _, xN, rvN⟩, saN, beN, tyN, kpN⟩, suN, veN, tp, PySem.W.mg_none_of X G z_super, top⟩
  have sdN : Mx.SupD l.prog K "__init__" "InvalidName.__init__" (defArgs s_InvalidNameinit) (defBody s_InvalidNameinit) (defScope s_InvalidNameinit) CN fN _ cN ccN := ⟨_, _, _, _, _, _, _, _, _, _, _, _, _, _, _, _, _, _, rfl, lN, cdN, lcN, v2N, fiN, llN⟩
  have xfN : XfC K CN := ⟨gaN, ggN, beN, hdN⟩
  have glN := PySem.W.mg_of X G gN
  have scP : Mx.SupC l.prog K mg CP := ⟨⟨⟨_, _, _, _, _, _, _, _, _, _, _, _, _, _, _, xP, rvP⟩, saP, beP, tyP, kpP⟩, suP, veP, tp, PySem.W.mg_none_of X G z_super, top⟩
  have sdP : Mx.SupD l.prog K "__init__" "InvalidPolicy.__init__" (defArgs s_InvalidPolicyinit) (defBody s_InvalidPolicyinit) (defScope s_InvalidPolicyinit) CP fP _ cP ccP := ⟨_, _, _, _, _, _, _, _, _, _, _, _, _, _, _, _, _, _, rfl, lP, cdP, lcP, v2P, fiP, llP⟩
  have xfP : XfC K CP := ⟨gaP, ggP, beP, hdP⟩
  have glP := PySem.W.mg_of X G gP
  have cl : Cls K C := ⟨pg, hd, po, sa⟩
  have TC : CTxt K C := ⟨cl, n1, n2, n3, n4, n5, n6, n7⟩
  have gP := PySem.W.mg_of X G aC
  have FD : FI K go fI _ := ⟨⟨_, _, _, _, _, _, _, _, _, _, rfl, lI, cI, .inl ⟨rfl, rfl⟩, .inr ⟨Dk, rfl, by
    intro q hq
    simp only [kwsP, List.mem_cons, List.not_mem_nil, or_false] at hq
    rcases hq with rfl | rfl | rfl | rfl | rfl
    · exact ⟨_, d1, ⟨_, rfl⟩⟩
    · exact ⟨_, d2, rfl⟩
    · exact ⟨_, d3, rfl⟩
    · exact ⟨_, d4, rfl⟩
    · exact ⟨_, d5, rfl⟩⟩⟩, kI⟩
  have M : Mk K C fI := ⟨mk, aI, iI, kc⟩
  have ef := hfa.symm.trans (PySem.W.mg_of X G aL)
  cases ef
  refine ⟨PySem.W.fnOf "law" "law" (defArgs s_law) (defBody s_law) (defScope s_law) .none kVL dcL pmL anL cdL ctL, fun s v => .of_eq rfl, fun base _ _ => ?_⟩
  · have c_int := ok_is_integer (P := l.prog) (w := w) (base := base) T Dg0
    have c_btw := ok_is_between T Dg1 c_int
    have c_nm := ok_is_name (P := l.prog) (w := w) (base := base) T Dg2
    have c_are := ok_are_pauses T Dg5 c_btw
    have c_end := ok_is_ending T Dg6 c_btw
    have c_acc := ok_accepts T Dg3 c_btw c_end
    have c_wf := ok_wrong_field T Dg4 c_btw c_are c_acc
    have c_all := ok_all_pauses (P := l.prog) (w := w) (base := base) T Dg7
    have EN : Mx.ExK l.prog w K mg base "InvalidName" CN fN _ ["self", "value"] (Mx.spEx CN "value") := ⟨iN, tN, ok_InvalidName sdN scN nfN, .all (fun us hl => match us, hl with | [_, _], _ => rfl), glN⟩
    have EP : Mx.ExK l.prog w K mg base "InvalidPolicy" CP fP _ ["self", "field"] (Mx.spEx CP "field") := ⟨iP, tP, ok_InvalidPolicy sdP scP nfP, .all (fun us hl => match us, hl with | [_, _], _ => rfl), glP⟩
    have GI := Mx.fn_or (ok_init FD T TC c_nm c_wf c_all) (ok_bad FD T TC c_nm c_wf c_all scN scP EN EP)
    have c_pool := ok_pool (P := l.prog) (w := w) (base := base) T Dg8
    have c_draw := ok_draw (P := l.prog) (w := w) (base := base) T Dg9
    have c_choose := ok_choose T Dg10 c_draw
    have c_told := ok_told Dg11 T M gP FD GI EN EP xfN xfP nfN nfP (exm_is beN tyN hdN subNN) (exm_is beN tyN hdN subPN) (exm_is beP tyP hdP subPP)
    have c_wrong := ok_wrong (P := l.prog) (w := w) (base := base) T Dg12
    have FL := fun_mk (st := s_law) lL cL kL
    exact ok_law FL T3 c_told c_wrong c_pool c_draw c_choose
end K2
open PySem PySem.W PyProof.Rows in
set_option maxRecDepth 100000 in
set_option maxHeartbeats 0 in
theorem PySem.Challenge.cw_mostcalls_k03_policies_refused_holds : PySem.Challenge.rw_mostcalls_k03_policies_refused.Holds := by
  w_on; o_law; k_head; (case hw => w_witness2)
  k_fill
  refine Mc.walk_run (l := PySem.Challenge.rw_mostcalls_k03_policies_refused) (n := 63) (k := 10) (sp := fun K => K2.spLaw K) (x := "_law_script") rfl (by decide) rfl ⟨rfl, by decide, by decide⟩ (fun w h Y => PySem.W.kIn_of Y) ?F (fun K H a ns h1 _ h3 => ⟨a, ns, rfl, h3, h1, fun _ => rfl⟩)
  case F =>
    intro w mg fa h KX G hmg
    refine' K2.all_mk KX G hmg ?ag0 ?lg0 ?cg0 ?kg0 ?ag1 ?lg1 ?cg1 ?kg1 ?ag2 ?lg2 ?cg2 ?kg2 ?ag3 ?lg3 ?cg3 ?kg3 ?ag4 ?lg4 ?cg4 ?kg4 ?ag5 ?lg5 ?cg5 ?kg5 ?ag6 ?lg6 ?cg6 ?kg6 ?ag7 ?lg7 ?cg7 ?kg7 ?ag8 ?lg8 ?cg8 ?kg8 ?ag9 ?lg9 ?cg9 ?kg9 ?ag10 ?lg10 ?cg10 ?kg10 ?ag11 ?lg11 ?cg11 ?kg11 ?ag12 ?lg12 ?cg12 ?kg12 ?aL ?lL ?cL ?kL ?z_isinstance ?z_int ?z_bool ?z_str ?z_tuple ?z_len ?z_all ?z_range ?z_repr ?z_max ?z_min ?z_list ?z_enumerate ?z_super ?gLET ?gML ?gMT ?aC ?aI ?lI ?cI ?kI ?iI ?d1 ?d2 ?d3 ?d4 ?d5 ?d6 ?pg ?hd ?po ?sa ?mk ?kc ?n1 ?n2 ?n3 ?n4 ?n5 ?n6 ?n7 ?tp ?top ?gN ?xN ?rvN ?saN ?beN ?tyN ?kpN ?suN ?veN ?gaN ?ggN ?hdN ?nfN ?iN ?lN ?tN ?cdN ?lcN ?v2N ?fiN ?llN ?gP ?xP ?rvP ?saP ?beP ?tyP ?kpP ?suP ?veP ?gaP ?ggP ?hdP ?nfP ?iP ?lP ?tP ?cdP ?lcP ?v2P ?fiP ?llP ?subPN ?subNN ?subPP
    (case ag0 => k_is)
    (case lg0 => k_is)
    (case cg0 => k_is)
    (case kg0 => k_is)
    (case ag1 => k_is)
    (case lg1 => k_is)
    (case cg1 => k_is)
    (case kg1 => k_is)
    (case ag2 => k_is)
    (case lg2 => k_is)
    (case cg2 => k_is)
    (case kg2 => k_is)
    (case ag3 => k_is)
    (case lg3 => k_is)
    (case cg3 => k_is)
    (case kg3 => k_is)
    (case ag4 => k_is)
    (case lg4 => k_is)
    (case cg4 => k_is)
    (case kg4 => k_is)
    (case ag5 => k_is)
    (case lg5 => k_is)
    (case cg5 => k_is)
    (case kg5 => k_is)
    (case ag6 => k_is)
    (case lg6 => k_is)
    (case cg6 => k_is)
    (case kg6 => k_is)
    (case ag7 => k_is)
    (case lg7 => k_is)
    (case cg7 => k_is)
    (case kg7 => k_is)
    (case ag8 => k_is)
    (case lg8 => k_is)
    (case cg8 => k_is)
    (case kg8 => k_is)
    (case ag9 => k_is)
    (case lg9 => k_is)
    (case cg9 => k_is)
    (case kg9 => k_is)
    (case ag10 => k_is)
    (case lg10 => k_is)
    (case cg10 => k_is)
    (case kg10 => k_is)
    (case ag11 => k_is)
    (case lg11 => k_is)
    (case cg11 => k_is)
    (case kg11 => k_is)
    (case ag12 => k_is)
    (case lg12 => k_is)
    (case cg12 => k_is)
    (case kg12 => k_is)
    (case aL => k_is)
    (case lL => k_is)
    (case cL => k_is)
    (case kL => k_is)
    (case z_isinstance => k_is)
    (case z_int => k_is)
    (case z_bool => k_is)
    (case z_str => k_is)
    (case z_tuple => k_is)
    (case z_len => k_is)
    (case z_all => k_is)
    (case z_range => k_is)
    (case z_repr => k_is)
    (case z_max => k_is)
    (case z_min => k_is)
    (case z_list => k_is)
    (case z_enumerate => k_is)
    (case z_super => k_is)
    (case gLET => k_is)
    (case gML => k_is)
    (case gMT => k_is)
    (case aC => k_is)
    (case aI => k_is)
    (case lI => k_is)
    (case cI => k_is)
    (case kI => k_is)
    (case iI => k_is)
    (case d1 => k_is)
    (case d2 => k_is)
    (case d3 => k_is)
    (case d4 => k_is)
    (case d5 => k_is)
    (case d6 => k_is)
    (case pg => k_is)
    (case hd => k_is)
    (case po => k_is)
    (case sa => k_is)
    (case mk => k_is)
    (case kc => k_is)
    (case n1 => k_is)
    (case n2 => k_is)
    (case n3 => k_is)
    (case n4 => k_is)
    (case n5 => k_is)
    (case n6 => k_is)
    (case n7 => k_is)
    (case tp => k_is)
    (case top => first | rfl | decide +kernel)
    (case gN => k_is)
    (case xN => k_is)
    (case rvN => first | decide +kernel | rfl)
    (case saN => k_is)
    (case beN => k_is)
    (case tyN => k_is)
    (case kpN => k_is)
    (case suN => first | ks_is | k_is | kernel_rfl)
    (case veN => k_is)
    (case gaN => k_is)
    (case ggN => k_is)
    (case hdN => k_is)
    (case nfN => k_is)
    (case iN => k_is)
    (case lN => k_is)
    (case tN => k_is)
    (case cdN => k_is)
    (case lcN => k_is)
    (case v2N => first | rfl | decide +kernel)
    (case fiN => first | rfl | decide +kernel)
    (case llN => k_is)
    (case gP => k_is)
    (case xP => k_is)
    (case rvP => first | decide +kernel | rfl)
    (case saP => k_is)
    (case beP => k_is)
    (case tyP => k_is)
    (case kpP => k_is)
    (case suP => first | ks_is | k_is | kernel_rfl)
    (case veP => k_is)
    (case gaP => k_is)
    (case ggP => k_is)
    (case hdP => k_is)
    (case nfP => k_is)
    (case iP => k_is)
    (case lP => k_is)
    (case tP => k_is)
    (case cdP => k_is)
    (case lcP => k_is)
    (case v2P => first | rfl | decide +kernel)
    (case fiP => first | rfl | decide +kernel)
    (case llP => k_is)
    (case subPN => k_is)
    (case subNN => k_is)
    (case subPP => k_is)
