import PyProof.Rows.All
import Wide.All
import OpenK.AllK
import Wide.FinOn
import HandS.ForMost
import HandS.EndBits
import HandS.MakeKwOnly
import HandS.Property
import HandS.IsInst
import HandS.TupMul
import PyProof.ReprRoads
import HandS.Walk
import HandS.ExcInit
import HandS.ExcOwn
import HandS.TryMany
import HandS.ExcField
import HandS.Nested
import KE.KExcSuper
import KE.KDictDisplayH
import KE.KDictWalk
import KE.KDictCopyH
import HandS.Conv
import HandS.ListItems
import HandS.Dict
import HandS.Finally
import HandS.DictComp
import HandS.DeepEq
import KE.DataMinMax
import HandS.SortKw
import HandS.WordsExc
import HandS.Style
import HandS.Small
import PySem.Challenge.RW_mostcalls_k16_rows
set_option Elab.async false
set_option maxRecDepth 100000
set_option linter.all false
set_option maxHeartbeats 4000000
namespace Mc
open PySem PySem.Spec PyProof.Rows L2

/-! ### repr of data -/
def rRepr (K : PySem.W.Frag) : List V → Hp → VK → Prop := fun xs H Q =>
  ∃ (a : Addr) (d : PyData), xs = [.ref a] ∧ Dp K H (.ref a) d ∧ d.showable = true ∧ d.hasDict = false ∧ d.depth ≤ 40 ∧ d.shown.length ≤ sizeLine ∧ Q (.str d.shown) H

theorem call_repr {X : Cx} (hg : X.A.guards = some []) (hu : X.A.units + 64 < cLine) : CallR X (.builtin "repr") (rRepr X.K) := by
  intro pins s σ H xs us Q I r h
  obtain ⟨a, d, rfl, hd, hs, hx, hdp, hz, q⟩ := h
  cases r with
  | cons ru rn =>
    cases rn
    cases ru
    obtain ⟨as, R⟩ := Dp.reads I d _ _ hd rfl
    exact repr_of_reads' R hs (fun e => by rw [hx] at e; cases e) hg (by omega) (fun b o e => e)
      (fun h' u tk hk => ⟨.str d.shown, H, I.kept hk, ⟨u, rfl⟩, q⟩) hz

/-! ### a def that is run where no repr is under way -/
structure FnG (P : Program) (w : World) (K : PySem.W.Frag) (mg : Str → Option Value) (base : Heap) (CX : CXT) (k : Nat) (f : Addr) (fd : FuncData) (ps : List Str) (sp : Sp) : Prop where
  len : ∀ vs H Q E, sp vs H Q E → vs.length = ps.length
  run : ∀ (A : Around) (outer : List Env) (s : Shared) (H : Hp) (args : Args) (us : List Value) (vs : List V) (Q : VK) (E : XK),
    A.guards = some [] → Room k A → Env0 P w K mg base A outer s H → BindsTo s fd args (ps.zip us) → Vals vs us → sp vs H Q E →
    codeAny (model P w) A (.call (.ref f) args) (CR CX outer P w H s Q E) s

theorem fnG_of {CX : CXT} {P : Program} {w : World} {K : PySem.W.Frag} {mg : Str → Option Value} {base : Heap} {k : Nat} {f : Addr} {x qual : Str} {st : Stmt} {fd : FuncData}
    {N ps : List Str} {sp : Sp} (F : Fun K x qual st f fd) (S : FnScope N ps (defScope st)) (len : ∀ vs H Q E, sp vs H Q E → vs.length = ps.length)
    (hbody : ∀ (cdv : Value) (A : Around) (outer : List Env) (s : Shared) (H : Hp) (vs : List V) (Q : VK) (E : XK), A.guards = some [] →
      Room k (A.deeper (envOfC qual (defScope st) s.heap.objs.size f cdv)) → sp vs H Q E →
      ∃ t, PSs (cxOf CX P w K mg base N qual (defScope st) f cdv A outer s H E).nox (defBody st) t ∧ t { nx := fun _ H' => Q .non H', rt := Q } (start N vs) H) :
    FnG P w K mg base CX (k + 1) f fd ps sp := by
  obtain ⟨oc, od, kV, doc, pm, an, cdv, ct, osl, rfl, lk, hcd⟩ := F.ex
  constructor
  · exact len
  intro A outer s H args us vs Q E hg room env bind rel want
  have inh : K.In s.heap := env.mod.kin.keeps fun b o e => (env.bs b o e).1
  have nol : s.heap.NoLimit := env.mod.nolimit.keeps fun b o e => (env.bs b o e).1
  have kinds : ∀ y ∈ ps.zip us, (defScope st).names.lookup y.1 = some .local ∨
      ((defScope st).names.lookup y.1 = some .cell ∧ ((cellsFrom (s.heap.objs.size + 1) (defScope st).names []).lookup y.1).isSome = true) := by
    rintro ⟨n, v⟩ hy
    have hn := (List.of_mem_zip hy).1
    rcases S.par n hn with q | q
    · exact Or.inl q
    · exact Or.inr ⟨q, PySem.W.cellsFrom_some _ _ _ (Or.inl q)⟩
  have go := hbody cdv A outer s H vs Q E hg (room.deeper _) want
  obtain ⟨t, ht0, hq⟩ := go
  have ht := ht0.nox
  refine codeAny_call_function room.depth (inh _ _ lk) rfl S.co S.gen rfl (PySem.W.codeRec_of inh hcd) (bind _ _ _ _ ?_)
  refine wpAny_newFunctionEnv_cells S.kind kinds fun en hen s1 inc => ?_
  subst hen
  refine ⟨nol.keeps inc.toInCall.keep, codeAny_func ?_⟩
  have J := inv_start (CX := CX) (E := E) S room.hd env (len _ _ _ _ want) rel inc
  have R := ht.run [] s1 (start N vs) H _ J hq
  refine wpAny_mono R ?_ (fun _ _ z => z)
  intro fl s' z
  cases fl with
  | next => obtain ⟨σ', H', J', q⟩ := z; exact ⟨V.non, H', J'.os, J'.bare, J'.base, J'.hok, rfl, q⟩
  | ret u => obtain ⟨v, σ', H', J', rv, q⟩ := z; exact ⟨v, H', J'.os, J'.bare, J'.base, J'.hok, rv, q⟩
  | brk => obtain ⟨_, _, _, q⟩ := z; exact False.elim q
  | cont => obtain ⟨_, _, _, q⟩ := z; exact False.elim q

/-! ### the law, run by the claim's caller -/
theorem law_run {P : Program} {w : World} {K : PySem.W.Frag} {mg mb : Str → Option Value} {k : Nat} {fa a : Addr} {fd : FuncData} {x : Str} {sp : Sp} {s1 : Shared} {vs : List Value} {ns : List Int}
    (inK : K.In s1.heap) (gl : s1.heap.Ns mainGlobals mg) (bl : s1.heap.Ns builtinsNs mb) (bb : ∀ y : Str, y ≠ "__name__" → mb y = bootBuiltins y) (nl : s1.heap.NoLimit) (ge : s1.gens = #[])
    (obj : s1.heap.get? a = some { cls := .type "list", data := .seq vs.toArray }) (hIn : IntsAre vs ns) (len : ns.length ≤ sizeLine) (room : Room k callerA)
    (F : ∀ base : Heap, K.In base → base.Ns mainGlobals mg → FnG P w K mg base CX0 k fa fd [x] sp) (bnd : ∀ (s : Shared) (u : Value), BindsTo s fd ⟨[u], []⟩ [(x, u)])
    (pr : ∀ H : Hp, Only H → SqL K H a (ns.map V.int) → sp [.ref a] H (fun v _ => v = .bl true) E0) :
    codeAny (model P w) callerA (.call (.ref fa) ⟨[.ref a], []⟩) (fun r s' => r = .ok (.ret (.bool true)) ∧ OldK s1.heap s'.heap ∧ s'.os = s1.os ∧ AllBare s'.gens) s1 := by
  have rel := vals_ints hIn
  have lv := hIn.length
  have main : ∀ H : Hp, Only H → SqL K H a (ns.map V.int) → HOk P w H s1.heap → (∀ b, H b ≠ none → b = a) → (H a ≠ none → K.lookup a = none) →
      codeAny (model P w) callerA (.call (.ref fa) ⟨[.ref a], []⟩) (fun r s' => r = .ok (.ret (.bool true)) ∧ OldK s1.heap s'.heap ∧ s'.os = s1.os ∧ AllBare s'.gens) s1 := by
    intro H onl sq hok onlyA freeK
    have noD : ∀ {b : Addr} {o : Obj} {es : Array DictEntry} {n : Nat}, s1.heap.get? b = some o → o.data = .dict es n → H b = none := by
      intro b o es n e d
      rcases hq : H b with _ | u
      · rfl
      · have eb : b = a := onlyA b (by rw [hq]; intro z; cases z)
        rw [eb, obj] at e
        cases e
        exact Data.noConfusion d
    have keepNs : ∀ {b : Addr} {m : Str → Option Value}, s1.heap.Ns b m → (hidT s1.heap H).Ns b m := by
      rintro b m ⟨o, es, n, e, d, r⟩
      exact ⟨o, es, n, hidT_get e (noD e d), d, r⟩
    have inB : K.In (hidT s1.heap H) := by
      intro b o e
      refine hidT_get (inK b o e) ?_
      rcases hq : H b with _ | u
      · rfl
      · have nn : H b ≠ none := by rw [hq]; intro z; cases z
        have eb := onlyA b nn
        rw [eb] at nn e
        rw [freeK nn] at e
        cases e
    obtain ⟨mc, c1, c2⟩ := nl
    have md : Mod K mg (hidT s1.heap H) := ⟨inB, keepNs gl, ⟨mb, keepNs bl, bb⟩, ⟨mc, keepNs c1, c2⟩⟩
    have env : Env0 P w K mg (hidT s1.heap H) callerA [] s1 H :=
      ⟨rfl, md, fun b o e => of_hidT e, Nat.le_of_eq (hidT_size _ _), trivial, (fun b hb => (List.not_mem_nil (show b ∈ ([] : List Addr) from hb)).elim), hok, AllBare.of_eq ge⟩
    have R := (F _ inB (keepNs gl)).run callerA [] s1 H ⟨[.ref a], []⟩ [.ref a] [.ref a] (fun v _ => v = .bl true) E0 rfl room env (bnd s1 (.ref a)) (.cons rfl .nil) (pr H onl sq)
    refine codeAny_mono R ?_
    intro r s' z
    match r, z with
    | .ok (.ret u), z =>
      obtain ⟨v, H', eo, br, un, hok', rv, ev⟩ := z
      subst ev
      cases rv
      refine ⟨rfl, OldK.of_keep ?_, eo, br⟩
      intro b o e
      rcases hq : H b with _ | u
      · exact un.keep b o e hq (fun z => (List.not_mem_nil (show b ∈ ([] : List Addr) from z)).elim) (fun z => (List.not_mem_nil z).elim)
      · rcases onl b with q | ⟨ob, xs, q⟩
        · rw [hq] at q
          cases q
        · have f1 := (hok b _ q).1
          have f2 := (hok' b _ (un.frzs b ob _ q)).1
          rw [e] at f1
          cases f1
          exact f2
  rcases hk : K.lookup a with _ | o
  · let H : Hp := fun b => if b = a then some (.frz { cls := .type "list", data := .seq vs.toArray } (.lst (ns.map V.int))) else none
    have at_a : H a = some (.frz { cls := .type "list", data := .seq vs.toArray } (.lst (ns.map V.int))) := if_pos rfl
    have off : ∀ b, b ≠ a → H b = none := fun b hb => if_neg hb
    refine main H (fun b => ?_) (.inl (.inr ⟨_, at_a⟩)) (fun b u z => ?_) (fun b z => ?_) (fun _ => hk)
    · by_cases hb : b = a
      · subst hb
        exact Or.inr ⟨_, _, at_a⟩
      · exact Or.inl (off b hb)
    · by_cases hb : b = a
      · subst hb
        rw [at_a] at z
        cases z
        exact ⟨obj, by rw [List.length_map]; exact len, vs, _, rel, obj⟩
      · rw [off b hb] at z
        cases z
    · by_cases hb : b = a
      · exact hb
      · exact absurd (off b hb) z
  · have e := inK a o hk
    rw [obj] at e
    cases e
    refine main (fun _ => none) (fun _ => Or.inl rfl) (Or.inr ⟨_, vs.toArray, _, hk, rfl, rfl, rfl, ?_, by simpa using rel⟩) (fun b u z => nomatch z) (fun b z => absurd rfl z) (fun z => absurd rfl z)
    rw [List.size_toArray, lv]
    exact len

theorem walk_run {l : PySem.W.OpenLaw} {n k : Nat} {q : Program} {loose : List Str} {XP : (Str → Option Value) → Heap → Prop} {YP : World → Heap → Prop} {d : DefRec} {K : Params → PySem.W.Frag} {sp : PySem.W.Frag → Sp} {x : Str}
    (hn : l.most = some n) (hn2 : n ≤ sizeLine) (hdf : d.params.defaults = []) (room : Room k callerA) (hY : ∀ (w : World) (h : Heap), YP w h → (K w.params).In h)
    (F : ∀ (w : World) (mg : Str → Option Value) (fa : Addr) (h : Heap), (K w.params).In h → h.Ns mainGlobals mg → mg d.name = some (.ref fa) →
      ∃ fd : FuncData, (∀ (s : Shared) (u : Value), BindsTo s fd ⟨[u], []⟩ [(x, u)]) ∧
        ∀ base : Heap, (K w.params).In base → base.Ns mainGlobals mg → FnG l.prog w (K w.params) mg base CX0 k fa fd [x] (sp (K w.params)))
    (pr : ∀ (K : PySem.W.Frag) (H : Hp) (a : Addr) (ns : List Int), ns.length ≤ n → (∀ z ∈ ns, Builtin.Int.intBits z ≤ 1048576) → SqL K H a (ns.map V.int) → sp K [.ref a] H (fun v _ => v = .bl true) E0) :
    PySem.W.WalkO q loose XP YP l.row.toRowW d [] (fun f vs => PySem.call f vs) := by
  refine Att.attach_callB hn hdf ?_
  intro w s0 s1 mg mb fa o pm cd doc a vs ns G Y ho hd hcd hmg hobj hints hlen hbits hg
  obtain ⟨fd, hb, hF⟩ := F w mg fa _ (hY w _ Y) G.T.g hmg
  exact law_run (hY w _ Y) G.T.g G.T.b G.T.builtins G.T.nolimit hg hobj hints (Nat.le_trans hlen hn2) room hF hb (fun H _ hS => pr _ H a ns hlen hbits hS)
end Mc

namespace Mc
open PySem PySem.Spec PyProof.Rows L2

/-! ### == and != of an instance with the text's own `__eq__` -/
/-- the other side's type -/
inductive RT (H : Hp) : V → Value → Prop where
  | non : RT H .non (.type "NoneType")
  | int (i : Int) : RT H (.int i) (.type "int")
  | bl (b : Bool) : RT H (.bl b) (.type "bool")
  | str (z : Str) : RT H (.str z) (.type "str")
  | lst {a : Addr} {xs : List V} (e : H a = some (.lst xs)) : RT H (.ref a) (.type "list")
  | dK {a : Addr} {xs : List (Key × V)} (e : H a = some (.dK xs)) : RT H (.ref a) (.type "dict")
  | ins {a C dx : Addr} {fs : List (Str × V)} (e : H a = some (.ins C dx fs)) : RT H (.ref a) (.ref C)

theorem typ_at {M : Model} {h : Heap} {y : Addr} {o : Obj} {c : Value} (ho : h.get? y = some o) (hc : o.cls = c) : PySem.W.Looks M h (typeOf (.ref y)) c :=
  hc ▸ (PySem.W.Looks.ld ho).andThen .now

theorem RT.looks {X : Cx} {pins : List (Addr × Obj)} {σ : L2.St} {H : Hp} {s : Shared} {M : Model} {y : V} {u t : Value} (I : Inv X pins σ H s) (r : RT H y t) (ru : RelV y u) : PySem.W.Looks M s.heap (typeOf u) t := by
  cases r with
  | non => cases (show u = Value.none from ru); exact PySem.W.Looks.of_pure rfl
  | int i => obtain ⟨k, q⟩ := (show ∃ k, u = Value.int i k from ru); cases q; exact PySem.W.Looks.of_pure rfl
  | bl b => cases (show u = Value.bool b from ru); exact PySem.W.Looks.of_pure rfl
  | str z => obtain ⟨k, q⟩ := (show ∃ k, u = Value.str z k from ru); cases q; exact PySem.W.Looks.of_pure rfl
  | @lst a xs e =>
    cases (show u = Value.ref a from ru)
    obtain ⟨_, _, n, _, h1⟩ := (show ObjOk X.prog X.w H s.heap a (.lst xs) from I.hok a _ e)
    exact typ_at h1 rfl
  | @dK a xs e =>
    cases (show u = Value.ref a from ru)
    obtain ⟨_, _, vs, _, o, es, ep, h1, h2, _⟩ := (show ObjOk X.prog X.w H s.heap a (.dK xs) from I.hok a _ e)
    exact typ_at h1 h2.1
  | @ins a C dx fs e =>
    cases (show u = Value.ref a from ru)
    obtain ⟨mA, J, _⟩ := ins_get I.hok e
    obtain ⟨od, J, _⟩ := J.look
    exact J.type

theorem nf_ins {K : PySem.W.Frag} {C : Addr} : PySem.W.notFirst K C (.ref C) = true := by simp [PySem.W.notFirst]
theorem nf_ty {K : PySem.W.Frag} {C : Addr} {n : String} {l : List Value} (e : fastBuiltinMro n = some l) (hl : l.contains (.ref C) = false) : PySem.W.notFirst K C (.type n) = true := by
  have q : PySem.W.subIn K (.type n) (.ref C) = some false := by
    show (fastBuiltinMro n).map (·.contains (.ref C)) = some false
    rw [e, Option.map_some, hl]
  simp [PySem.W.notFirst, q]
theorem nf_none {K : PySem.W.Frag} {C : Addr} : PySem.W.notFirst K C (.type "NoneType") = true := nf_ty (l := [.type "NoneType", .type "object"]) (by decide +kernel) (by simp)
theorem nf_int {K : PySem.W.Frag} {C : Addr} : PySem.W.notFirst K C (.type "int") = true := nf_ty (l := [.type "int", .type "object"]) (by decide +kernel) (by simp)
theorem nf_list {K : PySem.W.Frag} {C : Addr} : PySem.W.notFirst K C (.type "list") = true := nf_ty (l := [.type "list", .type "object"]) (by decide +kernel) (by simp)

section
variable {prog : Program} {w : World} {A : Around} {E : Value → Shared → Prop} {s : Shared} {K : PySem.W.Frag} {x C L f : Addr} {h0 : Heap} {m : Str → Option Value} {ox : Obj} {od : Option Obj} {b tb : Value}
open PySem.W
theorem bound_ne {M : Model} {args : List Value} {Q : Option Value → Shared → Prop} (X : K.In s.heap) (I : InstAt s.heap x ox C od) (hs : findIn K (.ref C) "__ne__" = some (some (.builtin "object.__ne__")))
    (h : wpAny M A (call (.builtin "object.__ne__") (.ref x :: args)) (fun v => Q (some v)) E s) : wpAny M A (callSpecialIfBound? (.ref x) "__ne__" args) Q E s := by
  have all : wpAny M A (call (.builtin "object.__ne__") ([.ref x] ++ args) >>= fun v => pure (some v)) Q E s :=
    wpAny_bind (wpAny_mono h (fun v s' q => wpAny_pure q) (fun _ _ q => q))
  simp only [callSpecialIfBound?, bindSpecialIfBound?]
  refine wpAny_holding (wpAny_bind (wpAny_bind (wpAny_bind (I.type.here ((looks_findIn X hs).here ?_)))))
  refine wpAny_bind (wpAny_askSetting (wpAny_ite ?_))
  split
  · exact wpAny_bind (wpAny_of_eq (F.cmp_object.ne.bind _) (wpAny_pure (by exact all)))
  · exact wpAny_tryCatch (wpAny_bind (wpAny_of_eq (F.cmp_object.ne.bind _) (wpAny_pure (by exact all))))

theorem ne_body (hu : A.units < cLine) (X : K.In s.heap) (I : InstAt s.heap x ox C od) (he : findIn K (.ref C) "__eq__" = some (some (.ref f))) (hf : isFn K (.ref f) = true) {Q : Fin → Shared → Prop}
    (h : wpAny (model prog w) A (call (.ref f) [.ref x, b]) (fun v s' => ∃ r, v = .bool r ∧ Q (.done (.ret (.bool (!r)))) s') E s) :
    wpAny (model prog w) A (Builtin.«object.__ne__» ⟨[.ref x, b], []⟩) Q E s := by
  unfold Builtin.«object.__ne__»
  repeat (first
    | with_reducible refine wpAny_cRoomFor hu ?_
    | (refine wpAny_bind (m := callSpecialIfBound? (.ref x) (Str.ofString "__eq__") [b]) (ifBound_K X I he hf (wpAny_mono h (fun v s' q => ?_) fun _ _ e => e)); obtain ⟨r, rfl, q⟩ := q)
    | exact q
    | exact wpAny_pure q
    | (refine wpAny_bind (m := truthy (.bool _)) (wpAny_truthy_bool ?_))
    | wp_step)

theorem ne_K (hu : A.units + 1 < cLine) (Fm : Fr h0 L s.heap m) (X0 : K.In h0) (I : InstAt s.heap x ox C od) (hb : Looks (model prog w) s.heap (typeOf b) tb) (hn : notFirst K C tb = true)
    (hs : findIn K (.ref C) "__ne__" = some (some (.builtin "object.__ne__"))) (he : findIn K (.ref C) "__eq__" = some (some (.ref f))) (hf : isFn K (.ref f) = true) (hm : mroIn K C (.type "object") = some true)
    {Q : Value → Shared → Prop} (h : wpAny (model prog w) A.in1 (call (.ref f) [.ref x, b]) (fun v s' => ∃ r, v = .bool r ∧ Q (.bool (!r)) s') E s) :
    wpAny (model prog w) A (richCompare .NotEq (.ref x) b) Q E s := by
  have X := X0.keeps Fm.keep
  have one : wpAny (model prog w) A (tryCompare (.ref x) (cmpInfo .NotEq).2.1 b) (fun r s' => ∃ v, r = some v ∧ Q v s') E s := by
    unfold tryCompare
    refine wpAny_bind (bound_ne X I hs (wpAny_call (codeAny_call_builtin F.cmp_object.ne.plain F.cmpEntry_ne (check_slot F.cmpKind_ne F.cmpSplit_ne (I.type.andThen (looks_mroIn X hm)) (F.cmpArgs_ne _ _) ?_))))
    refine ne_body (A := A.in1) (by show A.units + 1 < cLine; exact hu) X I he hf (wpAny_mono h (fun v s' q => ?_) fun _ _ e => e)
    obtain ⟨r, rfl, q⟩ := q
    first | exact ⟨r, rfl, wpAny_pure ⟨_, rfl, q⟩⟩ | exact ⟨r, rfl, ⟨_, rfl, q⟩⟩ | exact ⟨r, rfl, wpAny_pure (wpAny_pure ⟨_, rfl, q⟩)⟩
  unfold richCompare
  simp only [oneThing_ref]
  refine wpAny_holding (wpAny_bind (wpAny_cRoomFor (Nat.lt_of_succ_lt hu) ?_))
  refine wpAny_bind (I.type.here (wpAny_bind (hb.here ?_)))
  have fin : wpAny (model prog w) A (tryCompare (.ref x) (cmpInfo .NotEq).2.1 b) (fun r s' => ∃ v, r = some v ∧ Q v s') E s := one
  split
  · rename_i q
    have e : subIn K tb (.ref C) = some false := by
      rcases Bool.or_eq_true_iff.mp hn with e | e
      · rw [beq_iff_eq.mp e] at q
        simp at q
      · exact beq_iff_eq.mp e
    refine wpAny_bind ((looks_subIn X e).here ?_)
    simp only [Bool.false_eq_true, if_false]
    refine wpAny_bind (wpAny_mono one ?_ fun _ _ e => e)
    rintro r s' ⟨v, rfl, hq⟩
    exact wpAny_pure hq
  · refine wpAny_bind (wpAny_pure ?_)
    simp only [Bool.false_eq_true, if_false]
    refine wpAny_bind (wpAny_mono one ?_ fun _ _ e => e)
    rintro r s' ⟨v, rfl, hq⟩
    exact wpAny_pure hq
end

section
variable {X : Cx} {CX : CXT} {k : Nat} {C f : Addr} {fd : FuncData} {ps : List Str} {sp : Sp} {E : XK}
/-- the way a def is run from within, at another place that has the same frames -/
theorem run_in {A : Around} {pins : List (Addr × Obj)} {σ : L2.St} {H : Hp} {s : Shared} {Q : VK} {us : List Value} {vs : List V} (fr : A.frames = X.A.frames) (G : FnOk X.prog X.w X.K X.mg X.base CX k f fd ps sp) (hr : Room k A)
    (hb : Binds X.K fd ps []) (hx : Passes CX X E) (I : Inv X pins σ H s) (r : Vals vs us) (h : sp vs H Q E) : wpAny (model X.prog X.w) A (call (.ref f) us) (EP X pins σ Q) X.xe s := by
  have e0 : Env0 X.prog X.w X.K X.mg X.base A X.stack s H := by
    have e := I.env0
    exact ⟨fr.trans e.frames, e.mod, e.bs, e.bsz, e.funs, e.frf, e.hok, e.bare⟩
  have hl : (us ++ ([] : List Value)).length = ps.length := by
    rw [List.append_nil, ← r.length]
    exact G.len _ _ _ _ h
  have bd := hb s us I.kIn hl
  rw [List.append_nil] at bd
  refine wpAny_call (codeAny_mono (G.run A X.stack s H ⟨us, []⟩ us vs Q E hr e0 bd r h) ?_)
  intro z s' hz
  match z, hz with
  | .error e, hz => exact hx pins σ H s e s' I hz
  | .ok (.ret u), hz => exact I.after hz

def rCmpO (C : Addr) (sp : Sp) (E : XK) (K : PySem.W.Frag) (neg : Bool) : R2 := fun x y H Q => ∃ (a dx : Addr) (fs : List (Str × V)) (t : Value), x = .ref a ∧ H a = some (.ins C dx fs) ∧ RT H y t ∧ PySem.W.notFirst K C t = true ∧
  sp [x, y] H (fun v H' => ∃ b, v = .bl b ∧ Q (.bl (if neg then !b else b)) H') E

structure OwnCmp (K : PySem.W.Frag) (C f : Addr) : Prop where
  eq : PySem.W.findIn K (.ref C) "__eq__" = some (some (.ref f))
  fn : PySem.W.isFn K (.ref f) = true
  ne : PySem.W.findIn K (.ref C) "__ne__" = some (some (.builtin "object.__ne__"))
  ob : PySem.W.mroIn K C (.type "object") = some true

theorem op_eqO (G : FnOk X.prog X.w X.K X.mg X.base CX k f fd ps sp) (O : OwnCmp X.K C f) (hb : Binds X.K fd ps []) (hx : Passes CX X E) (hr : Room k X.A) : OpR X (compareOp .Eq) (rCmpO C sp E X.K false) := by
  intro pins s σ H x y u v Q I rx ry h
  obtain ⟨a, dx, fs, t, rfl, ha, rt, nf, q⟩ := h
  cases rx
  obtain ⟨mA, J, _⟩ := ins_get I.hok ha
  obtain ⟨od, J, _⟩ := J.look
  obtain ⟨m, hF⟩ := I.fr
  show wpAny (model X.prog X.w) X.A (richCompare .Eq (.ref a) v) (EP X pins σ Q) X.xe s
  refine PySem.W.cmp_K (op := .Eq) (tb := t) hr.units0 hF I.ok.mod.kin J (rt.looks I ry) nf O.eq O.fn ?_
  refine thn (run_in rfl G hr hb hx I (.cons (show RelV (.ref a) (.ref a) from rfl) (.cons ry .nil)) q) ?_
  rintro w s' ⟨z, H', I', rz, b, rfl, q'⟩
  cases rz
  exact ⟨.bl b, H', I', rfl, q'⟩

theorem op_neO (G : FnOk X.prog X.w X.K X.mg X.base CX k f fd ps sp) (O : OwnCmp X.K C f) (hb : Binds X.K fd ps []) (hx : Passes CX X E) (hr : Room (k + 1) X.A) : OpR X (compareOp .NotEq) (rCmpO C sp E X.K true) := by
  intro pins s σ H x y u v Q I rx ry h
  obtain ⟨a, dx, fs, t, rfl, ha, rt, nf, q⟩ := h
  cases rx
  obtain ⟨mA, J, _⟩ := ins_get I.hok ha
  obtain ⟨od, J, _⟩ := J.look
  obtain ⟨m, hF⟩ := I.fr
  show wpAny (model X.prog X.w) X.A (richCompare .NotEq (.ref a) v) (EP X pins σ Q) X.xe s
  refine ne_K (tb := t) (by have := hr.units; omega) hF I.ok.mod.kin J (rt.looks I ry) nf O.ne O.eq O.fn O.ob ?_
  refine thn (run_in (A := X.A.in1) rfl G hr.in1 hb hx I (.cons (show RelV (.ref a) (.ref a) from rfl) (.cons ry .nil)) q) ?_
  rintro w s' ⟨z, H', I', rz, b, rfl, q'⟩
  cases rz
  exact ⟨b, rfl, .bl (!b), H', I', rfl, q'⟩
end
end Mc

namespace Mc
open PySem PySem.Spec PyProof.Rows L2
open AutoSeq1 (wpAny_loadPart')

/-! ### a tuple times nought or one -/
theorem mul_nought (l : Addr) (y : Value) (n : Nat) (dd : Option Addr) (sl : Array (Option Value)) (u : Tok) :
    Meets (Builtin.«tuple.__mul__» ⟨[.ref l, .int 0 u], []⟩) (fun _ R s => s.heap.get? l = some { cls := .type "tuple", dict := dd, data := .seq #[y] n, slots := sl } ∧
      R (.ok (.ret (Value.ref s.heap.objs.size))) { s with heap := s.heap.push { cls := Value.type "tuple", data := Data.seq #[] }, toks := s.toks }) := by
  refine .of_wp ?_
  rintro prog w A R ⟨hp, g, d, tk, os⟩ ⟨hl, h⟩
  have f1 := AutoSeq1.idx_int
  wp_walk using wpAny_loadPart' hl
  exact ⟨_, rfl, h⟩
theorem mul_single (l : Addr) (y : Value) (n : Nat) (dd : Option Addr) (sl : Array (Option Value)) (u : Tok) :
    Meets (Builtin.«tuple.__mul__» ⟨[.ref l, .int 1 u], []⟩) (fun _ R s => s.heap.get? l = some { cls := .type "tuple", dict := dd, data := .seq #[y] n, slots := sl } ∧
      R (.ok (.ret (Value.ref l))) s) := by
  refine .of_wp ?_
  rintro prog w A R ⟨hp, g, d, tk, os⟩ ⟨hl, h⟩
  have f1 := AutoSeq1.idx_int
  wp_walk using wpAny_loadPart' hl
  exact ⟨_, rfl, h⟩

/-- (v,) * k, k of 0, 1, 2 -/
def rRepS (K : PySem.W.Frag) : R2 := fun x y H Q => ∃ (l : Addr) (k : Int) (v : V), x = .ref l ∧ y = .int k ∧ SqT K H l [v] ∧ 0 ≤ k ∧ k ≤ 1000 ∧
  (k = 1 → Q (.ref l) H) ∧ (k ≠ 1 → ∀ p, H p = none → Q (.ref p) (upd H p (.tup (List.replicate k.toNat v))))

theorem op_repS {X : Cx} : OpR X (binaryOp .Mult) (rRepS X.K) := by
  intro pins s σ H x y v u Q I rx ry h
  obtain ⟨l, k, z, rfl, rfl, hT, k0, k1, q1, q2⟩ := h
  by_cases hk : 2 ≤ k
  · refine op_repT pins s σ H (.ref l) (.int k) v u Q I rx ry ⟨l, k, [z], rfl, rfl, hT, by simp, hk, k1, (by show 1 ≤ 1000; decide), fun p hp => ?_⟩
    have e : (List.replicate k.toNat [z]).flatten = List.replicate k.toNat z := by
      generalize k.toNat = n
      induction n with
      | zero => rfl
      | succ n ih => rw [List.replicate_succ, List.flatten_cons, ih, List.replicate_succ]; rfl
    rw [e]
    exact q2 (by omega) p hp
  · cases rx
    obtain ⟨t, rfl⟩ := ry
    obtain ⟨its, r, ⟨⟨cls, dd, data, sl⟩, ho, hc, n, hd⟩, hs⟩ := I.tuple hT
    simp only at hc hd
    subst hc hd
    match its, r with
    | [y], .cons ry .nil =>
      have hk' : k = 0 ∨ k = 1 := by omega
      rcases hk' with rfl | rfl
      · refine wpAny_binaryOp_repeat_ref (T := "tuple") (U := "int") (by decide) ⟨_, ho, rfl⟩ (fun s' => typeIs_int s' 0 t) noFill_tuple_mul F.fills_int_mul F.slot_int_rmul repeat_tuple F.slot_int_index.lookup
          (call_meets F.slot_int_rmul (typeIs_int s 0 t) F.entry_int_rmul (F.args_int_rmul_2 _ _) (int_rmul_tuple 0 t l #[y] n dd sl)
            ⟨ho, rfl, ⟨_, ho, rfl⟩, call_meets F.slot_tuple_mul ⟨_, ho, rfl⟩ F.entry_tuple_mul (F.args_tuple_mul_2 _ _) (mul_nought l y n dd sl t) ⟨ho, ?_⟩⟩)
        refine ⟨.ref s.heap.objs.size, _, I.laid (t' := s.toks) (o := .tup []) (fun b ob q => Heap.get?_push_of_some _ q) (Nat.le_refl _) ?_, rfl, q2 (by decide) _ (I.hok.fresh (Nat.le_refl _))⟩
        exact ⟨Nat.zero_le _, _, .nil, IsTup.new _ _⟩
      · refine wpAny_binaryOp_repeat_ref (T := "tuple") (U := "int") (by decide) ⟨_, ho, rfl⟩ (fun s' => typeIs_int s' 1 t) noFill_tuple_mul F.fills_int_mul F.slot_int_rmul repeat_tuple F.slot_int_index.lookup
          (call_meets F.slot_int_rmul (typeIs_int s 1 t) F.entry_int_rmul (F.args_int_rmul_2 _ _) (int_rmul_tuple 1 t l #[y] n dd sl)
            ⟨ho, rfl, ⟨_, ho, rfl⟩, call_meets F.slot_tuple_mul ⟨_, ho, rfl⟩ F.entry_tuple_mul (F.args_tuple_mul_2 _ _) (mul_single l y n dd sl t) ⟨ho, ?_⟩⟩)
        exact ⟨.ref l, H, I, rfl, q1 rfl⟩
end Mc

namespace Mc
open PySem PySem.Spec PyProof.Rows L2

/-- a new tuple, a new list -/
abbrev TupG (Q : VK) (xs : List V) (H1 : Hp) : Prop := xs.length ≤ sizeLine ∧ ∀ p, H1 p = none → Q (.ref p) (upd H1 p (.tup xs))
abbrev LstG (Q : VK) (xs : List V) (H1 : Hp) : Prop := xs.length ≤ sizeLine ∧ ∀ p, H1 p = none → Q (.ref p) (upd H1 p (.lst xs))
section
variable {σ : L2.St} {H : Hp} {Q : VK} {QB : Bool → Hp → Prop} {QA : List V → Hp → Prop} {QS : L2.St → Hp → Prop} {D : Ends} {ta tb te : TE} {tt tu : TT} {t u : TS} {tr tk : TA} {r : R2} {v x y : V} {i : Nat} {K : PySem.W.Frag}
theorem g_var (h : σ[i]? = some (some v)) (q : Q v H) : tVar i σ H Q := ⟨v, h, q⟩
theorem g_c (q : Q v H) : tC v σ H Q := q
theorem g_op (q : ta σ H fun x H1 => tb σ H1 fun y H2 => r x y H2 Q) : tOp r ta tb σ H Q := q
theorem g_un {r : V → Hp → VK → Prop} (q : ta σ H fun x H1 => r x H1 Q) : tUn r ta σ H Q := q
theorem g_test (q : te σ H fun x H' => ∃ k, x = .bl k ∧ QB k H') : tTest te σ H QB := q
theorem g_B (q : te σ H fun x H' => ∃ k, x = .bl k ∧ QB k H') : tB te σ H QB := q
theorem g_bl {b : Bool} (q : QB b H) : ∃ k, V.bl b = .bl k ∧ QB k H := ⟨b, rfl, q⟩
theorem g_blV {b : Bool} {P : Bool → Prop} (q : P b) : ∃ k, V.bl b = .bl k ∧ P k := ⟨b, rfl, q⟩
theorem g_ifS (q : tt σ H fun b H1 => if b = true then t D σ H1 else u D σ H1) : tIfS tt t u D σ H := q
theorem g_if (q : tt σ H fun c H1 => if c = true then ta σ H1 Q else tb σ H1 Q) : tIf tt ta tb σ H Q := q
theorem g_not (q : tt σ H fun c H1 => QB (!c) H1) : tNot tt σ H QB := q
theorem g_and (q : tt σ H fun c H1 => if c = true then tu σ H1 QB else QB false H1) : tAnd tt tu σ H QB := q
theorem g_or (q : tt σ H fun c H1 => if c = true then QB true H1 else tu σ H1 QB) : tOr tt tu σ H QB := q
theorem g_notV (q : ta σ H fun x H1 => ∃ c, x = .bl c ∧ Q (.bl (!c)) H1) : tNotV ta σ H Q := q
theorem g_andV (q : ta σ H fun x H1 => ∃ c, x = .bl c ∧ if c = true then tb σ H1 Q else Q (.bl false) H1) : tAndV ta tb σ H Q := q
theorem g_orV (q : ta σ H fun x H1 => ∃ c, x = .bl c ∧ if c = true then Q (.bl true) H1 else tb σ H1 Q) : tOrV ta tb σ H Q := q
theorem g_seq (q : t { D with nx := u D } σ H) : tSeq t u D σ H := q
theorem g_next (q : D.nx σ H) : tNext D σ H := q
theorem g_asg {g : TG} (q : te σ H fun x H1 => g x σ H1 D.nx) : tAsg te g D σ H := q
theorem g_name (q : QS (σ.set i (some v)) H) : gName i v σ H QS := q
theorem g_drop (q : te σ H fun _ H1 => D.nx σ H1) : tDrop te D σ H := q
theorem g_ret (q : te σ H D.rt) : tRet te D σ H := q
theorem g_retN (q : D.rt .non H) : tRetN D σ H := q
theorem g_brk (q : D.bk σ H) : tBreak D σ H := q
theorem g_cont (q : D.ct σ H) : tCont D σ H := q
theorem g_call {sp : Sp} {dvs : List V} {E : XK} (q : tr σ H fun vs H1 => sp (vs ++ dvs) H1 Q E) : tCall sp dvs E tr σ H Q := q
theorem g_cb {r : List V → Hp → VK → Prop} (q : tr σ H fun vs H1 => r vs H1 Q) : tCB r tr σ H Q := q
theorem g_nil (q : QA [] H) : tNil σ H QA := q
theorem g_cons (q : te σ H fun x H1 => tr σ H1 fun xs H2 => QA (x :: xs) H2) : tCons te tr σ H QA := q
theorem g_tup (q : tr σ H fun xs H1 => TupG Q xs H1) : tTup tr σ H Q := q
theorem g_lst (q : tr σ H fun xs H1 => LstG Q xs H1) : tLst tr σ H Q := q
theorem g_prop {C : Addr} {sp : Sp} {dvs : List V} {E : XK} (q : ta σ H fun x H1 => ∃ a dx fs, x = .ref a ∧ H1 a = some (.ins C dx fs) ∧ sp (.ref a :: dvs) H1 Q E) : tProp C sp dvs E ta σ H Q := q
theorem g_fld {f : Str} (q : ta σ H fun x H1 => ∃ a C dx fs v, x = .ref a ∧ H1 a = some (.ins C dx fs) ∧ Cls K C ∧ NoAttr K C f ∧ fs.lookup f = some v ∧ Q v H1) : tFld K ta f σ H Q := q
theorem g_meth {C : Addr} {m : Str} {sp : Sp} {dvs : List V} {E : XK} (q : ta σ H fun x H1 => ∃ a dx fs, x = .ref a ∧ H1 a = some (.ins C dx fs) ∧ fs.lookup m = none ∧
  tr σ H1 fun vs H2 => sp (x :: (vs ++ dvs)) H2 Q E) : tMeth C m sp dvs E ta tr σ H Q := q
theorem g_eq {x y : V} (h : scal x y = true) (q : Q (.bl (decide (x = y))) H) : rEq x y H Q := ⟨h, q⟩
theorem g_ne {x y : V} (h : scal x y = true) (q : Q (.bl (!decide (x = y))) H) : rNe x y H Q := ⟨h, q⟩
theorem g_I0 {g : Int → Int → V} {a b : Int} (q : Q (g a b) H) : rI0 g (.int a) (.int b) H Q := ⟨a, b, rfl, rfl, q⟩
theorem g_I {C : Int → Int → Prop} {g : Int → Int → V} {a b : Int} (h : C a b) (q : Q (g a b) H) : rI C g (.int a) (.int b) H Q := ⟨a, b, rfl, rfl, h, q⟩
theorem g_iteT {A B : Prop} (h : A) : if true = true then A else B := by rw [if_pos rfl]; exact h
theorem g_iteF {A B : Prop} (h : B) : if false = true then A else B := by rw [if_neg Bool.false_ne_true]; exact h
theorem g_add {a b : Int} (q : Q (.int (a + b)) H) : rAdd (.int a) (.int b) H Q := ⟨a, b, rfl, rfl, q⟩
theorem g_sub {a b : Int} (q : Q (.int (a - b)) H) : rSub (.int a) (.int b) H Q := ⟨a, b, rfl, rfl, q⟩
theorem g_lc {r : List V → Hp → VK → Prop} (q : tr σ H fun vs H1 => r vs H1 Q) : tCB r tr σ H Q := q
theorem g_bm {T : String} {r : V → List V → Hp → VK → Prop} (q : te σ H fun x H1 => tyV K T x H1 ∧ tr σ H1 fun xs H2 => r x xs H2 Q) : tBM K T r te tr σ H Q := q
theorem g_ixL {p : Addr} {xs : List V} {k : Int} (h : SqL K H p xs) (e : atI xs k = some v) (q : Q v H) : rIxL K (.ref p) (.int k) H Q := ⟨p, xs, k, v, rfl, rfl, h, e, q⟩
theorem g_ixT {p : Addr} {xs : List V} {k : Int} (h : SqT K H p xs) (e : atI xs k = some v) (q : Q v H) : rIxT K (.ref p) (.int k) H Q := ⟨p, xs, k, v, rfl, rfl, h, e, q⟩
end

/-- one step of a reading -/
local macro_rules | `(tactic| walk_at "rd1") => `(tactic| first
  | with_reducible refine g_seq ?_
  | with_reducible refine g_asg ?_
  | with_reducible refine g_name ?_
  | with_reducible refine g_c ?_
  | with_reducible refine g_op ?_
  | with_reducible refine g_ifS ?_
  | with_reducible refine g_if ?_
  | with_reducible refine g_test ?_
  | with_reducible refine g_B ?_
  | with_reducible refine g_bl ?_
  | with_reducible refine g_blV ?_
  | with_reducible refine g_not ?_
  | with_reducible refine g_and ?_
  | with_reducible refine g_or ?_
  | with_reducible refine g_notV ?_
  | with_reducible refine g_andV ?_
  | with_reducible refine g_orV ?_
  | with_reducible refine g_ret ?_
  | with_reducible refine g_drop ?_
  | with_reducible refine g_next ?_
  | with_reducible refine g_retN ?_
  | with_reducible refine g_call ?_
  | with_reducible refine g_cb ?_
  | with_reducible refine g_cons ?_
  | with_reducible refine g_nil ?_
  | with_reducible refine g_tup ?_
  | with_reducible refine g_lst ?_
  | with_reducible refine g_prop ?_
  | with_reducible refine g_fld ?_
  | with_reducible refine g_meth ?_
  | with_reducible refine g_un ?_
  | with_reducible refine g_bm ?_
  | with_reducible refine g_iteT ?_
  | with_reducible refine g_iteF ?_
  | with_reducible refine g_I0 ?_
  | with_reducible refine g_add ?_
  | with_reducible refine g_sub ?_
  | ((with_reducible refine' g_var ?hv ?_); (case hv => rfl))
  | ((with_reducible refine g_eq ?hv ?_); (case hv => rfl))
  | ((with_reducible refine g_ne ?hv ?_); (case hv => rfl)))
local macro_rules | `(tactic| walk_at "rd") => `(tactic| repeat (walk_at "rd1"))

example {X : Cx} {Q : VK} {H : Hp} (q : Q (.int 5) H) : (tSeq (tAsg (tOp rAdd (tC (.int 2)) (tC (.int 3))) (gName 0)) (tRet (tVar 0))) { nx := fun _ _ => False, rt := Q } [none] H := by
  walk_at "rd"
  exact q
end Mc

namespace Mc
open PySem PySem.Spec PyProof.Rows L2

/-! ### defs and their calls -/
structure Def (K : PySem.W.Frag) (mg : Str → Option Value) (x : Str) (st : Stmt) (ps : List Str) : Prop where
  ex : ∃ (f : Addr) (fd : FuncData), Fun K x x st f fd ∧ mg x = some (.ref f) ∧ Binds K fd ps []
structure Cal (P : Program) (w : World) (K : PySem.W.Frag) (mg : Str → Option Value) (base : Heap) (k : Nat) (x : Str) (sp : Sp) : Prop where
  ex : ∃ (f : Addr) (fd : FuncData) (ps : List Str), FnOk P w K mg base CX0 k f fd ps sp ∧ mg x = some (.ref f) ∧ PySem.W.keepIn K (.ref f) = true ∧ Binds K fd ps []
section
variable {P : Program} {w : World} {K : PySem.W.Frag} {mg : Str → Option Value} {base : Heap}
theorem cal_of {x : Str} {st : Stmt} {N ps : List Str} {k : Nat} {sp : Sp} (D : Def K mg x st ps) (S : FnScope N ps (defScope st)) (len : ∀ vs H Q E, sp vs H Q E → vs.length = ps.length)
    (hbody : ∀ (f : Addr) (cdv : Value) (A : Around) (outer : List Env) (s : Shared) (H : Hp) (vs : List V) (Q : VK) (E : XK), Room k (A.deeper (envOfC x (defScope st) s.heap.objs.size f cdv)) → sp vs H Q E →
      ∃ t, PSs (cxOf CX0 P w K mg base N x (defScope st) f cdv A outer s H E).nox (defBody st) t ∧ t { nx := fun _ H' => Q .non H', rt := Q } (start N vs) H) : Cal P w K mg base (k + 1) x sp := by
  obtain ⟨f, fd, F, hm, b⟩ := D.ex
  exact ⟨f, fd, ps, F.ok S len (hbody f), hm, F.kp, b⟩
end
section
variable {X : Cx} {k j : Nat} {x : Str} {sp : Sp} {p pos : Pos} {e : Expr} {es : List Expr} {t : TA}
theorem pe_f (c : Cal X.prog X.w X.K X.mg X.base k x sp) (hr : Room j X.A) (hk : k ≤ j) (hg : Gl X x) (ha : PA X (e :: es) t)
    (hdb : (x == ("__debug__" : Str)) = false := by decide) (he : starEach (e :: es) X.env = (false, eval e X.env) :: starEach es X.env := by rfl) (hpl : (backTo pos (starEach es X.env)).any (·.1) = false := by rfl) :
    PE X (.Call (.Name x p) (e :: es) [] pos) (tCall sp [] E0 t) := by
  obtain ⟨f, fd, ps, G, hm, kp, b⟩ := c.ex
  exact pe_call G (hr.mono hk) hg hm kp b .nil pass0 ha hdb he hpl
theorem pe_gx {v : V} (hg : Gl X x) (h : ∃ u, X.mg x = some u ∧ RelV v u) (hd : (x == ("__debug__" : Str)) = false := by decide) : PE X (.Name x pos) (tC v) :=
  h.elim fun u hu => pe_glob hg hu.1 hu.2 hd
theorem pe_ty (n : String) (hg : Gl X x) (hm : X.mg x = none) (hv : bootBuiltins x = some (.type n)) (hn : x ≠ "__name__" := by decide) (hd : (x == ("__debug__" : Str)) = false := by decide) : PE X (.Name x pos) (tC (.ty n)) :=
  pe_bltn (v := .ty n) (u := .type n) hg hm hv rfl hn hd
end

/-! ### kinds of values -/
inductive TyB (K : PySem.W.Frag) (H : Hp) : V → String → Prop where
  | non : TyB K H .non "NoneType"
  | bl (b : Bool) : TyB K H (.bl b) "bool"
  | int (i : Int) : TyB K H (.int i) "int"
  | str (z : Str) : TyB K H (.str z) "str"
  | lst {a : Addr} {xs : List V} (e : H a = some (.lst xs)) : TyB K H (.ref a) "list"
  | tup {a : Addr} {xs : List V} (e : H a = some (.tup xs)) : TyB K H (.ref a) "tuple"
  | dK {a : Addr} {xs : List (Key × V)} (e : H a = some (.dK xs)) : TyB K H (.ref a) "dict"
  | kTup {a : Addr} {o : Obj} (e : K.lookup a = some o) (c : o.cls = .type "tuple") : TyB K H (.ref a) "tuple"
theorem TyB.x {K : PySem.W.Frag} {H : Hp} {v : V} {n : String} (h : TyB K H v n) : TyX K H v (.type n) := by
  cases h with
  | non => exact .base .non
  | bl b => exact .base (.bl b)
  | int i => exact .base (.int i)
  | str z => exact .base (.str z)
  | lst e => exact .base (.lst e)
  | tup e => exact .base (.tup e)
  | dK e => exact .base (.dK e)
  | kTup e c => exact .kTuple e c
theorem g_isi {K : PySem.W.Frag} {H : Hp} {Q : VK} {v : V} {n m : String} {b : Bool} (h : TyB K H v n) (e : kitB n m = some b) (q : Q (.bl b) H) : rIsi K [v, .ty m] H Q :=
  ⟨v, .ty m, .type n, .type m, b, rfl, .ty m, h.x, kit_ty e, q⟩
theorem g_chain {σ : L2.St} {H : Hp} {Q : VK} {r r' : R2} {ta tb tc : TE} (q : ta σ H fun x H1 => tb σ H1 fun y H2 => r x y H2 fun z H3 => ∃ k, z = .bl k ∧ (if k = true then tc σ H3 fun w' H4 => r' y w' H4 Q else Q (.bl false) H3)) : tChain r r' ta tb tc σ H Q := q
theorem g_sfld {K : PySem.W.Frag} {σ : L2.St} {H : Hp} {D : Ends} {ta tv : TE} {f : Str} (q : tv σ H fun y H1 => ta σ H1 fun x H2 => ∃ a C dx fs, x = .ref a ∧ H2 a = some (.ins C dx fs) ∧ Cls K C ∧ NoAttr K C f ∧ fs.length < 1000 ∧ D.nx σ (upd H2 a (.ins C dx (putF f y fs)))) : sFld K ta tv f D σ H := q
theorem g_gsub {σ : L2.St} {H : Hp} {Q : L2.St → Hp → Prop} {to ti : TE} {t : TSet} {v : V} (q : to σ H fun o H1 => ti σ H1 fun i H2 => t o i v H2 fun H3 => Q σ H3) : gSub to ti t v σ H Q := q
theorem g_make {σ : L2.St} {H : Hp} {Q : VK} {C : Addr} {sp : Sp} {dvs : List V} {E : XK} {t : TA} (q : t σ H fun vs H1 => ∀ x dx, H1 x = none → H1 dx = none → dx ≠ x →
  sp (.ref x :: (vs ++ dvs)) (upd (upd H1 dx (.own x)) x (.ins C dx [])) (fun v H2 => v = .non ∧ Q (.ref x) H2) E) : tMake C sp dvs E t σ H Q := q
theorem g_makeK {σ : L2.St} {H : Hp} {Q : VK} {C : Addr} {n m : Nat} {sp : Sp} {gV : List V → List V → List V} {E : XK} {t tk : TA} (q : t σ H fun vs H1 => tk σ H1 fun zs H2 => vs.length = n ∧ zs.length = m ∧ ∀ x dx, H2 x = none → H2 dx = none → dx ≠ x →
  sp (gV (.ref x :: vs) zs) (upd (upd H2 dx (.own x)) x (.ins C dx [])) (fun v H3 => v = .non ∧ Q (.ref x) H3) E) : tMakeK C n m sp gV E t tk σ H Q := q
theorem g_yes {σ : L2.St} {H : Hp} {Q : Bool → Hp → Prop} (q : Q true H) : tYes σ H Q := q
theorem g_ite {c : Bool} {A B : Prop} (h1 : c = true → A) (h2 : c = false → B) : if c = true then A else B := by
  cases c
  · exact g_iteF (h2 rfl)
  · exact g_iteT (h1 rfl)
theorem kb_int {n : String} (h : n ∈ ["NoneType", "bool", "int", "str", "list", "tuple", "dict"]) : kitB n "int" = some (n == "int" || n == "bool") := by
  simp only [List.mem_cons, List.not_mem_nil, or_false] at h
  rcases h with rfl | rfl | rfl | rfl | rfl | rfl | rfl <;> decide +kernel
theorem kb_bool {n : String} (h : n ∈ ["NoneType", "bool", "int", "str", "list", "tuple", "dict"]) : kitB n "bool" = some (n == "bool") := by
  simp only [List.mem_cons, List.not_mem_nil, or_false] at h
  rcases h with rfl | rfl | rfl | rfl | rfl | rfl | rfl <;> decide +kernel
theorem kb_str {n : String} (h : n ∈ ["NoneType", "bool", "int", "str", "list", "tuple", "dict"]) : kitB n "str" = some (n == "str") := by
  simp only [List.mem_cons, List.not_mem_nil, or_false] at h
  rcases h with rfl | rfl | rfl | rfl | rfl | rfl | rfl <;> decide +kernel
theorem kb_tuple {n : String} (h : n ∈ ["NoneType", "bool", "int", "str", "list", "tuple", "dict"]) : kitB n "tuple" = some (n == "tuple") := by
  simp only [List.mem_cons, List.not_mem_nil, or_false] at h
  rcases h with rfl | rfl | rfl | rfl | rfl | rfl | rfl <;> decide +kernel
theorem TyB.mem {K : PySem.W.Frag} {H : Hp} {v : V} {n : String} (h : TyB K H v n) : n ∈ ["NoneType", "bool", "int", "str", "list", "tuple", "dict"] := by
  cases h <;> decide

def isI : V → Bool
  | .int _ => true
  | _ => false
def btw (v : V) (a b : Int) : Bool := match v with
  | .int i => decide (a ≤ i) && decide (i ≤ b)
  | _ => false

local macro_rules | `(tactic| walk_at "rd1") => `(tactic| first
  | with_reducible refine g_seq ?_
  | with_reducible refine g_asg ?_
  | with_reducible refine g_name ?_
  | with_reducible refine g_c ?_
  | with_reducible refine g_op ?_
  | with_reducible refine g_ifS ?_
  | with_reducible refine g_if ?_
  | with_reducible refine g_test ?_
  | with_reducible refine g_B ?_
  | with_reducible refine g_bl ?_
  | with_reducible refine g_blV ?_
  | with_reducible refine g_not ?_
  | with_reducible refine g_and ?_
  | with_reducible refine g_or ?_
  | with_reducible refine g_notV ?_
  | with_reducible refine g_andV ?_
  | with_reducible refine g_orV ?_
  | with_reducible refine g_ret ?_
  | with_reducible refine g_drop ?_
  | with_reducible refine g_next ?_
  | with_reducible refine g_retN ?_
  | with_reducible refine g_call ?_
  | with_reducible refine g_cb ?_
  | with_reducible refine g_cons ?_
  | with_reducible refine g_nil ?_
  | with_reducible refine g_tup ?_
  | with_reducible refine g_lst ?_
  | with_reducible refine g_prop ?_
  | with_reducible refine g_fld ?_
  | with_reducible refine g_meth ?_
  | with_reducible refine g_chain ?_
  | with_reducible refine g_yes ?_
  | with_reducible refine g_make ?_
  | with_reducible refine g_makeK ?_
  | with_reducible refine g_gsub ?_
  | with_reducible refine g_sfld ?_
  | with_reducible refine g_un ?_
  | with_reducible refine g_bm ?_
  | with_reducible refine g_iteT ?_
  | with_reducible refine g_iteF ?_
  | with_reducible refine g_I0 ?_
  | with_reducible refine g_add ?_
  | with_reducible refine g_sub ?_
  | ((with_reducible refine' g_var ?hv ?_); (case hv => rfl))
  | ((with_reducible refine g_eq ?hv ?_); (case hv => rfl))
  | ((with_reducible refine g_ne ?hv ?_); (case hv => rfl)))
local macro_rules | `(tactic| walk_at "rd") => `(tactic| repeat (walk_at "rd1"))

/-! ### is_integer, is_between -/
def spIsInt (K : PySem.W.Frag) : Sp := fun vs H Q _ => ∃ v n, vs = [v] ∧ TyB K H v n ∧ Q (.bl (isI v)) H
def spBtw (K : PySem.W.Frag) : Sp := fun vs H Q _ => ∃ v n a b, vs = [v, .int a, .int b] ∧ TyB K H v n ∧ Q (.bl (btw v a b)) H
end Mc

namespace Mx
open PySem PySem.Spec PyProof.Rows L2
open PySem.W (KxsFacts kxs_mw ks_superIn)
section
variable {prog : Program} {w : World} {A : Around} {E : Value → Shared → Prop} {h : Heap} {g : Array GenState} {d : Drawn} {t : Nat} {os : OsState}
theorem call_mw {B nI iI : String} {bmB : List Value} (FB : ExcBaseFacts B nI iI bmB) {nm q : Str} {C N : Addr} {bs bm : List Value} {hdct : Bool} {sn : List Str} {sub : List Value} {ab : Bool} {col : Option Bool} {dd : Option Addr} {k0 k1 k2 k3 k5 : Option Value}
    {mw x t0 : Addr} {us : List Value} {R : Value → Shared → Prop} (atC : h.get? C = some (excClassObj nm q C N bs bm hdct sn sub ab col dd k0 k1 k2 k3 k5 nI)) (atX : h.get? x = some (HandSPX.excO C t0)) (atW : h.get? mw = some (kxs_mw iI x)) (lim : us.length ≤ sizeLine)
    (then_ : ∀ g' t1, (∀ b o, b ≠ x → h.get? b = some o → g'.get? b = some o) → g'.get? x = some (HandSPX.excO C t1) → R .none ⟨g', g, d, t, os⟩) : wpAny (model prog w) A (call (.ref mw) us) R E ⟨h, g, d, t, os⟩ := by
  have three : (Value.type "method-wrapper" == Value.type "method" || Value.type "method-wrapper" == Value.type "builtin_function_or_method" || Value.type "method-wrapper" == Value.type "method-wrapper") = true := by decide
  refine wpAny_call (codeAny_of_tree (show wpAny _ A.in1 (callAny (.ref mw) ⟨us, []⟩) _ _ _ from ?_))
  · simp only [callAny]
    refine wpAny_bind (wpAny_load atW ?_)
    simp only [kxs_mw, three, if_true]
    refine PySem.W.KFB.if_so (by decide) (wpAny_bind (PySem.W.check_bound_init FB.toExcCallFacts atC atX rfl (wpAny_bind (wpAny_pure (wpAny_pure ⟨plainId_quiet FB.init.plain _, codeAny_builtin FB.initEntry ?_⟩)))))
    exact PySem.W.exc_init_tree (cls := .ref C) (t0 := t0) (dv := none) (c2 := .none) (c3 := .none) (b4 := .bool false) atX lim fun g' keep at_ _ => then_ g' _ keep at_
end
section
variable {X : Cx} {pins : List (Addr × Obj)} {σ : L2.St} {H : Hp} {s : Shared}
/-- super().__init__("..") in an own exception's __init__, as the first statement of the body -/
theorem super_at {body : List Stmt} {qual file z : Str} {scope : Scope} {L f cda cc x C : Addr} {fd : FuncData} {ar : Arg} {vs : Array Value} {tf : Tok} {oc ccl cl : Value} {od cdd cld : Option Addr} {osl ccs csl : Array (Option Value)} {j : Nat} {p0 p1 p2 p3 p4 p5 : Pos} {pl : Sem Bool} {Q : Flow → Shared → Prop} {E : Value → Shared → Prop}
    (I : Inv X pins σ H s) (hE : X.env = PySem.W.ksEnv qual scope L f (.ref cda) cc) (lf : X.K.lookup f = some ⟨oc, od, .func fd, osl⟩) (hp : (fd.params.posonlyargs ++ fd.params.args).head? = some ar)
    (hN : X.N[0]? = some ar.arg) (hσ : σ[0]? = some (some (.ref x))) (hcode : X.K.lookup cda = some ⟨ccl, cdd, .fields vs, ccs⟩) (hvs : vs[2]? = some (.str file tf)) (hfile : ((X.prog.main.file : Str) == file) = true)
    (hcell : X.K.lookup cc = some ⟨cl, cld, .cell (some (.ref C)), csl⟩) (T : OexC X.K C) (hs : ks_superIn X.K C C "__init__" = some (some (.builtin "ValueError.__init__"))) (hB : PySem.W.subIn X.K (.ref C) (.type "ValueError") = some true)
    (ho : PySem.W.nsIn X.K cStatics "thirdparty.any" = some none) (hsup : X.mg "super" = none) (hks : scope.names.lookup ("super" : Str) = some .globalImplicit) (hkc : scope.names.lookup ("__class__" : Str) = some .free) (hka : scope.names.lookup ar.arg = some .local) (hk : scope.kind = .function)
    (htop : (X.prog.main.scope.names.lookup ("super" : Str)).isSome = false) (hboot : bootBuiltins "super" = some (.type "super")) (ea : H x = some (exo x C none)) (q : ∀ s', Inv X pins σ H s' → Q .next s')
    (hc : eval (.Call (.Attribute (.Call (.Name "super" p0) [] [] p1) "__init__" p2) [.Constant (.str z) j p3] [] p4) (PySem.W.ksEnv qual scope L f (.ref cda) cc) = (do
      let ov ← attributeBase (.Call (.Name "super" p0) [] [] p1) "__init__" (PySem.W.ksEnv qual scope L f (.ref cda) cc) (eval (.Call (.Name "super" p0) [] [] p1) (PySem.W.ksEnv qual scope L f (.ref cda) cc))
      standAt p2.atName
      let (fv, first) ← holding [ov] (getMethod ov "__init__" pl)
      callWith p4 fv first (backTo p4 (starEach [.Constant (.str z) j p3] (PySem.W.ksEnv qual scope L f (.ref cda) cc))) []) := by rfl) :
    _root_.PySem.wpAt (model X.prog X.w) X.A (.func body X.env) (exec (.Expr (.Call (.Attribute (.Call (.Name "super" p0) [] [] p1) "__init__" p2) [.Constant (.str z) j p3] [] p4) p5) X.env) Q E s := by
  obtain ⟨nm, qn, N', bs, bm, sn, sub, ab, col, dd, k0, k1, k2, k3, k5, hC, hbm⟩ := T.cls
  have hcl : PySem.W.clsIn X.K C = some { name := nm, bases := bs, mro := .ref C :: bm, ns := N', qualname := qn, hasDict := true, slotNames := sn, subclasses := sub, abstract := ab, collection := col, hasDel := false } := by unfold PySem.W.clsIn; rw [hC] <;> rfl
  have KX := I.kIn
  obtain ⟨m, hns, hloc⟩ := id I.loc
  have hv : m ar.arg = some (.ref x) := by
    obtain ⟨u, ru, lk⟩ := hloc 0 ar.arg (.ref x) hN hσ (.inl (by rw [hE]; exact hka))
    obtain rfl : u = Value.ref x := ru
    rcases lk with ⟨_, h⟩ | ⟨h, _⟩
    · exact h
    · exfalso
      have e : X.env.kindOf ar.arg = some .local := by rw [hE]; exact hka
      rw [e] at h
      rcases h with h | h <;> cases h
  obtain ⟨t1, hx⟩ := exo_at I.hok ea
  have hmro : PySem.W.mroIn X.K C (.ref C) = some true := by
    unfold PySem.W.mroIn
    rw [hcl, Option.bind_some, if_neg (show ¬ (List.isEmpty (Value.ref C :: bm) = true) from Bool.false_ne_true), show ((Value.ref C :: bm).contains (.ref C)) = true by rw [List.contains_cons]; simp]
  have hglob := I.mod.glob
  obtain ⟨mb, hblt, hmb⟩ := I.mod.blt
  have bk := I.bk
  have IA : PySem.W.InstAt s.heap x { cls := .ref C, dict := none, data := .fields #[.ref t1, .none, .none, .none, .bool false, .none] } C none := ⟨hx, rfl, rfl, trivial⟩
  have hxC : x ≠ C := PySem.W.ks_ne KX IA hcl
  have hkk : X.env.scope.kind = .function := I.ok.kind
  obtain ⟨hh, g, d, t, os⟩ := s
  rw [hE]
  have hi : interactive (PySem.W.ksEnv qual scope L f (.ref cda) cc) = false := by
    unfold interactive
    rw [show (PySem.W.ksEnv qual scope L f (.ref cda) cc).scope.kind = .function from hk]
    rfl
  refine PySem.ks_wpAt_Expr_any (PySem.ks_wpAt_MethodCall ?_ hc) hi
  refine PySem.ks_wpAt_super_base (env := PySem.W.ksEnv qual scope L f (.ref cda) cc) hks hkc (by decide) rfl (KX _ _ lf) rfl hp rfl (KX _ _ hcode) rfl hvs hfile htop ?_
  refine PySem.W.ks_loadName_global hk hks (PySem.Calls.loadGlobal_builtin (env := PySem.W.ksEnv qual scope L f (.ref cda) cc) (hglob.keeps bk) hsup (hblt.keeps bk) ((hmb _ (by decide +kernel)).trans hboot) ⟨rfl, ?_⟩)
  refine wpAny_loadName_free hk hkc rfl ⟨_, KX _ _ hcell, rfl⟩ ?_
  refine wpAny_loadName_local hk hka (by have e : X.env.locals = L := by rw [hE]
                                         rw [← e]; exact hns) hv ?_
  refine ks_wpAny_isType_cls (KX _ _ hC) rfl ⟨rfl, ?_⟩
  refine ks_wpAny_call_super (KX _ _ hC) rfl hx rfl (fun c e => by cases e) (PySem.W.looks_mroIn KX hmro) (fun h1 e1 k1 => ?_)
  have I1 : Inv X pins σ H ⟨h1, g, d, t, os⟩ := I.kept (t' := t) k1
  have KX1 := I1.kIn
  have IA1 : PySem.W.InstAt h1 x { cls := .ref C, dict := none, data := .fields #[.ref t1, .none, .none, .none, .bool false, .none] } C none := ⟨k1 _ _ hx, rfl, rfl, trivial⟩
  have hs' : PySem.W.alongIn X.K "__init__" (((Value.ref C :: bm).dropWhile (· != .ref C)).drop 1) = some (some (.builtin "ValueError.__init__")) := by
    unfold ks_superIn at hs
    rw [hcl] at hs
    exact hs
  refine PySem.W.kxs_getMethod PySem.W.kxs_ValueError e1 (PySem.W.looks_opaque KX1 ho) (l₀ := .ref C :: bm) (fun A Q E s k q => wpAny_bind ((PySem.W.looks_clsIn KX1 hcl) A _ E s k (wpAny_pure q))) rfl KX1 hs' (IA1.type.andThen (PySem.W.looks_subIn KX1 hB)) hxC (by decide) ?_
  have I2 : Inv X pins σ H ⟨h1.push (kxs_mw "ValueError.__init__" x), g, d, t + 1, os⟩ := I1.kept (t' := t + 1) fun b o e => Heap.get?_push_of_some _ e
  refine PySem.W.kxs_callWith (i := "ValueError.__init__") (x := x) rfl (PySem.Calls.evalArgs_plain ?_)
  refine Calls.spliced_cons (Calls.Constant_str (k := j) (pos := p3) ?_)
  refine Calls.spliced_nil ?_
  have hmw : (h1.push (kxs_mw "ValueError.__init__" x)).get? h1.objs.size = some (kxs_mw "ValueError.__init__" x) := Heap.get?_push_size _ rfl
  refine ⟨hmw, ?_⟩
  refine call_mw F.excBase_ValueError (I2.kIn _ _ hC) (Heap.get?_push_of_some _ (k1 _ _ hx)) hmw (by show 1 ≤ sizeLine; decide) fun h' t2 k hx' => ?_
  have J := I2.write (t' := t + 1 + 1) (x := x) (e := x) (o := exo x C none) (by rw [ea]; exact True.intro) (.inl rfl) k ⟨_, hx'⟩ (exo_ok hx')
  have eu : upd H x (exo x C none) = H := by
    funext b
    by_cases hb : b = x
    · rw [hb, upd_same, ea]
    · rw [upd_ne hb]
  rw [eu] at J
  exact q _ J
end
open NdefX (NF ncx envF startF NScope CellsAt inv_startN)
/-- an own exception's __init__ whose first statement is super().__init__("..") -/
structure SupD (P : Program) (K : PySem.W.Frag) (x qual : Str) (params : Arguments) (body : List Stmt) (scope : Scope) (C f : Addr) (fd : FuncData) (cda cc : Addr) : Prop where
  ex : ∃ (oc : Value) (od : Option Addr) (dV kV doc pm : Value) (an : Option Addr) (ct : Value) (osl : Array (Option Value)) (ccl : Value) (cdd : Option Addr) (vs : Array Value) (ccs : Array (Option Value)) (cl : Value) (cld : Option Addr) (csl : Array (Option Value)) (file : Str) (tf : Tok),
    fd = PySem.W.ksFn x qual params body scope dV kV doc pm an (.ref cda) ct cc ∧ K.lookup f = some ⟨oc, od, .func fd, osl⟩ ∧ PySem.W.codeIn K (.ref cda) qual = true ∧ K.lookup cda = some ⟨ccl, cdd, .fields vs, ccs⟩ ∧ vs[2]? = some (.str file tf) ∧ ((P.main.file : Str) == file) = true ∧
    K.lookup cc = some ⟨cl, cld, .cell (some (.ref C)), csl⟩
/-- the class's facts -/
structure SupC (P : Program) (K : PySem.W.Frag) (mg : Str → Option Value) (C : Addr) : Prop where
  ox : OexC K C
  su : ks_superIn K C C "__init__" = some (some (.builtin "ValueError.__init__"))
  ve : PySem.W.subIn K (.ref C) (.type "ValueError") = some true
  tp : PySem.W.nsIn K cStatics "thirdparty.any" = some none
  sm : mg "super" = none
  top : (P.main.scope.names.lookup ("super" : Str)).isSome = false
theorem look_one {α : Type} (f g : Str) (y : α) : [(f, y)].lookup g = if g = f then some y else none := by
  by_cases h : g = f
  · subst h
    simp [List.lookup]
  · have e : (g == f) = false := by simpa using h
    rw [if_neg h]
    simp [List.lookup, e]
theorem boot_super : bootBuiltins "super" = some (.type "super") := by first | rfl | kernel_rfl
theorem fn_sup {CX : CXT} {P : Program} {w : World} {K : PySem.W.Frag} {mg : Str → Option Value} {base : Heap} {k : Nat} {C f cda cc : Addr} {fd : FuncData} {x qual z : Str} {params : Arguments} {rest : List Stmt} {scope : Scope} {N ps : List Str} {sp : Sp} {ar : Arg} {j : Nat} {p0 p1 p2 p3 p4 p5 : Pos}
    (D : SupD P K x qual params (.Expr (.Call (.Attribute (.Call (.Name "super" p0) [] [] p1) "__init__" p2) [.Constant (.str z) j p3] [] p4) p5 :: rest) scope C f fd cda cc) (T : SupC P K mg C) (S : NScope N ps ["__class__"] scope)
    (hp : (params.posonlyargs ++ params.args).head? = some ar) (hN : N[0]? = some ar.arg) (hks : scope.names.lookup ("super" : Str) = some .globalImplicit) (hka : scope.names.lookup ar.arg = some .local)
    (len : ∀ vs H Q E, sp vs H Q E → vs.length = ps.length)
    (hc : ∀ L : Addr, ∃ pl : Sem Bool, eval (.Call (.Attribute (.Call (.Name "super" p0) [] [] p1) "__init__" p2) [.Constant (.str z) j p3] [] p4) (PySem.W.ksEnv qual scope L f (.ref cda) cc) = (do
      let ov ← attributeBase (.Call (.Name "super" p0) [] [] p1) "__init__" (PySem.W.ksEnv qual scope L f (.ref cda) cc) (eval (.Call (.Name "super" p0) [] [] p1) (PySem.W.ksEnv qual scope L f (.ref cda) cc))
      standAt p2.atName
      let (fv, first) ← holding [ov] (getMethod ov "__init__" pl)
      callWith p4 fv first (backTo p4 (starEach [.Constant (.str z) j p3] (PySem.W.ksEnv qual scope L f (.ref cda) cc))) []))
    (hbody : ∀ (A : Around) (outer : List Env) (s : Shared) (H : Hp) (vs : List V) (Q : VK) (E : XK), sp vs H Q E →
      ∃ a, vs[0]? = some (.ref a) ∧ H a = some (exo a C none) ∧ ∃ t, PSs (ncx CX P w K mg base N ⟨x, qual, params, .Expr (.Call (.Attribute (.Call (.Name "super" p0) [] [] p1) "__init__" p2) [.Constant (.str z) j p3] [] p4) p5 :: rest, scope, [("__class__", cc)], cda⟩ f A outer s H E) rest t ∧
        t { nx := fun _ H' => Q .non H', rt := Q } (startF N vs [none]) H) : FnOk P w K mg base CX (k + 1) f fd ps sp := by
  obtain ⟨oc, od, dV, kV, doc, pm, an, ct, osl, ccl, cdd, vs', ccs, cl, cld, csl, file, tf, rfl, lf, hcd, hcode, hvs, hfile, hcell⟩ := D.ex
  refine ⟨len, fun A outer s H args us vs Q E hr e0 hb r hsp => ?_⟩
  have hl := len _ _ _ _ hsp
  have lim : s.heap.NoLimit := e0.mod.nolimit.keeps fun b o e => (e0.bs b o e).1
  have KX : K.In s.heap := e0.mod.kin.keeps fun b o e => (e0.bs b o e).1
  obtain ⟨FF, hFF⟩ : ∃ FF : NF, FF = ⟨x, qual, params, .Expr (.Call (.Attribute (.Call (.Name "super" p0) [] [] p1) "__init__" p2) [.Constant (.str z) j p3] [] p4) p5 :: rest, scope, [("__class__", cc)], cda⟩ := ⟨_, rfl⟩
  have hcl : FF.cl = [(("__class__" : Str), cc)] := by rw [hFF]
  have CA : CellsAt FF.cl ["__class__"] [none] s.heap H := by
    have key : ∀ y c, FF.cl.lookup y = some c → y = "__class__" ∧ c = cc := fun y c e => by
      rw [hcl, look_one] at e
      by_cases h : y = "__class__"
      · rw [if_pos h] at e
        cases e
        exact ⟨h, rfl⟩
      · rw [if_neg h] at e
        cases e
    refine ⟨rfl, fun y c e => ?_, fun y1 y2 c e1 e2 => (key _ _ e1).1.trans (key _ _ e2).1.symm, fun i y e => ?_⟩
    · obtain ⟨_, rfl⟩ := key _ _ e
      exact ⟨(e0.bs _ _ (e0.mod.kin _ _ hcell)).2, some (.ref C), _, KX _ _ hcell, rfl⟩
    · cases i with
      | zero =>
        have e : some ("__class__" : Str) = some y := e
        cases e
        exact ⟨cc, by rw [hcl, look_one, if_pos rfl], fun v hv => by
          have hv : some (none : Option V) = some (some v) := hv
          cases hv⟩
      | succ i =>
        have e : (none : Option Str) = some y := e
        cases e
  have hscope : FF.scope = scope := by rw [hFF]
  refine codeAny_call_function hr.depth (KX _ _ lf) rfl S.co S.gen rfl (PySem.W.codeRec_of KX hcd) (hb _ _ _ _ ?_)
  refine wpAny_newFunctionEnv S.nocell (fun ⟨n, _⟩ hy => S.par n (List.of_mem_zip hy).1) (fun h₁ hns hsb => ⟨lim.fresh _ hsb, ?_⟩) S.kind
  have kp : ∀ b o, s.heap.get? b = some o → h₁.get? b = some o := fun b o e => hsb.extBut b o (Nat.ne_of_lt (Heap.lt_size e)) (Heap.get?_push_of_some _ e)
  obtain ⟨a, ha, hea, t, ht, hq⟩ := hbody A outer s H vs Q E hsp
  rw [← hFF] at ht
  have I : Inv (ncx CX P w K mg base N FF f A outer s H E) [] (startF N vs [none]) H { s with heap := h₁, toks := s.toks + (ps.zip us).length } := inv_startN (hscope ▸ S) hr.hd e0 hl r CA hns kp
  subst hFF
  show codeAny _ _ (.func (.Expr (.Call (.Attribute (.Call (.Name "super" p0) [] [] p1) "__init__" p2) [.Constant (.str z) j p3] [] p4) p5 :: rest) (PySem.W.ksEnv qual scope s.heap.objs.size f (.ref cda) cc)) _ _
  refine ks_codeAny_funcAt (ks_wpAt_execs_cons ?_)
  obtain ⟨pl, hpl⟩ := hc s.heap.objs.size
  have hσ : (startF N vs [none])[0]? = some (some (.ref a)) := by
    unfold startF
    cases vs with
    | nil => cases ha
    | cons v vs =>
      have ha : some v = some (V.ref a) := ha
      cases ha
      rfl
  refine super_at (X := ncx CX P w K mg base N ⟨x, qual, params, .Expr (.Call (.Attribute (.Call (.Name "super" p0) [] [] p1) "__init__" p2) [.Constant (.str z) j p3] [] p4) p5 :: rest, scope, [("__class__", cc)], cda⟩ f A outer s H E) (pl := pl) I rfl lf hp hN hσ hcode hvs hfile hcell T.ox T.su T.ve T.tp T.sm hks (S.frk _ (List.mem_singleton.mpr rfl)) hka S.kind T.top boot_super hea (fun s2 I2 => ?_) hpl
  refine wpAt_of_wpAny ?_
  refine wpAny_mono (ht.run [] _ (startF N vs [none]) H _ I2 hq) (fun fl s' hs => ?_) fun e s' hs => hs
  have fin : ∀ {σ' : L2.St} {H' : Hp} {v : V} {u : Value}, Inv (ncx CX P w K mg base N ⟨x, qual, params, .Expr (.Call (.Attribute (.Call (.Name "super" p0) [] [] p1) "__init__" p2) [.Constant (.str z) j p3] [] p4) p5 :: rest, scope, [("__class__", cc)], cda⟩ f A outer s H E) [] σ' H' s' → L2.RelV v u → Q v H' → CE outer P w H s Q u s' :=
    fun {σ' H' v u} J rv q => ⟨v, H', J.os, J.bare, J.base, J.hok, rv, q⟩
  cases fl with
  | ret u =>
    obtain ⟨v, σ', H', J, rv, q⟩ := hs
    exact fin J rv q
  | next =>
    obtain ⟨σ', H', J, q⟩ := hs
    exact fin (v := V.non) (u := Value.none) J rfl q
  | brk =>
    obtain ⟨_, _, _, q⟩ := hs
    exact False.elim q
  | cont =>
    obtain ⟨_, _, _, q⟩ := hs
    exact False.elim q

/-- the class in a raise -/
structure ExK (P : Program) (w : World) (K : PySem.W.Frag) (mg : Str → Option Value) (base : Heap) (n : Str) (C f : Addr) (fd : FuncData) (ps : List Str) (sp : Sp) : Prop where
  iC : PySem.W.findIn K (.ref C) "__init__" = some (some (.ref f))
  tI : PySem.W.typeIn K (.ref f) = some (.type "function")
  ok : FnOk P w K mg base CX0 1 f fd ps sp
  bi : Binds K fd ps []
  gl : mg n = some (.ref C)
def spEx (C : Addr) (fld : Str) : Sp := fun vs H Q _ => ∃ a v, vs = [.ref a, v] ∧ H a = some (exo a C none) ∧ ∀ dx, H dx = none → dx ≠ a → Q .non (upd (upd H dx (exd dx [(fld, v)])) a (exo a C (some dx)))
def ExAs (C : Addr) (fld : Str) (W : XK) (vs : List V) (H1 : Hp) : Prop := vs.length ≤ 1000 ∧ ∀ a, H1 a = none → spEx C fld (.ref a :: (vs ++ [])) (upd H1 a (exo a C none))
  (fun v H2 => v = .non ∧ ∃ (d : Addr) (fs : List (Str × V)), H2 a = some (exo a C (some d)) ∧ H2 d = some (exd d fs) ∧ H1 d = none ∧ W (.ref C) (some d) (upd (del H2 a) d (.xd fs))) (fun _ _ _ => False)
theorem g_mko {C : Addr} {fld : Str} {ta : TA} {σ : L2.St} {H : Hp} {W : XK} (q : ta σ H fun vs H1 => ExAs C fld W vs H1) : tMkO C (spEx C fld) [] ta σ H W := q
theorem ex_as {C : Addr} {fld : Str} {H1 : Hp} {W : XK} {v : V} (h : ∀ d H', (∀ b o, H1 b = some o → H' b = some o) → H' d = some (.xd [(fld, v)]) → W (.ref C) (some d) H') : ExAs C fld W [v] H1 := by
  refine ⟨by show 1 ≤ 1000; decide, fun a ha => ⟨a, v, rfl, upd_same, fun dx hdx hne => ⟨rfl, dx, [(fld, v)], upd_same, ?_, ?_, ?_⟩⟩⟩
  · rw [upd_ne hne, upd_same]
  · rw [upd_ne hne] at hdx
    exact hdx
  · rw [upd_ne hne] at hdx
    refine h dx _ (fun b o hb => ?_) upd_same
    have b1 : b ≠ a := fun z => by rw [z, ha] at hb; cases hb
    have b2 : b ≠ dx := fun z => by rw [z, hdx] at hb; cases hb
    rw [upd_ne b2, del_ne b1, upd_ne b1, upd_ne b2, upd_ne b1]
    exact hb
/-- two promises of one def -/
theorem fn_or {P : Program} {w : World} {K : PySem.W.Frag} {mg : Str → Option Value} {base : Heap} {CX : CXT} {k : Nat} {f : Addr} {fd : FuncData} {ps : List Str} {sp1 sp2 : Sp} (F1 : FnOk P w K mg base CX0 k f fd ps sp1) (F2 : FnOk P w K mg base CX k f fd ps sp2) :
    FnOk P w K mg base CX k f fd ps (fun vs H Q E => sp1 vs H Q E ∨ sp2 vs H Q E) := by
  refine ⟨fun vs H Q E h => h.elim (F1.len _ _ _ _) (F2.len _ _ _ _), fun A outer s H args us vs Q E hr e0 hb r h => ?_⟩
  rcases h with h | h
  · refine codeAny_mono (F1.run A outer s H args us vs Q E hr e0 hb r h) fun r s' q => ?_
    cases r with
    | error e => exact False.elim q
    | ok fl => cases fl <;> exact q
  · exact F2.run A outer s H args us vs Q E hr e0 hb r h
/-! ### C(e, .., k = v, ..) in a try -/
section
variable {X : Cx} {CX : CXT} {k n : Nat} {f C : Addr} {fd : FuncData} {ps ks : List Str} {sp : Sp} {E : L2.St → XK} {x : Str} {p pos : Pos} {e : Expr} {es : List Expr} {kws : List Keyword} {t tk : TA} {g : List Value → List Value → List Value} {gV : List V → List V → List V}
def tMakeKS (C : Addr) (n m : Nat) (sp : Sp) (gV : List V → List V → List V) (E : L2.St → XK) (t tk : TA) : TE := fun σ H Q => tMakeK C n m sp gV (E σ) t tk σ H Q
theorem run_makeKS {pl : List (Addr × Obj)} {τ : L2.St} {G : Hp} {z : Shared} {R : VK} {EE : XK} {ua uk : List Value} {va vk : List V} (M : Mk X.K C f) (F : FnOk X.prog X.w X.K X.mg X.base CX k f fd ps sp) (room : Room (k + 1) X.A) (kb : KBn X.K fd ps (n + 1) ks g gV) (pass : PassesAt CX X τ EE)
    (I : Inv X pl τ G z) (ra : Vals va ua) (rk : Vals vk uk) (la : va.length = n) (lk : vk.length = ks.length)
    (want : ∀ a da, G a = none → G da = none → da ≠ a → sp (gV (.ref a :: va) vk) (upd (upd G da (.own a)) a (.ins C da [])) (fun v G2 => v = .non ∧ R (.ref a) G2) EE) : wpAny (model X.prog X.w) X.A (call (.ref C) ua (ks.zip uk)) (EP X pl τ R) X.xe z := by
  obtain ⟨top, htop⟩ : ∃ top, top = z.heap.objs.size := ⟨_, rfl⟩
  have q := want (z.heap.objs.size + 1) _ (I.hok.fresh (Nat.le_succ _)) (I.hok.fresh (Nat.le_refl _)) (Nat.ne_of_lt (Nat.lt_succ_self _))
  have J := Inv.made (C := C) I
  have rs : Vals (V.ref (z.heap.objs.size + 1) :: va) (Value.ref (z.heap.objs.size + 1) :: ua) := .cons rfl ra
  have len1 : (Value.ref (z.heap.objs.size + 1) :: ua).length = n + 1 := by simp [← ra.length, la]
  have runs := F.run _ X.stack _ _ ⟨Value.ref (z.heap.objs.size + 1) :: ua, ks.zip uk⟩ _ _ _ EE (room.make C ua (ks.zip uk)) (J.env0.make C ua (ks.zip uk)) (kb.to _ _ uk J.kIn len1 (rk.length ▸ lk)) (kb.rel rs rk) q
  refine wpAny_call (make_map (f := f) I.kIn M.makes M.init (beq_iff_eq.mp M.fn) (codeAny_mono runs fun res z2 hz => ?_))
  match res, hz with
  | .error e, hz => exact pass pl _ _ e z2 J hz
  | .ok (.ret u), hz =>
    obtain ⟨v, G2, J2, rv, ev, qq⟩ := J.after hz
    rw [ev] at rv
    exact ⟨rv, V.ref (z.heap.objs.size + 1), G2, J2, rfl, qq⟩
theorem pe_makeKS (M : Mk X.K C f) (F : FnOk X.prog X.w X.K X.mg X.base CX k f fd ps sp) (room : Room (k + 1) X.A) (hg : Gl X x) (hm : X.mg x = some (.ref C)) (kb : KBn X.K fd ps (n + 1) ks g gV) (pass : ∀ σ, PassesAt CX X σ (E σ)) (pa : PA X (e :: es) t) (pk : PK X kws tk)
    (h1 : (backToKw pos (keywordEach kws X.env)).all (·.1.isSome) = true := by rfl) (h2 : (backToKw pos (keywordEach kws X.env)).filterMap (·.1) = ks := by rfl) (h3 : (x == ("__debug__" : Str)) = false := by decide)
    (h4 : starEach (e :: es) X.env = (false, eval e X.env) :: starEach es X.env := by rfl) (h5 : ((backTo pos (starEach (e :: es) X.env)).any (·.1) || (backToKw pos (keywordEach kws X.env)).any (·.1.isNone)) = false := by rfl) :
    PE X (.Call (.Name x p) (e :: es) kws pos) (tMakeKS C n ks.length sp gV E t tk) :=
  ⟨fun pl z τ G R I q => wpAny_Call_Name_kw (ld_glob I hg hm (PySem.W.callWith_KW (h₀ := X.base) I.ok.mod.kin M.kp h1 (thn (pa.run pos pl z τ G _ I q) fun ua z1 ⟨va, G1, I1, ra, q1⟩ =>
    thn (pk.run pos pl z1 τ G1 _ I1 q1) fun uk z2 ⟨vk, G2, I2, rk, la, lk, q2⟩ => ⟨I2.kIn, by rw [h2]; exact run_makeKS M F room kb (pass τ) I2 ra rk la lk q2⟩) h5 h4) h3)⟩
end
end Mx

namespace Mx
open PySem PySem.Spec PyProof.Rows L2
/-! several clauses 'except x as n' -/
def endAs (i : Nat) (D : Ends) : Ends := { nx := fun σ' H' => D.nx (σ'.set i none) H', rt := D.rt, bk := fun σ' H' => D.bk (σ'.set i none) H', ct := fun σ' H' => D.ct (σ'.set i none) H' }
abbrev Clause := Value × Nat × (Addr → Value → Option Addr → TS)
def wMas (K : PySem.W.Frag) (Wout : WX) (D : Ends) : List Clause → WX
  | [] => Wout
  | (c, i, ts) :: l => fun cls d σ H => ∃ b, PySem.W.exmOne K cls c = some b ∧ (b = true → ∀ a, H a = none → ts a cls d (endAs i D) (σ.set i (some (.ref a))) H) ∧ (b = false → wMas K Wout D l cls d σ H)
inductive HdsAs (X : Cx) : List ExceptHandler → List Clause → Prop
  | nil : HdsAs X [] []
  | cons {x n : Str} {c : Value} {i : Nat} {ts : Addr → Value → Option Addr → TS} {b₀ : Stmt} {suite : List Stmt} {np pos' : Pos} {hds : List ExceptHandler} {l : List Clause} (hi : X.N[i]? = some n) (hl : X.env.kindOf n = some .local) (hc : Names X x c)
      (hsu : ∀ (a : Addr) (oe : Obj) (cls : Value) (d : Option Addr) (pn : List (Addr × Obj)), Zc cls d oe → (∃ vs, oe.data = .fields vs) → PSs (X.suite a ((a, oe) :: pn)) (b₀ :: suite) (ts a cls d)) (r : HdsAs X hds l) :
      HdsAs X (.ExceptHandler (some (.Name x np)) (some n) (b₀ :: suite) pos' :: hds) ((c, i, ts) :: l)
section
variable {X : Cx} {body : List Stmt} {g₀ : ExceptHandler} {gs : List ExceptHandler} {l : List Clause} {pos : Pos} {tb : WX → TS} {Wout : WX}
theorem ps_try_mas (hs : X.stack = X.env :: X.outer) (hf : X.env.frame = some X.env.locals) (nd : X.N.Nodup) (tk : Takes X Wout)
    (hb : ∀ (W : WX) (pn : List (Addr × Obj)) (xe : Value → Shared → Prop), Takes (X.tr pn xe) W → PassesOwn (model X.prog X.w) X.A X.env xe → PSs (X.tr pn xe) body (tb W))
    (hh : HdsAs X (g₀ :: gs) l) : PS X (.Try body (g₀ :: gs) [] [] pos) (fun D σ H => tb (wMas X.K Wout D l) D σ H) := by
  refine ⟨fun pins s σ H D I h => wpAny_Try_except ?_⟩
  have okX := I.ok
  have frX : X.A.frames = some (X.env :: X.outer) := okX.frames.trans (congrArg some hs)
  let xeT : Value → Shared → Prop := fun e s₁ => wpAny (model X.prog X.w) X.A (noteFrame e X.env) (fun _ s₂ => wpAny (model X.prog X.w) X.A (setFlight e none) (fun _ s₃ => wpAny (model X.prog X.w) X.A (handleBy e X.env (g₀ :: gs)) (SP X pins D) X.xe s₃) X.xe s₂) X.xe s₁
  refine wpAny_mono ((hb (wMas X.K Wout D l) (X.pn ++ pins) xeT (fun u s' z => ?_) PassesOwn.looking).run [] s σ H D (I.toTry _) h) (fun fl s1 z => ?_) fun _ _ z => z
  · obtain ⟨a, B, sI, pn1, σ1, H1, cls, d, rfl, JT, nb, up, sky, na, os, ag, w⟩ := z
    have J0 : Inv X pins σ1 H1 sI := JT.ofTry okX
    show wpAny _ X.A (noteFrame (.ref a) X.env) _ _ _
    refine Sky.land Zc.steady frX hf (by rw [← hs]; exact sky) fun hA flA upA => ?_
    have JA : Inv X pins σ1 H1 { s' with heap := hA } := J0.landed nb flA.1 (up.trans upA) os ag
    obtain ⟨oA, vA, eA, zA, dA⟩ := flA.there
    have nfr : a ∉ frs (X.env :: X.outer) := fun hm => by
      obtain ⟨_, o', e', hnf⟩ := flA.2.2.1.mem hm
      rw [eA] at e'
      cases e'
      exact hnf _ dA
    have nL : a ≠ X.env.locals := fun z => nfr (List.mem_filterMap.mpr ⟨X.env, List.mem_cons_self, hf.trans (congrArg some z.symm)⟩)
    have nF : a ∉ X.fs := fun hm => (List.mem_filterMap.mp hm).elim fun e he => nfr (List.mem_filterMap.mpr ⟨e, List.mem_cons_of_mem _ he.1, he.2⟩)
    have SA := JA.suite eA dA na nL nF
    have go : ∀ {hds : List ExceptHandler} {lc : List Clause}, HdsAs X hds lc → wMas X.K Wout D lc cls d σ1 H1 → wpAny (model X.prog X.w) X.A (handleBy (.ref a) X.env hds) (SP X pins D) X.xe { s' with heap := hA } := by
      intro hds lc hk
      induction hk with
      | nil =>
        intro w
        refine wpAny_handleBy_nil ?_
        obtain ⟨k1, k2, k3, oe, vs, T, oT, ts', he, hz, hd, h1, hr⟩ := flA
        have fin : wpAny (model X.prog X.w) X.A (setFlight (.ref a) X.env.frame) (fun _ s4 => wpAny (model X.prog X.w) X.A (throw (.ref a) : Sem Flow) (SP X pins D) X.xe s4) X.xe { s' with heap := hA } := by
          rw [hf]
          refine HandSPX.setFlight_upZ ⟨k1, k2, k3, oe, vs, T, oT, ts', he, hz, hd, h1, hr⟩ fun h4 hh4 up4 => wpAny_throw (tk _ _ ⟨a, B, sI, pins, σ1, H1, cls, d, rfl, J0, nb, (up.trans upA).trans up4, .inr (.inr (by rw [hs]; exact hh4)), na, os, ag, w⟩)
        unfold PySem.passOn
        refine wpAny_bind (wpAny_field he hd h1 ?_)
        rw [if_neg (by simp : ¬ ((Value.ref T == Value.none) = true))]
        first
          | exact wpAny_bind (wpAny_pure (wpAny_bind fin))
          | exact wpAny_bind fin
      | @cons x n c i ts b₀ suite np pos' hds2 l2 hi hl hc hsu r ih =>
        rintro ⟨b, hb1, hyes, hno⟩
        refine wpAny_handleBy_cons (codeAny_handlers_test ?_) (fun q => by cases q)
        have LM := PySem.W.exm_one (M := model X.prog X.w) (K := X.K) JA.kIn (fun A Q E s k q => wpAny_typeOf_ref (k _ _ eA) (by rw [zA.1]; exact q)) hb1
        have test : ∀ {Q E : Value → Shared → Prop}, Q c { s' with heap := hA } → wpAny (model X.prog X.w) (X.A.mark (some (.ref a))) (eval (.Name x np) X.env) Q E { s' with heap := hA } := by
          intro Q E q
          rcases hc with ⟨hg, hdbg, hm | ⟨hm, hv, hnn⟩⟩
          · exact ld_glob (X := X.suite a ((a, oA) :: (X.pn ++ pins))) SA hg hm q hdbg
          · exact ld_blt (X := X.suite a ((a, oA) :: (X.pn ++ pins))) SA hg hm hv q hnn hdbg
        refine test (LM.here ?_)
        cases b with
        | false => exact ih (hno rfl)
        | true =>
          refine codeAny_handlers_suite_as (HandSPX.lands_againZ flA fun hB flB upB => ?_)
          have JB : Inv X pins σ1 H1 { s' with heap := hB } := J0.landed nb flB.1 ((up.trans upA).trans upB) os ag
          obtain ⟨oB, vB, eB, zB, dB⟩ := flB.there
          refine store_ok (X := X.suite a ((a, oB) :: (X.pn ++ pins))) (v := .ref a) (JB.suite eB dB na nL nF) nd hi (.inl hl) rfl (fun s5 S5 => ?_) (.inr hl)
          refine wpAny_mono ((hsu a oB cls d (X.pn ++ pins) zB ⟨_, dB⟩).run [] s5 _ H1 _ S5 (hyes rfl a na)) (fun fl s6 z => ?_) fun _ _ z => z.elim
          have close : ∀ {σ6 : L2.St} {H6 : Hp} {Q : Shared → Prop}, Inv (X.suite a ((a, oB) :: (X.pn ++ pins))) [] σ6 H6 s6 → (∀ s7, Inv X pins (σ6.set i none) H6 s7 → Q s7) → wpAny (model X.prog X.w) X.A (do bindName X.env n .none; unbindBehindTheSuite X.env n pos') (fun _ s7 => Q s7) X.xe s6 :=
            fun S6 hq => gone_ok (S6.unsuite okX) nd hi hl hq
          cases fl with
          | ret u => exact z.elim fun v6 z => z.elim fun σ6 z => z.elim fun H6 z => close z.1 fun s7 J7 => ⟨_, _, _, J7, z.2.1, z.2.2⟩
          | next => exact z.elim fun σ6 z => z.elim fun H6 z => close z.1 fun s7 J7 => ⟨_, _, J7, z.2⟩
          | brk => exact z.elim fun σ6 z => z.elim fun H6 z => close z.1 fun s7 J7 => ⟨_, _, J7, z.2⟩
          | cont => exact z.elim fun σ6 z => z.elim fun H6 z => close z.1 fun s7 J7 => ⟨_, _, J7, z.2⟩
    exact go hh w
  · cases fl with
    | next => exact z.elim fun σ2 z => z.elim fun H2 z => wpAny_execs_nil ⟨σ2, H2, z.1.ofTry okX, z.2⟩
    | brk => exact z.elim fun σ2 z => z.elim fun H2 z => ⟨σ2, H2, z.1.ofTry okX, z.2⟩
    | cont => exact z.elim fun σ2 z => z.elim fun H2 z => ⟨σ2, H2, z.1.ofTry okX, z.2⟩
    | ret u => exact z.elim fun v z => z.elim fun σ2 z => z.elim fun H2 z => ⟨v, σ2, H2, z.1.ofTry okX, z.2.1, z.2.2⟩
end
end Mx

namespace Mx
open PySem PySem.Spec PyProof.Rows L2 Mc
/-! repr of any data, and calls of defs that show something -/
inductive ShowsV (K : PySem.W.Frag) (H : Hp) : V → Str → Prop
  | non : ShowsV K H .non "None"
  | bl (b : Bool) : ShowsV K H (.bl b) (if b then "True" else "False")
  | int {i : Int} (h : i.natAbs.log2 < 1920) : ShowsV K H (.int i) (toString i)
  | str {x : Str} (h : (reprText x).length ≤ sizeLine) : ShowsV K H (.str x) (reprText x)
  | ref {a : Addr} {d : PyData} (hd : Dp K H (.ref a) d) (hs : d.showable = true) (hx : d.hasDict = false) (hp : d.depth ≤ 40) (hz : d.shown.length ≤ sizeLine) : ShowsV K H (.ref a) d.shown
theorem dp_ext {K : PySem.W.Frag} {H H' : Hp} (e : ∀ b o, H b = some o → H' b = some o) {v : V} {d : PyData} (h : Dp K H v d) : Dp K H' v d := Dp.rec (motive_1 := fun v d _ => Dp K H' v d) (motive_2 := fun vs ds _ => DpAll K H' vs ds) .non .bl .int .str
  (fun s _ ih => .lst (s.imp (fun q => q.imp (e _ _) (fun ⟨o, q⟩ => ⟨o, e _ _ q⟩)) id) ih) (fun s _ ih => .tup (s.imp (fun q => q.imp (e _ _) (fun ⟨o, q⟩ => ⟨o, e _ _ q⟩)) id) ih) .nil (fun _ _ h1 h2 => .cons h1 h2) h
theorem ShowsV.ext {K : PySem.W.Frag} {H H' : Hp} (e : ∀ b o, H b = some o → H' b = some o) {v : V} {z : Str} (h : ShowsV K H v z) : ShowsV K H' v z := by
  cases h with
  | non => exact .non
  | bl b => exact .bl b
  | int h => exact .int h
  | str h => exact .str h
  | ref hd hs hx hp hz => exact .ref (dp_ext e hd) hs hx hp hz
def rReprA (K : PySem.W.Frag) : List V → Hp → VK → Prop := fun xs H Q => ∃ (v : V) (z : Str), xs = [v] ∧ ShowsV K H v z ∧ Q (.str z) H
theorem call_reprA {X : Cx} {K : PySem.W.Frag} (hg : X.A.guards = some []) (hu : X.A.units + 64 < cLine) (hK : X.K = K) : CallR X (.builtin "repr") (rReprA K) := by
  subst hK
  intro pins s σ H xs us Q I r h
  obtain ⟨v, z, rfl, hs, q⟩ := h
  cases r with
  | cons ru rn =>
    cases rn
    cases hs with
    | non =>
      cases ru
      exact PySem.P.repr_of_none ⟨.str _, H, I.tok _, ⟨_, rfl⟩, q⟩
    | bl b =>
      cases ru
      exact PySem.P.repr_of_bool ⟨.str _, H, I.tok _, ⟨_, rfl⟩, q⟩
    | int h =>
      obtain ⟨t, rfl⟩ := ru
      exact PySem.P.repr_of_int h ⟨.str _, H, I.tok _, ⟨_, rfl⟩, q⟩
    | str h =>
      obtain ⟨t, rfl⟩ := ru
      exact PySem.P.repr_of_str ⟨.str _, H, I.tok _, ⟨_, rfl⟩, q⟩ h
    | ref hd hs hx hp hz =>
      cases ru
      obtain ⟨as, R⟩ := Dp.reads I _ _ _ hd rfl
      exact repr_of_reads' R hs (fun e => by rw [hx] at e; cases e) hg (by omega) (fun b o e => e) (fun h' u tk hk => ⟨.str _, H, I.kept hk, ⟨u, rfl⟩, q⟩) hz
theorem ix_listK {X : Cx} {K : PySem.W.Frag} (hK : X.K = K) : IxR X (rIxL K) := hK ▸ ix_list
structure CalG (P : Program) (w : World) (K : PySem.W.Frag) (mg : Str → Option Value) (base : Heap) (k : Nat) (x : Str) (sp : Sp) : Prop where
  ex : ∃ (f : Addr) (fd : FuncData) (ps : List Str), FnG P w K mg base CX0 k f fd ps sp ∧ mg x = some (.ref f) ∧ PySem.W.keepIn K (.ref f) = true ∧ Binds K fd ps []
theorem calG_of {P : Program} {w : World} {K : PySem.W.Frag} {mg : Str → Option Value} {base : Heap} {x : Str} {st : Stmt} {N ps : List Str} {k : Nat} {sp : Sp} (D : Def K mg x st ps) (S : FnScope N ps (defScope st)) (len : ∀ vs H Q E, sp vs H Q E → vs.length = ps.length)
    (hbody : ∀ (f : Addr) (cdv : Value) (A : Around) (outer : List Env) (s : Shared) (H : Hp) (vs : List V) (Q : VK) (E : XK), A.guards = some [] → Room k (A.deeper (envOfC x (defScope st) s.heap.objs.size f cdv)) → sp vs H Q E →
      ∃ t, PSs (cxOf CX0 P w K mg base N x (defScope st) f cdv A outer s H E).nox (defBody st) t ∧ t { nx := fun _ H' => Q .non H', rt := Q } (start N vs) H) : CalG P w K mg base (k + 1) x sp := by
  obtain ⟨f, fd, F, hm, b⟩ := D.ex
  exact ⟨f, fd, ps, fnG_of F S len (hbody f), hm, F.kp, b⟩
section
variable {X : Cx} {k j : Nat} {x : Str} {sp : Sp} {p pos : Pos} {e : Expr} {es : List Expr} {t : TA}
theorem pe_fG (c : CalG X.prog X.w X.K X.mg X.base k x sp) (hgd : X.A.guards = some []) (hr : Room j X.A) (hk : k ≤ j) (hg : Gl X x) (ha : PA X (e :: es) t)
    (hdb : (x == ("__debug__" : Str)) = false := by decide) (he : starEach (e :: es) X.env = (false, eval e X.env) :: starEach es X.env := by rfl) (hpl : (backTo pos (starEach es X.env)).any (·.1) = false := by rfl) :
    PE X (.Call (.Name x p) (e :: es) [] pos) (tCall sp [] E0 t) := by
  obtain ⟨f, fd, ps, G, hm, kp, b⟩ := c.ex
  refine ⟨fun pins s σ H Q I h => wpAny_Call_Name_kw (ld_glob I hg hm (PySem.W.callWith_K (h₀ := X.base) I.ok.mod.kin kp (thn (ha.run pos pins s σ H _ I h) fun us s1 ⟨vs, H1, I1, r, q⟩ => ⟨I1.kIn, ?_⟩) he hpl) hdb)⟩
  have q : sp vs H1 Q E0 := by
    have q : sp (vs ++ []) H1 Q E0 := q
    rw [List.append_nil] at q
    exact q
  have hl : us.length = ps.length := by
    rw [← r.length]
    exact G.len _ _ _ _ q
  have bb := b s1 us I1.kIn (by rw [List.append_nil]; exact hl)
  rw [List.append_nil] at bb
  refine wpAny_call (codeAny_mono (G.run X.A X.stack s1 H1 ⟨us, []⟩ us vs Q E0 hgd (hr.mono hk) I1.env0 bb r q) fun r s' z => ?_)
  cases r with
  | error e => exact False.elim z
  | ok fl =>
    cases fl with
    | ret u => exact I1.after z
    | next => exact z.elim
    | brk => exact z.elim
    | cont => exact z.elim
theorem pe_f0 (c : Cal X.prog X.w X.K X.mg X.base k x sp) (hr : Room j X.A) (hk : k ≤ j) (hg : Gl X x) (hdb : (x == ("__debug__" : Str)) = false := by decide) : PE X (.Call (.Name x p) [] [] pos) (tCall sp [] E0 tNil) := by
  obtain ⟨f, fd, ps, G, hm, kp, b⟩ := c.ex
  exact pe_call0 G (hr.mono hk) hg hm kp b .nil pass0 hdb
end
end Mx

namespace Mx
open PySem PySem.Spec PyProof.Rows L2 Mc
/-! a dict of one pair, whatever its key is -/
def oddD (a : Addr) (k v : V) : HO := .ext fun h => (a == sysModules) = false ∧ ∃ (o : Obj) (e : DictEntry) (n : Nat), h.get? a = some o ∧ o.ExactDict ∧ o.data = .dict #[e] n ∧ RelV k e.key ∧ RelV v e.val
theorem odd_ok {P : Program} {w : World} {H : Hp} {h : Heap} {a : Addr} {k v : V} {o : Obj} {e : DictEntry} {n : Nat} (hs : (a == sysModules) = false) (ho : h.get? a = some o) (hx : o.ExactDict) (hd : o.data = .dict #[e] n) (rk : RelV k e.key) (rv : RelV v e.val) : ObjOk P w H h a (oddD a k v) :=
  ⟨⟨hs, o, e, n, ho, hx, hd, rk, rv⟩, ⟨o, ho⟩, fun h1 h2 ⟨z, o, e, n, q, r⟩ k => ⟨z, o, e, n, k _ q, r⟩⟩
theorem odd_at {P : Program} {w : World} {H : Hp} {h : Heap} {a : Addr} {k v : V} (hok : ObjOk P w H h a (oddD a k v)) : (a == sysModules) = false ∧ ∃ (o : Obj) (e : DictEntry) (n : Nat), h.get? a = some o ∧ o.ExactDict ∧ o.data = .dict #[e] n ∧ RelV k e.key ∧ RelV v e.val := hok.1
/-- the kind of one key -/
def oneKind (prog : Program) (w : World) (k : Leaf) (v0 : Value) (h0 : Leaf.isOf k v0 = true) (ns : ∀ x t, v0 ≠ .str x t) : KeyKind prog w Unit where
  is := fun _ v => v == v0
  hash := fun _ => k.key.hash w
  inj := fun _ _ _ _ _ => rfl
  byValue := fun _ v h => by
    have e : v = v0 := beq_iff_eq.mp h
    subst e
    exact Leaf.byValue h0
  pyHash := fun {A E s _ v Q} hv h => by
    have e : v = v0 := beq_iff_eq.mp hv
    subst e
    exact pyHash_leaf h0 h
  eqBool := fun {A E s a b u v Q} hu hv h => by
    have e : u = v0 := beq_iff_eq.mp hu
    have e2 : v = v0 := beq_iff_eq.mp hv
    subst e e2
    refine eqAt_leaf h0 h0 _ _ _ _ ?_
    have z : decide (k = k) = decide (a = b) := by simp
    rw [z]
    exact h
  «strs» := fun _ x t v h => by
    have e : Value.str x t = v0 := beq_iff_eq.mp h
    exact absurd e.symm (ns x t)
section
variable {X : Cx}
/-- {k: v}, k no int and no text -/
def tOdd (kv : V) (tk tv : TE) : TE := fun σ H Q => ∀ p, H p = none → tk σ (upd H p (.dK [])) fun x H1 => tv σ H1 fun y H2 => x = kv ∧ H2 p = some (.dK []) ∧ Q (.ref p) (upd H2 p (oddD p kv y))
theorem pe_oddL {k v : Expr} {tk tv : TE} {pos : Pos} (kv : V) (l : Leaf) (v0 : Value) (h0 : Leaf.isOf l v0 = true) (ns : ∀ x t, v0 ≠ .str x t) (rel : ∀ u, RelV kv u ↔ u = v0) (hk : PE X k tk) (hv : PE X v tv) : PE X (.Dict [some k] [v] pos) (tOdd kv tk tv) := by
  refine ⟨fun pins s σ H Q I q => ?_⟩
  have hn := I.hok.fresh (Nat.le_refl s.heap.objs.size)
  have I1 := I.laid (a := s.heap.objs.size) (o := .dK []) (h' := s.heap.push { cls := .type "dict", data := .dict #[] }) (t' := s.toks) (fun _ _ q => Heap.get?_push_of_some _ q) (Nat.le_refl _) (dk_empty s.heap I.big)
  refine wpAny_Dict_walk (knd := oneKind X.prog X.w l v0 h0 ns) rfl rfl (by simp) (by simp) (pairTrees_cons_walk (thn (hk.run pins _ σ _ _ I1 (q _ hn)) fun u1 s1 ⟨x, H1, J1, r1, q1⟩ => thn (hv.run pins s1 σ H1 _ J1 q1) fun u2 s2 ⟨y, H2, J2, r2, ex, e, q2⟩ => pairTrees_nil_walk ?_))
  subst ex
  have eu : u1 = v0 := (rel _).mp r1
  obtain ⟨z, hd, vs0, r0, dd⟩ := dk_of J2.hok e
  cases r0
  obtain ⟨o0, es0, ep0, ho0, hx0, hdt0, rest0⟩ := dd
  have hsz0 : es0 = #[] := by
    have l1 := rest0.2.1.length
    rw [List.length_nil, Array.length_toList] at l1
    exact Array.eq_empty_of_size_eq_zero l1
  subst hsz0
  have dd2 : s2.heap.DictOf (oneKind X.prog X.w l v0 h0 ns) s.heap.objs.size [] := ⟨o0, #[], ep0, ho0, hx0, hdt0, (fun e he => absurd he (by simp)), .nil, .nil⟩
  refine ⟨[((), u2)], ⟨by show (u1 == v0) = true; rw [eu]; simp, rfl, True.intro⟩, dd2, fun h' dd' hs => ⟨.ref s.heap.objs.size, _, ?_, rfl, q2⟩⟩
  obtain ⟨es, ep, ⟨o, ho, hx, hdt⟩, hsz, at_⟩ := dd'.raw
  have h1 : es.size = 1 := hsz
  obtain ⟨a1, a2⟩ := at_ 0 (by omega) () u2 rfl
  have ee : es = #[es[0]] := by
    apply Array.ext
    · simpa using h1
    · intro i hi1 hi2
      have : i = 0 := by omega
      subst this
      rfl
  rw [ee] at hdt
  have ek : es[0].key = v0 := beq_iff_eq.mp a1
  refine d_write J2 (by rw [e]; exact True.intro) hs ⟨o, ho⟩ (odd_ok hd ho hx hdt (by rw [ek]; exact (rel _).mpr rfl) ?_)
  rw [a2]
  exact r2
theorem pe_oddTrue {v : Expr} {tv : TE} {k : Expr} {tk : TE} {pos : Pos} (hk : PE X k tk) (hv : PE X v tv) : PE X (.Dict [some k] [v] pos) (tOdd (.bl true) tk tv) :=
  pe_oddL (.bl true) (.num 1) (.bool true) rfl (fun _ _ z => nomatch z) (fun u => Iff.rfl) hk hv
theorem pe_oddNone {v : Expr} {tv : TE} {k : Expr} {tk : TE} {pos : Pos} (hk : PE X k tk) (hv : PE X v tv) : PE X (.Dict [some k] [v] pos) (tOdd .non tk tv) :=
  pe_oddL .non .none .none rfl (fun _ _ z => nomatch z) (fun u => Iff.rfl) hk hv
end
end Mx

namespace PySem.SeqAt
open AutoSeq1 (wpAny_loadPart')
open MeetsSeq MeetsSeq2 MeetsSeq3 SeqRoads2
section
variable {prog : Program} {w : World}
theorem mx_ne_loopIn (l b : Addr) (items items2 : Array Value) (n n2 : Nat) (dd dd2 : Option Addr) (sl sl2 : Array (Option Value)) (hsz : items.size = items2.size) (e : Nat → Bool) (k : Nat) :
    ∀ i : Nat, items.size - i = k → MeetsIn prog w (Builtin.«list.__eq__.loop» ⟨[.ref l, .ref b, rawInt i, rawInt 3], []⟩)
      (fun A R s => s.heap.get? l = some { cls := .type "list", dict := dd, data := .seq items n, slots := sl } ∧ s.heap.get? b = some { cls := .type "list", dict := dd2, data := .seq items2 n2, slots := sl2 } ∧
        (∀ j (h1 : j < items.size) (h2 : j < items2.size), EqP prog w A.in1 s items[j] items2[j] (e j)) ∧
        R (.ok (.ret (.bool (!((List.range items.size).drop i).all e)))) s) := by
  induction k with
  | zero =>
    intro i hk A R s h
    obtain ⟨hp, g, d, tk, os⟩ := s; obtain ⟨hl, hb, he, h⟩ := h
    wp_walk using wpAny_loadPart' hl, wpAny_loadPart' hb
    have hi1 : items[((i : Nat) : Int).toNat]? = none := by simp; omega
    have hi2 : items2[((i : Nat) : Int).toNat]? = none := by simp; omega
    have hd : (List.range items.size).drop i = [] := by simp; omega
    rw [hd] at h
    rw [hi1, hi2]
    wp_walk using wpAny_loadPart' hl, wpAny_loadPart' hb
    show R (.ok (.ret (.bool (items.size != items2.size)))) _
    rw [hsz]
    simpa using h
  | succ k ih =>
    intro i hk A R s h
    obtain ⟨hp, g, d, tk, os⟩ := s; obtain ⟨hl, hb, he, h⟩ := h
    wp_walk using wpAny_loadPart' hl, wpAny_loadPart' hb
    have hlt : i < items.size := by omega
    have hlt2 : i < items2.size := by omega
    have hi1 : items[((i : Nat) : Int).toNat]? = some items[i] := by simp [hlt]
    have hi2 : items2[((i : Nat) : Int).toNat]? = some items2[i] := by simp [hlt2]
    have hd : (List.range items.size).drop i = i :: (List.range items.size).drop (i + 1) := by simp [List.drop_eq_getElem_cons, hlt]
    have hc : ((i : Int) + 1) = ((i + 1 : Nat) : Int) := by push_cast; rfl
    rw [hd, List.all_cons] at h
    rw [hi1, hi2]
    refine wpAny_bind (he i hlt hlt2 _ _ ?_)
    cases hb' : e i with
    | true =>
      rw [hb'] at h
      wp_walk
      rw [hc]
      exact ⟨plainId_quiet plain_eq_loop _, codeAny_builtin entry_eq_loop (by
        rw [Around.under_plainId plain_eq_loop _]
        exact ih (i + 1) (by omega) A R _ ⟨hl, hb, he, by simpa using h⟩)⟩
    | false =>
      rw [hb'] at h
      wp_walk using wpAny_loadPart' hl, wpAny_loadPart' hb
      rw [hi1, hi2]
      wp_walk
      simpa using h
theorem mx_list_neIn (l b : Addr) (items items2 : Array Value) (n n2 : Nat) (dd dd2 : Option Addr) (sl sl2 : Array (Option Value)) (hsz : items.size = items2.size) (e : Nat → Bool) :
    MeetsIn prog w (Builtin.«list.__ne__» ⟨[.ref l, .ref b], []⟩)
      (fun A R s => s.heap.get? l = some { cls := .type "list", dict := dd, data := .seq items n, slots := sl } ∧ s.heap.get? b = some { cls := .type "list", dict := dd2, data := .seq items2 n2, slots := sl2 } ∧
        (∀ j (h1 : j < items.size) (h2 : j < items2.size), EqP prog w A.in1 s items[j] items2[j] (e j)) ∧
        R (.ok (.ret (.bool (!(List.range items.size).all e)))) s) := by
  intro A R s h
  obtain ⟨hp, g, d, tk, os⟩ := s; obtain ⟨hl, hb, he, h⟩ := h
  have f3 := AutoSeq1.sub_list_list
  have hne : ¬ (items.size != items2.size) = true := by simp [hsz]
  wp_walk using wpAny_loadPart' hl, wpAny_loadPart' hb
  exact ⟨plainId_quiet plain_eq_loop _, codeAny_builtin entry_eq_loop (by
    rw [Around.under_plainId plain_eq_loop _]
    exact mx_ne_loopIn l b items items2 n n2 dd dd2 sl sl2 hsz e _ 0 rfl A R _ ⟨hl, hb, he, by simpa using h⟩)⟩
theorem mx_rcP_listsNe {A : Around} {s : Shared} {l b : Addr} {items items2 : Array Value} {e : Nat → Bool} (hl : s.heap.IsList l items) (hb : s.heap.IsList b items2) (hsz : items.size = items2.size) (hu : A.units < cLine)
    (he : ∀ j (h1 : j < items.size) (h2 : j < items2.size), EqP prog w A.in1 s items[j] items2[j] (e j)) (E Q : Value → Shared → Prop) (h : Q (.bool (!(List.range items.size).all e)) s) : wpAny (model prog w) A (richCompare .NotEq (.ref l) (.ref b)) Q E s := by
  obtain ⟨⟨cls, dd, data, sl⟩, ho, hc, n, hd⟩ := id hl
  obtain ⟨⟨cls2, dd2, data2, sl2⟩, ho2, hc2, n2, hd2⟩ := id hb
  simp only at hc hd hc2 hd2
  subst hc hd hc2 hd2
  have ta : s.TypeIs (.ref l) "list" := ⟨_, ho, rfl⟩
  have tb : s.TypeIs (.ref b) "list" := ⟨_, ho2, rfl⟩
  exact wpAny_richCompare_same_room (op := .NotEq) ta tb F.slot_list_ne (call_meetsIn F.slot_list_ne ta F.entry_list_ne (F.args_list_ne_2 _ _) (mx_list_neIn l b items items2 n n2 dd dd2 sl sl2 hsz e)
    ⟨ho, ho2, he, show Value.bool (!(List.range items.size).all e) ≠ Value.notImplemented ∧ Q (.bool (!(List.range items.size).all e)) s from ⟨(fun x => nomatch x), h⟩⟩) hu
end
end PySem.SeqAt
namespace Mx
open PySem PySem.Spec PyProof.Rows L2 Mc
/-! == of dicts of ints, of lists of such -/
def dEq (ks ls : List (Key × V)) : Bool := decide (ks.length = ls.length) && ks.all fun p => decide (valV ls p.1 = some p.2)
def IntsD (ks : List (Key × V)) : Prop := ∀ p ∈ ks, ∃ i, p.2 = V.int i
theorem hits_b {P : Program} {w : World} {A : Around} {s : Shared} {ls : List (Key × V)} {vb : List (Key × Value)} (rb : KV ls vb) (il : IntsD ls) {ks : List (Key × V)} {va : List (Key × Value)}
    (ra : KV ks va) (ik : IntsD ks) : PySem.W.KeqHitsP P w A s vb va (ks.all fun p => decide (valV ls p.1 = some p.2)) := by
  unfold KV at ra
  induction ra with
  | nil => exact .nil
  | @cons p q ps qs h t k =>
    obtain ⟨h1, h2⟩ := h
    obtain ⟨key, v⟩ := q
    have h1' : p.1 = key := h1
    subst h1'
    have k' := k fun p' hm => ik p' (List.mem_cons_of_mem _ hm)
    rw [List.all_cons]
    cases e : valV ls p.1 with
    | none =>
      have rr : RelO (none : Option V) (valueAt vb p.1) := by rw [← e]; exact rb.val p.1
      have hn : valueAt vb p.1 = none := RelO.none_of rr
      rw [decide_eq_false (show ¬ ((none : Option V) = some p.2) from fun z => by cases z)]
      exact .miss hn
    | some u =>
      have rr : RelO (some u) (valueAt vb p.1) := by rw [← e]; exact rb.val p.1
      obtain ⟨y, hy, ry⟩ := rr.some_of
      obtain ⟨i, hi⟩ := ik p List.mem_cons_self
      obtain ⟨j, hj⟩ : ∃ j, u = V.int j := by
        unfold valV at e
        obtain ⟨pr, hf, hu⟩ := Option.map_eq_some_iff.mp e
        obtain ⟨j, hj⟩ := il pr (List.mem_of_find?_eq_some hf)
        exact ⟨j, by rw [← hu, hj]⟩
      rw [hi] at h2 ⊢
      subst hj
      obtain ⟨t1, rfl⟩ := (show ∃ t, v = Value.int i t from h2)
      obtain ⟨t2, rfl⟩ := (show ∃ t, y = Value.int j t from ry)
      have ee : decide (some (V.int j) = some (V.int i)) = (i == j) := by
        by_cases z : i = j
        · subst z
          simp
        · rw [decide_eq_false (fun q => z (by injection q with q; injection q with q; exact q.symm))]
          exact (beq_eq_false_iff_ne.mpr z).symm
      rw [ee]
      exact .hit hy (SeqAt.EqAt.int_int i t1 j t2).eqP k'
theorem nodup_of {P : Program} {w : World} {H : Hp} {h : Heap} {a : Addr} {ks : List (Key × V)} (ok : HOk P w H h) (e : H a = some (.dK ks)) : (ks.map (·.1)).Nodup := by
  obtain ⟨_, _, vs, r, dd⟩ := dk_of ok e
  have e1 := KV.keys r
  rw [e1]
  obtain ⟨o, es, ep, h1, h2, h3, h4, h5, h6⟩ := dd
  exact h6
theorem valV_mem {ks : List (Key × V)} (nd : (ks.map (·.1)).Nodup) {p : Key × V} (h : p ∈ ks) : valV ks p.1 = some p.2 := by
  induction ks with
  | nil => cases h
  | cons q r ih =>
    rw [List.map_cons, List.nodup_cons] at nd
    rcases List.mem_cons.mp h with rfl | h
    · exact valV_pos rfl
    · rw [valV_neg (fun z => nd.1 (by rw [z]; exact List.mem_map_of_mem h))]
      exact ih nd.2 h
theorem dEq_refl {ks : List (Key × V)} (nd : (ks.map (·.1)).Nodup) : dEq ks ks = true := by
  unfold dEq
  rw [decide_eq_true rfl, Bool.true_and, List.all_eq_true]
  intro p hp
  exact decide_eq_true (valV_mem nd hp)
section
variable {X : Cx} {pins : List (Addr × Obj)} {σ : L2.St} {H : Hp} {s : Shared}
theorem eqP_dicts (I : Inv X pins σ H s) {A : Around} (hu : A.units < cLine) {a b : Addr} {ks ls : List (Key × V)} (ha : H a = some (.dK ks)) (hb : H b = some (.dK ls)) (ik : IntsD ks) (il : IntsD ls) : SeqAt.EqP X.prog X.w A s (.ref a) (.ref b) (dEq ks ls) := by
  by_cases e : a = b
  · subst e
    rw [ha] at hb
    cases hb
    rw [dEq_refl (nodup_of I.hok ha)]
    exact (SeqAt.EqAt.same _).eqP
  · refine SeqAt.eqP_refs e fun E Q q => ?_
    obtain ⟨_, ya, va, ra, da⟩ := dk_of I.hok ha
    obtain ⟨_, yb, vb, rb, db⟩ := dk_of I.hok hb
    refine PySem.W.rcP_dicts (knd := mixKind X.prog X.w) (r := ks.all fun p => decide (valV ls p.1 = some p.2)) ya yb da db hu (fun _ => hits_b rb il ra ik) E Q ?_
    have e1 : (va.length == vb.length) = decide (ks.length = ls.length) := by
      rw [← ra.length, ← rb.length]
      by_cases z : ks.length = ls.length
      · rw [decide_eq_true z, z]; simp
      · rw [decide_eq_false z]; exact beq_eq_false_iff_ne.mpr z
    rw [e1]
    exact q
abbrev AreD (H : Hp) : List Addr → List (List (Key × V)) → Prop := Paired fun a ks => H a = some (.dK ks) ∧ IntsD ks
def dEqs : List (List (Key × V)) → List (List (Key × V)) → Bool
  | k :: ks, l :: ls => dEq k l && dEqs ks ls
  | _, _ => true
theorem items_d (I : Inv X pins σ H s) {A : Around} (hu : A.units < cLine) : ∀ {as bs : List Addr} {kss lss : List (List (Key × V))}, AreD H as kss → AreD H bs lss → as.length = bs.length →
    ∃ e : Nat → Bool, (∀ j (h1 : j < (as.map Value.ref).length) (h2 : j < (bs.map Value.ref).length), SeqAt.EqP X.prog X.w A s (as.map Value.ref)[j] (bs.map Value.ref)[j] (e j)) ∧ (List.range as.length).all e = dEqs kss lss
  | [], [], _, _, .nil, .nil, _ => ⟨fun _ => true, fun j h1 _ => absurd h1 (Nat.not_lt_zero j), rfl⟩
  | a :: as, b :: bs, ks :: kss, ls :: lss, .cons ha ra, .cons hb rb, hl => by
    obtain ⟨e, he, hall⟩ := items_d I hu ra rb (Nat.succ.inj hl)
    refine ⟨fun j => match j with | 0 => dEq ks ls | j + 1 => e j, fun j h1 h2 => ?_, ?_⟩
    · cases j with
      | zero => exact eqP_dicts I hu ha.1 hb.1 ha.2 hb.2
      | succ j => exact he j (Nat.lt_of_succ_lt_succ h1) (Nat.lt_of_succ_lt_succ h2)
    · rw [List.length_cons, List.range_succ_eq_map, List.all_cons, List.all_map]
      show (dEq ks ls && (List.range as.length).all e) = _
      rw [hall]
      rfl
def rEqLD (K : PySem.W.Frag) (neg : Bool) : R2 := fun x y H Q => ∃ (a b : Addr) (as bs : List Addr) (kss lss : List (List (Key × V))), x = .ref a ∧ y = .ref b ∧ SqL K H a (as.map V.ref) ∧ SqL K H b (bs.map V.ref) ∧ AreD H as kss ∧ AreD H bs lss ∧ as.length = bs.length ∧
  Q (.bl (if neg then !(dEqs kss lss) else dEqs kss lss)) H
theorem op_eqLD (hu : X.A.units + 64 < cLine) : OpR X (compareOp .Eq) (rEqLD X.K false) := by
  intro pins s σ H x y v u Q I rx ry h
  obtain ⟨a, b, as, bs, kss, lss, rfl, rfl, ha, hb, da, db, hl, q⟩ := h
  cases rx
  cases ry
  obtain ⟨us, r1, p1, _⟩ := I.list ha
  obtain ⟨ws, r2, p2, _⟩ := I.list hb
  obtain rfl := refs_at r1
  obtain rfl := refs_at r2
  obtain ⟨e, he, hall⟩ := items_d I (A := X.A.in1) (by show X.A.units + 1 < cLine; omega) da db hl
  refine SeqAt.rcP_lists (e := e) p1.isList p2.isList (by simpa using hl) (by omega) (fun j h1 h2 => ?_) _ _ ?_
  · have k := he j (by simpa using h1) (by simpa using h2)
    simpa using k
  · rw [show (as.map Value.ref).toArray.size = as.length by simp, hall]
    exact ⟨.bl _, H, I, rfl, q⟩
theorem op_neLD (hu : X.A.units + 64 < cLine) : OpR X (compareOp .NotEq) (rEqLD X.K true) := by
  intro pins s σ H x y v u Q I rx ry h
  obtain ⟨a, b, as, bs, kss, lss, rfl, rfl, ha, hb, da, db, hl, q⟩ := h
  cases rx
  cases ry
  obtain ⟨us, r1, p1, _⟩ := I.list ha
  obtain ⟨ws, r2, p2, _⟩ := I.list hb
  obtain rfl := refs_at r1
  obtain rfl := refs_at r2
  obtain ⟨e, he, hall⟩ := items_d I (A := X.A.in1) (by show X.A.units + 1 < cLine; omega) da db hl
  refine SeqAt.mx_rcP_listsNe (e := e) p1.isList p2.isList (by simpa using hl) (by omega) (fun j h1 h2 => ?_) _ _ ?_
  · have k := he j (by simpa using h1) (by simpa using h2)
    simpa using k
  · rw [show (as.map Value.ref).toArray.size = as.length by simp, hall]
    exact ⟨.bl _, H, I, rfl, q⟩
end
end Mx

namespace Mx
open PySem PySem.Spec PyProof.Rows L2 Mc
/-! isinstance, the keys, list(d.values()), max with default -/
def rIsiO (K : PySem.W.Frag) : List V → Hp → VK → Prop := fun xs H Q => rIsi K xs H Q ∨ ∃ (a : Addr) (k v : V) (m : String) (b : Bool), xs = [.ref a, .ty m] ∧ H a = some (oddD a k v) ∧ kitB "dict" m = some b ∧ Q (.bl b) H
theorem call_isiO {X : Cx} : CallR X (.builtin "isinstance") (rIsiO X.K) := by
  intro pins s σ H xs us Q I r h
  rcases h with h | ⟨a, k, v, m, b, rfl, ha, e, q⟩
  · exact call_isi pins s σ H xs us Q I r h
  · obtain ⟨u1, u2, rfl, r1, r2⟩ := vals2 r
    cases (show u1 = Value.ref a from r1)
    cases (show u2 = Value.type m from r2)
    obtain ⟨hs, o, en, n, ho, hx, hd, _, _⟩ := odd_at (I.hok a _ ha)
    exact PySem.W.kia_one PySem.W.kitx_dict I.kIn ⟨o, ho, hx.1⟩ (kit_ty e) (fun z => nomatch z) fun tk => ⟨.bl b, H, I.tok tk, rfl, q⟩
def Ito (d : Addr) (o : Obj) (k v : V) : It :=
  ⟨fun i H => H d = some (.frz o (oddD d k v)) ∧ i < 1, fun i H x H' => H' = H ∧ x = k, fun i H => H d = some (.frz o (oddD d k v)) ∧ 1 ≤ i⟩
theorem frzO {X : Cx} {pins : List (Addr × Obj)} {σ : L2.St} {H : Hp} {s : Shared} {d : Addr} {o : Obj} {k v : V} (I : Inv X pins σ H s) (h : H d = some (.frz o (oddD d k v))) :
    (d == sysModules) = false ∧ s.heap.get? d = some o ∧ o.ExactDict ∧ ∃ (e : DictEntry) (n : Nat), o.data = .dict #[e] n ∧ RelV k e.key ∧ RelV v e.val := by
  obtain ⟨hd, z⟩ := I.hok d _ h
  obtain ⟨hs, o', e, n, ho, hx, hdt, r1, r2⟩ := odd_at z
  rw [hd] at ho
  cases ho
  exact ⟨hs, hd, hx, e, n, hdt, r1, r2⟩
section
variable {P : Program} {w : World} {K : PySem.W.Frag} {tg : Expr} {d : Addr} {o : Obj} {es : Array DictEntry} {ep : Nat} {k v : V}
theorem turn_odd (it : Addr) (hod : o.data = .dict es ep) : Turn P w K tg (Ito d o k v) [it] it (fun i h => h.IsKeyIter it d i 1 ep) where
  mem := by simp
  obj := fun i h st b hb => by
    have e : b = it := by simpa using hb
    subst e
    obtain ⟨oi, e, c, dd⟩ := st
    exact ⟨oi, e, fun v z => by rw [dd] at z; cases z⟩
  keep := fun i h h' st k => st.at fun oi e => k it (by simp) oi e
  item := by
    intro X hP hw hK hc i pins s σ H E I hf st hg
    subst hP hw hK
    obtain ⟨hd, hi⟩ := hg
    obtain ⟨f0, f1, f2, f3, f4, f5⟩ := hf it (by simp)
    obtain ⟨hs, hgd, hx, en, n, hdt, hkey, hval⟩ := frzO I hd
    obtain ⟨e1, e2⟩ := dict_ep hod hdt
    subst e2
    have i0 : i = 0 := by omega
    subst i0
    refine next_key_item (es := #[en]) (en := en) st hgd hdt rfl rfl fun h' st' sb => ?_
    have I1 : Inv X pins σ H { s with heap := h' } := I.turned (t' := s.toks) (fun b ob hb e => (sb.2 b hb).trans e) f0 f1 f3 f4 f5
    obtain ⟨oi, e, c, dd⟩ := id st'
    exact ⟨en.key, rfl, go_of (s := { s with heap := h' }) e c dd (by decide) ⟨k, H, I1, hkey, ⟨rfl, rfl⟩, st', fun b hb => (hf b hb).1⟩⟩
  done := by
    intro X hP hw hK hc i pins s σ H E I hf st hg
    subst hP hw hK
    obtain ⟨hd, hi⟩ := hg
    obtain ⟨f0, f1, f2, f3, f4, f5⟩ := hf it (by simp)
    obtain ⟨hs, hgd, hx, en, n, hdt, hkey, hval⟩ := frzO I hd
    obtain ⟨e1, e2⟩ := dict_ep hod hdt
    subst e2
    exact next_key_end (es := #[en]) (I.ok.hd hc) st hgd hdt rfl hi fun h' eb => ⟨rfl, I.turned (t' := s.toks) (fun b ob hb e => eb b ob hb e) f0 f1 f3 f4 f5⟩
  self := fun A i s Q E st h => by
    refine wpAny_pyIter_slot st.typeIs F.slot_dict_keyiterator_iter (wpAny_call_entry F.slot_dict_keyiterator_iter st.typeIs F.entry_dict_keyiterator_iter ?_ (F.args_dict_keyiterator_iter_1 _))
    show wpAny _ _ (ret (.ref it)) _ _ s
    exact wpAny_pure ⟨_, rfl, "dict_keyiterator", _, st.typeIs, F.slot_dict_keyiterator_next.lookup, h⟩
theorem walk_odd : Walk (Ito d o k v) 1 (fun H => H d = some (.frz o (oddD d k v))) (fun i H x H' => H' = H ∧ x = k) :=
  ⟨fun _ _ hi q => ⟨q, hi⟩, fun _ q => ⟨q, Nat.le_refl _⟩, fun _ _ _ _ _ _ y => y⟩
end
/-- the dict is locked -/
def iKeysO (td : TE) : TI := fun σ H R => td σ H fun x H1 => ∃ d o, x = .ref d ∧ ((∃ kvs, H1 d = some (.frz o (.dK kvs)) ∧ R (Itk d o kvs) H1) ∨ (∃ k v, H1 d = some (.frz o (oddD d k v)) ∧ R (Ito d o k v) H1) ∨ ∃ kvs, H1 d = some (.frz o (.dT kvs)) ∧ R (Itkt d o kvs) H1)
section
variable {X : Cx} {tg e : Expr} {td te : TE} {p apos cpos pos : Pos}
theorem pi_keysO (he : PE X e td) : PI X tg e (iKeysO td) := by
  refine ⟨fun pins s σ H R I h => ?_⟩
  refine thn (he.run pins s σ H _ I h) fun u s1 ⟨x, H1, I1, rx, d, o, ex, q⟩ => ?_
  subst ex
  obtain rfl : u = Value.ref d := rx
  rcases q with ⟨kvs, hd, q⟩ | ⟨k, v, hd, q⟩ | ⟨kvs, hd, q⟩
  · obtain ⟨hs, hgd, hx, es, ep, vs, hdt, hsz, kv, hm⟩ := I1.frzK hd
    refine iter_keys hs hgd hx hdt (pi_one (tk := s1.toks) I1 _ (turn_keys _ hdt) ⟨_, Heap.get?_push_size _ rfl, rfl, ?_⟩ q)
    rw [hsz] <;> rfl
  · obtain ⟨hs, hgd, hx, en, n, hdt, _, _⟩ := frzO I1 hd
    exact iter_keys hs hgd hx hdt (pi_one (tk := s1.toks) I1 _ (turn_odd _ hdt) ⟨_, Heap.get?_push_size _ rfl, rfl, rfl⟩ q)
  · obtain ⟨hs, hgd, hx, es, ep, hdt, hsz, ent⟩ := I1.frzT hd
    refine iter_keys hs hgd hx hdt (pi_one (tk := s1.toks) I1 _ (turn_keysT _ hdt) ⟨_, Heap.get?_push_size _ rfl, rfl, ?_⟩ q)
    rw [hsz] <;> rfl
theorem vals_of_kv {ks : List (Key × V)} {vs : List (Key × Value)} (h : KV ks vs) : Vals (ks.map (·.2)) (vs.map (·.2)) := by
  unfold KV at h
  induction h with
  | nil => exact .nil
  | cons r t ih => exact .cons r.2 ih
theorem vals_items {vs : List (Key × Value)} {acc : Array Value} (h : ItemsOf (fun i v => ∃ k, vs[i]? = some (k, v)) acc vs.length) : acc.toList = vs.map (·.2) := by
  apply List.ext_getElem?
  intro j
  rw [List.getElem?_map, Array.getElem?_toList]
  cases e : acc[j]? with
  | some v =>
    obtain ⟨k, hk⟩ := h.2 j v e
    rw [hk]
    rfl
  | none =>
    have : vs.length ≤ j := by rw [← h.1]; exact Array.getElem?_eq_none_iff.mp e
    rw [List.getElem?_eq_none this]
    rfl
def tListVals (te : TE) : TE := fun σ H Q => te σ H fun x H1 => ∃ (d : Addr) (kvs : List (Key × V)), x = .ref d ∧ H1 d = some (.dK kvs) ∧ ∀ l, H1 l = none → Q (.ref l) (upd H1 l (.lst (kvs.map (·.2))))
theorem pe_listVals (hc : X.calm = true) (he : PE X e te) (hg : Gl X "list") (hm : X.mg "list" = none) (hv : bootBuiltins "list" = some (.type "list")) (hbase : attributeBase e "values" X.env (eval e X.env) = eval e X.env := by rfl) (hline : (apos.endLine == cpos.line) = true := by rfl)
    (hs : starEach [.Call (.Attribute e "values" apos) [] [] cpos] X.env = (false, eval (.Call (.Attribute e "values" apos) [] [] cpos) X.env) :: starEach [] X.env := by rfl) :
    PE X (.Call (.Name "list" p) [.Call (.Attribute e "values" apos) [] [] cpos] [] pos) (tListVals te) := by
  refine ⟨fun pins s σ H Q I hq => ?_⟩
  refine wpAny_Call_Name_kw (ld_blt I hg hm hv ?_)
  refine PyProof.Rows.callWith_type1 ?_ hs rfl
  rw [hs]
  show wpAny _ _ (spliced ((false, eval (.Call (.Attribute e "values" apos) [] [] cpos) X.env) :: backTo pos (starEach [] X.env))) _ _ s
  refine Calls.spliced_cons ?_
  refine wpAny_Call_method (T := "dict") (id := "dict.values") hbase rfl hline F.plainAttrs_dict F.slot_dict_values F.type_dict_values (thn (he.run pins s σ H _ I hq) fun u s1 ⟨x, H1, I1, rx, d, kvs, ex, hd, q⟩ => ?_)
  subst ex
  obtain rfl : u = Value.ref d := rx
  obtain ⟨hz, hs0, vs, kv, hdo⟩ := I1.hok d _ hd
  obtain ⟨ep, hat⟩ := hdo.dictAt
  have lk : kvs.length = vs.length := Paired.length kv
  have I2 : Inv X pins σ H1 { s1 with heap := s1.heap.push { cls := .type "dict_values", data := .fields #[.ref d] } } := I1.kept (t' := s1.toks) fun b ob q => Heap.get?_push_of_some _ q
  refine ⟨hdo.typeIs, hdo.mapOf.noDict, ?_⟩
  show wpAny _ _ (callWith cpos (.builtin "dict.values") [.ref d] [] []) _ X.xe s1
  refine method_meetsIn F.slot_dict_values F.entry_dict_values rfl (PySem.evalArgs_none ⟨rfl, hdo.typeIs, F.args_dict_values_1 _, _, meets_dict_values (mixKind X.prog X.w) d hs0, ⟨vs, hdo⟩, ?_⟩)
  refine Calls.spliced_nil ?_
  refine PySem.W.kdl_call (PySem.W.kdl_values (knd := mixKind X.prog X.w) (kvs := vs) (ep := ep)) (I1.ok.hd hc) ⟨⟨_, Heap.get?_push_size _ rfl, rfl, rfl⟩, hat.push _⟩ (by omega) fun h' tk acc' c' hk hS hacc => ?_
  refine ⟨.ref _, _, I2.laid (t' := tk) (o := .lst (kvs.map (·.2))) hk (Nat.le_refl _) ?_, rfl, q _ (I2.hok.fresh (Nat.le_refl _))⟩
  refine ⟨by rw [List.length_map]; exact hz, acc'.toList, c', ?_, ?_⟩
  · rw [vals_items hacc]
    exact vals_of_kv kv
  · rw [Array.toArray_toList]
    exact hS
theorem dpAll_ints {K : PySem.W.Frag} {H : Hp} : ∀ ns : List Int, DpAll K H (ns.map V.int) (ns.map PyData.int)
  | [] => .nil
  | n :: r => .cons (.int n) (dpAll_ints r)
theorem depth_ints : ∀ ns : List Int, PyData.depthAll (ns.map PyData.int) ≤ 1
  | [] => Nat.zero_le _
  | n :: r => Nat.max_le.mpr ⟨Nat.le_of_ble_eq_true rfl, depth_ints r⟩
theorem alike_ints (ns : List Int) : PySem.W.AlikeAll (ns.map PyData.int) := by
  refine ⟨fun x hx y hy => ?_, fun x hx => ?_⟩
  · obtain ⟨i, _, rfl⟩ := List.mem_map.mp hx
    obtain ⟨j, _, rfl⟩ := List.mem_map.mp hy
    rfl
  · obtain ⟨i, _, rfl⟩ := List.mem_map.mp hx
    exact fun z => nomatch z
theorem foldl_max_spec : ∀ (r : List Int) (n : Int), (r.foldl max n = n ∨ r.foldl max n ∈ r) ∧ n ≤ r.foldl max n ∧ ∀ y ∈ r, y ≤ r.foldl max n
  | [], n => ⟨.inl rfl, Int.le_refl _, fun y h => nomatch h⟩
  | k :: r, n => by
    obtain ⟨h1, h2, h3⟩ := foldl_max_spec r (max n k)
    show (r.foldl max (max n k) = n ∨ r.foldl max (max n k) ∈ k :: r) ∧ n ≤ r.foldl max (max n k) ∧ ∀ y ∈ k :: r, y ≤ r.foldl max (max n k)
    refine ⟨?_, by omega, fun y hy => ?_⟩
    · rcases h1 with h1 | h1
      · rw [h1]
        by_cases z : n ≤ k
        · right
          rw [show max n k = k by omega]
          exact List.mem_cons_self
        · left
          omega
      · exact .inr (List.mem_cons_of_mem _ h1)
    · rcases List.mem_cons.mp hy with rfl | hy
      · omega
      · exact h3 y hy
def rMaxD (K : PySem.W.Frag) : List V → List V → Hp → VK → Prop := fun xs zs H Q => ∃ (a : Addr) (d : V) (ns : List Int), xs = [.ref a] ∧ zs = [d] ∧ SqL K H a (ns.map V.int) ∧ (ns = [] → Q d H) ∧ ∀ m, m ∈ ns → (∀ y, y ∈ ns → y ≤ m) → Q (.int m) H
theorem call_maxD (hc : X.calm = true) (hu : X.A.units + 64 < cLine) : CallRK X (.builtin "max") [Str.ofString "default"] (rMaxD X.K) := by
  intro pins s σ H xs zs us ws Q I r rz h
  obtain ⟨a, d, ns, rfl, rfl, hs, q0, q1⟩ := h
  obtain rfl := Vals.ref1 r
  obtain ⟨w1, rfl, rd⟩ := vals1 rz
  obtain ⟨its, rv, hl, hz⟩ := I.list hs
  obtain ⟨as, R⟩ := Dp.readsAll I (ns.map PyData.int) _ its (dpAll_ints ns) rv
  refine PySem.W.max_list_default (I.ok.hd hc) hl.isList (by simpa using R) (alike_ints ns) (by have := depth_ints ns; omega) (fun e h' tk hk => ?_) (fun y ys i v h' tk bs e hv hr hk => ?_)
  · have en : ns = [] := by cases ns with | nil => rfl | cons n r => cases e
    exact ⟨d, H, I.kept hk, rd, q0 en⟩
  · match ns, e with
    | n :: r, e =>
      injection e with e1 e2
      subst e1 e2
      rw [PySem.W.maxD_ints] at hr
      cases hr
      exact ⟨.int (r.foldl max n), H, I.kept hk, ⟨_, rfl⟩, q1 _ (by
        rcases (foldl_max_spec r n).1 with z | z
        · rw [z]
          exact List.mem_cons_self
        · exact List.mem_cons_of_mem _ z) fun y hy => by
          rcases List.mem_cons.mp hy with rfl | hy
          · exact (foldl_max_spec r y).2.1
          · exact (foldl_max_spec r n).2.2 y hy⟩
end
end Mx

namespace Mx
open PySem PySem.Spec PyProof.Rows L2 Mc
/-! repr of dicts of leaves; {(1,): v} -/
def isLf : V → Bool
  | .non => true
  | .bl _ => true
  | .int _ => true
  | .str _ => true
  | _ => false
def lfD : V → PyData
  | .bl b => .bool b
  | .int i => .int i
  | .str x => .str x
  | _ => .none
def kD : Key → PyData
  | .inl i => .int i
  | .inr x => .str x
theorem lf_reads {h : Heap} {v : V} {u : Value} (l : isLf v = true) (r : RelV v u) : Reads h u (lfD v) [] := by
  cases v with
  | non => cases (show u = Value.none from r); exact .none
  | bl b => cases (show u = Value.bool b from r); exact .bool b
  | int i => obtain ⟨t, q⟩ := (show ∃ t, u = Value.int i t from r); cases q; exact .int i t
  | str x => obtain ⟨t, q⟩ := (show ∃ t, u = Value.str x t from r); cases q; exact .str x t
  | _ => cases l
theorem lf_key (k : Key) : isLf (kV k) = true ∧ lfD (kV k) = kD k := by
  cases k <;> exact ⟨rfl, rfl⟩
theorem readsAll_get {h : Heap} : ∀ (us : List Value) (ds : List PyData), us.length = ds.length → (∀ (i : Nat) (u : Value) (d : PyData), us[i]? = some u → ds[i]? = some d → Reads h u d []) → ReadsAll h us ds []
  | [], [], _, _ => .nil
  | u :: us, d :: ds, e, g => ReadsAll.cons (as := []) (bs := []) (g 0 u d rfl rfl) (readsAll_get us ds (Nat.succ.inj e) fun i u' d' h1 h2 => g (i + 1) u' d' h1 h2)
  | [], _ :: _, e, _ => by cases e
  | _ :: _, [], e, _ => by cases e
def dD (kvs : List (Key × V)) : PyData := .dict (kvs.map fun p => (kD p.1, lfD p.2))
inductive ShowsX (P : Program) (w : World) (K : PySem.W.Frag) (H : Hp) : V → Str → Prop
  | old {v : V} {z : Str} (h : ShowsV K H v z) : ShowsX P w K H v z
  | dk {a : Addr} {kvs : List (Key × V)} (e : H a = some (.dK kvs)) (l : ∀ p ∈ kvs, isLf p.2 = true) (hs : (dD kvs).showable = true) (hp : (dD kvs).depth ≤ 40) (hz : (dD kvs).shown.length ≤ sizeLine) : ShowsX P w K H (.ref a) (dD kvs).shown
  | odd {a : Addr} {k v : V} (e : H a = some (oddD a k v)) (lk : isLf k = true) (l : isLf v = true) (hs : (PyData.dict [(lfD k, lfD v)]).showable = true) (hz : (PyData.dict [(lfD k, lfD v)]).shown.length ≤ sizeLine) : ShowsX P w K H (.ref a) (PyData.dict [(lfD k, lfD v)]).shown
  | dT {a : Addr} {ks : List Key} {v : V} (e : H a = some (.dT [(ks, v)])) (l : isLf v = true) (hs : (PyData.dict [(.tuple (ks.map kD), lfD v)]).showable = true) (hp : (PyData.dict [(.tuple (ks.map kD), lfD v)]).depth ≤ 40) (hz : (PyData.dict [(.tuple (ks.map kD), lfD v)]).shown.length ≤ sizeLine) : ShowsX P w K H (.ref a) (PyData.dict [(.tuple (ks.map kD), lfD v)]).shown
theorem ShowsX.ext {P : Program} {w : World} {K : PySem.W.Frag} {H H' : Hp} {v : V} {z : Str} (e : ∀ b o, H b = some o → H' b = some o) (h : ShowsX P w K H v z) : ShowsX P w K H' v z := by
  cases h with
  | old h => exact .old (h.ext e)
  | dk a l hs hp hz => exact .dk (e _ _ a) l hs hp hz
  | odd a lk l hs hz => exact .odd (e _ _ a) lk l hs hz
  | dT a l hs hp hz => exact .dT (e _ _ a) l hs hp hz
def rReprX (P : Program) (w : World) (K : PySem.W.Frag) : List V → Hp → VK → Prop := fun xs H Q => ∃ (v : V) (z : Str), xs = [v] ∧ ShowsX P w K H v z ∧ Q (.str z) H
theorem not_sys {a : Addr} (h : (a == sysModules) = false) : sysModules ∉ [a] := by
  intro m
  rw [List.mem_singleton] at m
  rw [m] at h
  simp at h
theorem vals_keys : ∀ (ks : List Key) (its : List Value), Vals (ks.map kV) its → ∀ h : Heap, ReadsAll h its (ks.map kD) []
  | [], _, .nil, _ => .nil
  | k :: ks, _, .cons r t, h => by
    have q := lf_reads (h := h) (lf_key k).1 r
    rw [(lf_key k).2] at q
    exact ReadsAll.cons (as := []) (bs := []) q (vals_keys ks _ t h)
theorem call_reprX {X : Cx} {P : Program} {w : World} {K : PySem.W.Frag} (hg : X.A.guards = some []) (hu : X.A.units + 64 < cLine) (hP : X.prog = P) (hw : X.w = w) (hK : X.K = K) : CallR X (.builtin "repr") (rReprX P w K) := by
  subst hP hw
  intro pins s σ H xs us Q I r h
  obtain ⟨v, z, rfl, hs, q⟩ := h
  cases hs with
  | old h => exact call_reprA hg hu hK pins s σ H [v] us Q I r ⟨v, z, rfl, h, q⟩
  | @dk a kvs e l hs hp hz =>
    obtain rfl := Vals.ref1 r
    obtain ⟨hn, ns, vs, kv, dd⟩ := dk_of I.hok e
    obtain ⟨es, ep, ⟨o, ho, hx, hdt⟩, hsz, at_⟩ := dd.raw
    have hl : kvs.length = vs.length := Paired.length kv
    have R : Reads s.heap (.ref a) (dD kvs) [a] := by
      refine Reads.dict (as := []) (bs := []) ho hx.1 hdt (readsAll_get _ _ (by simp; omega) fun i u d h1 h2 => ?_) (readsAll_get _ _ (by simp; omega) fun i u d h1 h2 => ?_)
      · rw [List.map_map, List.getElem?_map] at h2
        obtain ⟨⟨k, x⟩, hk, rfl⟩ := Option.map_eq_some_iff.mp h2
        rw [List.getElem?_map] at h1
        obtain ⟨en, hen, rfl⟩ := Option.map_eq_some_iff.mp h1
        obtain ⟨y, hy, ry⟩ := kv_get kv hk
        rw [Array.getElem?_toList] at hen
        obtain ⟨hi, rfl⟩ := Array.getElem?_eq_some_iff.mp hen
        obtain ⟨a1, a2⟩ := at_ i hi k y hy
        have q := lf_reads (h := s.heap) (lf_key k).1 (relV_key (show keyIs k es[i].key = true from a1))
        rw [(lf_key k).2] at q
        exact q
      · rw [List.map_map, List.getElem?_map] at h2
        obtain ⟨⟨k, x⟩, hk, rfl⟩ := Option.map_eq_some_iff.mp h2
        rw [List.getElem?_map] at h1
        obtain ⟨en, hen, rfl⟩ := Option.map_eq_some_iff.mp h1
        obtain ⟨y, hy, ry⟩ := kv_get kv hk
        rw [Array.getElem?_toList] at hen
        obtain ⟨hi, rfl⟩ := Array.getElem?_eq_some_iff.mp hen
        obtain ⟨a1, a2⟩ := at_ i hi k y hy
        rw [a2]
        exact lf_reads (l _ (List.mem_of_getElem? hk)) ry
    exact repr_of_reads' R hs (fun _ => not_sys ns) hg (by omega) (fun b o e => e) (fun h' u tk hk => ⟨.str _, H, I.kept hk, ⟨u, rfl⟩, q⟩) hz
  | @odd a k v e lk l hs hz =>
    obtain rfl := Vals.ref1 r
    obtain ⟨ns, o, en, n, ho, hx, hdt, rk, rv⟩ := odd_at (I.hok a _ e)
    have R : Reads s.heap (.ref a) (PyData.dict [(lfD k, lfD v)]) [a] :=
      Reads.dict (as := []) (bs := []) ho hx.1 hdt (ReadsAll.cons (as := []) (bs := []) (lf_reads lk rk) .nil) (ReadsAll.cons (as := []) (bs := []) (lf_reads l rv) .nil)
    have hd : ∀ v : V, (lfD v).depth = 0 := fun v => by cases v <;> rfl
    have hp : (PyData.dict [(lfD k, lfD v)]).depth = 1 := by
      show max (max (lfD k).depth (lfD v).depth) 0 + 1 = 1
      rw [hd, hd]
      rfl
    exact repr_of_reads' R hs (fun _ => not_sys ns) hg (by omega) (fun b o e => e) (fun h' u tk hk => ⟨.str _, H, I.kept hk, ⟨u, rfl⟩, q⟩) hz
  | @dT a ks v e l hs hp hz =>
    obtain rfl := Vals.ref1 r
    obtain ⟨hn, ns, xs, pr, o, es, ep, ho, hx, hdt, he, _⟩ := (show ObjOk X.prog X.w H s.heap a (.dT [(ks, v)]) from I.hok a _ e)
    match xs, pr, he with
    | [(k', t, y)], .cons ⟨e1, e2, e3⟩ .nil, he =>
      cases e1
      obtain ⟨_, its, rt, o2, h1, h2, n, h3⟩ := (show ObjOk X.prog X.w H s.heap t (.tup (ks.map kV)) from I.hok t _ e2)
      have R : Reads s.heap (.ref a) (PyData.dict [(.tuple (ks.map kD), lfD v)]) [a] := by
        refine Reads.dict (as := []) (bs := []) ho hx.1 hdt ?_ ?_
        · rw [he]
          exact ReadsAll.cons (as := []) (bs := []) (Reads.tuple h1 h2 h3 (vals_keys ks _ (by simpa using rt) _)) .nil
        · rw [he]
          exact ReadsAll.cons (as := []) (bs := []) (lf_reads l e3) .nil
      exact repr_of_reads' R hs (fun _ => not_sys ns) hg (by omega) (fun b o e => e) (fun h' u tk hk => ⟨.str _, H, I.kept hk, ⟨u, rfl⟩, q⟩) hz
section
variable {X : Cx}
def tOddT (tk tv : TE) : TE := fun σ H Q => ∀ p, H p = none → tk σ (upd H p (.dT [])) fun x H1 => tv σ H1 fun y H2 => ∃ (t : Addr) (ks : List Key), x = .ref t ∧ H2 t = some (.tup (ks.map kV)) ∧ H2 p = some (.dT []) ∧ Q (.ref p) (upd H2 p (.dT [(ks, y)]))
theorem dict_pairsR {prog : Program} {w : World} {K : Type} [DecidableEq K] {knd : HeapKind prog w K} {A : Around} {E : Value → Shared → Prop} {s : Shared} {env : Env} {keys : List (Option Expr)} {values : List Expr} {pos : Pos} {pairs : List (Sem Value × Sem Value)} {Q : Value → Shared → Prop} (hu : knd.room A)
    (hshape : (evalEachOpt keys env).zip ((evalEach values env).map fun v => do let x ← v; standAt pos; pure x) = pairs.map fun p => (some p.1, p.2)) (h0 : pairs ≠ []) (hlen : pairs.length ≤ 15)
    (h : wpAny (model prog w) A (evalPairs pairs) (fun vs s₁ => ∃ ps, PySem.CarriesH knd s₁.heap vs ps ∧ s₁.heap.DictOfH knd s.heap.objs.size [] ∧
      ∀ h' tk, h'.DictOfH knd s.heap.objs.size (storedAllH [] ps) → Heap.SameBut s.heap.objs.size s₁.heap h' → Q (.ref s.heap.objs.size) { s₁ with heap := h', toks := tk }) E
      { s with heap := s.heap.push { cls := .type "dict", data := .dict #[] } }) :
    wpAny (model prog w) A (eval (.Dict keys values pos) env) Q E s := by
  rw [arm_eval_Dict, hshape, dictDisplay_pairs pairs h0 (by omega)]
  exact wpAny_bind (wpAny_standAt (wpAny_bind (PySem.wpAny_subDictH (knd := knd) (Q := fun d s' => wpAny (model prog w) A (pure (Value.ref d)) Q E s') hu hlen
    (wpAny_mono h (fun vs s₁ h₁ => by obtain ⟨ps, hc, hm, hq⟩ := h₁; exact ⟨ps, hc, hm, fun h' tk a b => wpAny_pure (hq h' tk a b)⟩) fun _ _ e => e))))
theorem pe_oddT {k v : Expr} {tk tv : TE} {pos : Pos} (hu : X.A.units + 64 < cLine) (hk : PE X k tk) (hv : PE X v tv) : PE X (.Dict [some k] [v] pos) (tOddT tk tv) := by
  refine ⟨fun pins s σ H Q I q => ?_⟩
  have hn := I.hok.fresh (Nat.le_refl s.heap.objs.size)
  have I1 := I.laid (a := s.heap.objs.size) (o := .dT []) (h' := s.heap.push { cls := .type "dict", data := .dict #[] }) (t' := s.toks) (fun _ _ q => Heap.get?_push_of_some _ q) (Nat.le_refl _)
    ⟨Nat.zero_le _, beq_eq_false_iff_ne.mpr (fun z => absurd I.big (by rw [z]; exact Nat.lt_irrefl _)), [], .nil, _, #[], 0, Heap.get?_push_size _ rfl, ⟨rfl, rfl, rfl⟩, rfl, rfl, .nil⟩
  refine dict_pairsR (knd := tupleKind (mixKind X.prog X.w)) (pairs := [(eval k X.env, do let x ← eval v X.env; standAt pos; pure x)]) (by show X.A.units < cLine; omega) rfl (by simp) (by simp) ?_
  refine evalPairs_cons (thn (hk.run pins _ σ _ _ I1 (q _ hn)) fun u1 s1 ⟨x, H1, J1, r1, q1⟩ => wpAny_bind (thn (hv.run pins s1 σ H1 _ J1 q1) fun u2 s2 ⟨y, H2, J2, r2, t, ks, ex, et, e, q2⟩ => wpAny_bind (wpAny_standAt (wpAny_pure (evalPairs_nil ?_)))))
  subst ex
  obtain rfl : u1 = Value.ref t := r1
  obtain ⟨hn2, ns, xs, pr, o, es, ep, ho, hx, hdt, he, nd⟩ := (show ObjOk X.prog X.w H2 s2.heap s.heap.objs.size (.dT []) from J2.hok _ _ e)
  cases pr
  refine ⟨[(ks, t, u2)], ⟨rfl, rfl, key_of J2.hok et, True.intro⟩, ⟨o, es, ep, ho, hx, hdt, he, fun x hx => absurd hx (List.not_mem_nil), nd⟩, fun h' tk dd hs => ?_⟩
  obtain ⟨o', es', ep', ho', hx', hdt', he', his', nd'⟩ := dd
  have tp : t ≠ s.heap.objs.size := fun z => by rw [z, e] at et; cases et
  refine ⟨.ref s.heap.objs.size, _, d_write J2 (by rw [e]; exact True.intro) hs ⟨o', ho'⟩ (ob := .dT [(ks, y)]) ⟨by show 1 ≤ sizeLine; decide, ns, [(ks, t, u2)], .cons ⟨rfl, by rw [upd_ne tp]; exact et, r2⟩ .nil, o', es', ep', ho', hx', hdt', he', nd'⟩, rfl, q2⟩
end
end Mx

namespace K2
open PySem PySem.Spec PyProof.Rows L2 Mc Mx
def top (i : Nat) : Stmt := PySem.Challenge.pw_mostcalls_k16_rows.main.body.getD i (.Pass ⟨0, 0, 0, 0⟩)
abbrev s_is_integer : Stmt := top 1
abbrev N_is_integer : List Str := ["value"]
theorem sc_is_integer : FnScope N_is_integer ["value"] (defScope s_is_integer) := ⟨rfl, rfl, rfl, by decide +kernel, rfl, by decide +kernel, by decide +kernel⟩
abbrev s_is_count : Stmt := top 2
abbrev N_is_count : List Str := ["value"]
theorem sc_is_count : FnScope N_is_count ["value"] (defScope s_is_count) := ⟨rfl, rfl, rfl, by decide +kernel, rfl, by decide +kernel, by decide +kernel⟩
abbrev s_InvalidRowsinit : Stmt := inClass (top 4) 0
abbrev N_InvalidRowsinit : List Str := ["self", "value", "__class__"]
theorem sc_InvalidRowsinit : NdefX.NScope N_InvalidRowsinit ["self", "value"] ["__class__"] (defScope s_InvalidRowsinit) := NdefX.nscope_by (by decide +kernel)
abbrev s_Rowsinit : Stmt := inClass (top 6) 0
abbrev N_Rowsinit : List Str := ["self", "answers", "fails", "stops", "row"]
theorem sc_Rowsinit : FnScope N_Rowsinit ["self", "answers", "fails", "stops"] (defScope s_Rowsinit) := ⟨rfl, rfl, rfl, by decide +kernel, rfl, by decide +kernel, by decide +kernel⟩
abbrev s_Rows_answers : Stmt := inClass (top 6) 1
abbrev N_Rows_answers : List Str := ["self"]
theorem sc_Rows_answers : FnScope N_Rows_answers ["self"] (defScope s_Rows_answers) := ⟨rfl, rfl, rfl, by decide +kernel, rfl, by decide +kernel, by decide +kernel⟩
abbrev s_Rows_fails : Stmt := inClass (top 6) 2
abbrev N_Rows_fails : List Str := ["self"]
theorem sc_Rows_fails : FnScope N_Rows_fails ["self"] (defScope s_Rows_fails) := ⟨rfl, rfl, rfl, by decide +kernel, rfl, by decide +kernel, by decide +kernel⟩
abbrev s_Rows_stops : Stmt := inClass (top 6) 3
abbrev N_Rows_stops : List Str := ["self"]
theorem sc_Rows_stops : FnScope N_Rows_stops ["self"] (defScope s_Rows_stops) := ⟨rfl, rfl, rfl, by decide +kernel, rfl, by decide +kernel, by decide +kernel⟩
abbrev s_Rows_greatest : Stmt := inClass (top 6) 4
abbrev N_Rows_greatest : List Str := ["self"]
theorem sc_Rows_greatest : FnScope N_Rows_greatest ["self"] (defScope s_Rows_greatest) := ⟨rfl, rfl, rfl, by decide +kernel, rfl, by decide +kernel, by decide +kernel⟩
abbrev s_Rowseq : Stmt := inClass (top 6) 5
abbrev N_Rowseq : List Str := ["self", "other"]
theorem sc_Rowseq : FnScope N_Rowseq ["self", "other"] (defScope s_Rowseq) := ⟨rfl, rfl, rfl, by decide +kernel, rfl, by decide +kernel, by decide +kernel⟩
abbrev s_Rows_rows : Stmt := inClass (top 6) 6
abbrev N_Rows_rows : List Str := ["self"]
theorem sc_Rows_rows : FnScope N_Rows_rows ["self"] (defScope s_Rows_rows) := ⟨rfl, rfl, rfl, by decide +kernel, rfl, by decide +kernel, by decide +kernel⟩
abbrev s_is_row : Stmt := top 7
abbrev N_is_row : List Str := ["value", "tick"]
theorem sc_is_row : FnScope N_is_row ["value"] (defScope s_is_row) := ⟨rfl, rfl, rfl, by decide +kernel, rfl, by decide +kernel, by decide +kernel⟩
abbrev s_law_pool : Stmt := top 9
abbrev N_law_pool : List Str := ["_law_script", "_law_k", "_law_cell", "_law_seed"]
theorem sc_law_pool : FnScope N_law_pool ["_law_script", "_law_k"] (defScope s_law_pool) := ⟨rfl, rfl, rfl, by decide +kernel, rfl, by decide +kernel, by decide +kernel⟩
abbrev s_law_draw : Stmt := top 10
abbrev N_law_draw : List Str := ["_law_pool_here", "_law_many", "_law_digit"]
theorem sc_law_draw : FnScope N_law_draw ["_law_pool_here", "_law_many"] (defScope s_law_draw) := ⟨rfl, rfl, rfl, by decide +kernel, rfl, by decide +kernel, by decide +kernel⟩
abbrev s_law_told : Stmt := top 11
abbrev N_law_told : List Str := ["_law_some", "e"]
theorem sc_law_told : FnScope N_law_told ["_law_some"] (defScope s_law_told) := ⟨rfl, rfl, rfl, by decide +kernel, rfl, by decide +kernel, by decide +kernel⟩
abbrev s_law_drawn : Stmt := top 12
abbrev N_law_drawn : List Str := ["_law_pool_here", "_law_turn"]
theorem sc_law_drawn : FnScope N_law_drawn ["_law_pool_here"] (defScope s_law_drawn) := ⟨rfl, rfl, rfl, by decide +kernel, rfl, by decide +kernel, by decide +kernel⟩
abbrev s_law : Stmt := top 13
abbrev N_law : List Str := ["_law_script", "_law_k", "_law_pool_here", "_law_some", "_law_others", "_law_turn", "_law_handed", "_law_one", "_law_rows", "_law_known", "_law_at", "_law_bent", "_law_bad", "_law_thing"]
theorem sc_law : FnScope N_law ["_law_script"] (defScope s_law) := ⟨rfl, rfl, rfl, by decide +kernel, rfl, by decide +kernel, by decide +kernel⟩

/-- what the top has left -/
structure Txt (K : PySem.W.Frag) (mg : Str → Option Value) : Prop where
  n_isinstance : mg "isinstance" = none
  n_int : mg "int" = none
  n_bool : mg "bool" = none
  n_len : mg "len" = none
  n_all : mg "all" = none
  n_range : mg "range" = none
  n_repr : mg "repr" = none
  n_max : mg "max" = none
  n_min : mg "min" = none
  n_list : mg "list" = none
  n_dict : mg "dict" = none
section
variable {P : Program} {w : World} {K : PySem.W.Frag} {mg : Str → Option Value} {base : Heap}
local macro_rules | `(tactic| walk_at "rd1") => `(tactic| first
  | with_reducible refine g_seq ?_
  | with_reducible refine g_asg ?_
  | with_reducible refine g_name ?_
  | with_reducible refine g_c ?_
  | with_reducible refine g_op ?_
  | with_reducible refine g_ifS ?_
  | with_reducible refine g_if ?_
  | with_reducible refine g_test ?_
  | with_reducible refine g_B ?_
  | with_reducible refine g_bl ?_
  | with_reducible refine g_blV ?_
  | with_reducible refine g_not ?_
  | with_reducible refine g_and ?_
  | with_reducible refine g_or ?_
  | with_reducible refine g_notV ?_
  | with_reducible refine g_andV ?_
  | with_reducible refine g_orV ?_
  | with_reducible refine g_ret ?_
  | with_reducible refine g_drop ?_
  | with_reducible refine g_next ?_
  | with_reducible refine g_retN ?_
  | with_reducible refine g_call ?_
  | with_reducible refine g_cb ?_
  | with_reducible refine g_cons ?_
  | with_reducible refine g_nil ?_
  | with_reducible refine g_tup ?_
  | with_reducible refine g_lst ?_
  | with_reducible refine g_prop ?_
  | with_reducible refine g_fld ?_
  | with_reducible refine g_meth ?_
  | with_reducible refine g_chain ?_
  | with_reducible refine g_yes ?_
  | with_reducible refine g_make ?_
  | with_reducible refine g_makeK ?_
  | with_reducible refine g_gsub ?_
  | with_reducible refine g_sfld ?_
  | with_reducible refine g_un ?_
  | with_reducible refine g_bm ?_
  | with_reducible refine g_iteT ?_
  | with_reducible refine g_iteF ?_
  | with_reducible refine g_I0 ?_
  | with_reducible refine g_add ?_
  | with_reducible refine g_sub ?_
  | ((with_reducible refine' g_var ?hv ?_); (case hv => rfl))
  | ((with_reducible refine g_eq ?hv ?_); (case hv => rfl))
  | ((with_reducible refine g_ne ?hv ?_); (case hv => rfl)))
local macro_rules | `(tactic| walk_at "rd") => `(tactic| repeat (walk_at "rd1"))

local macro_rules | `(tactic| walk_at "ty") => `(tactic| first | exact .non | exact .bl _ | exact .int _ | exact .str _ | exact .lst (by assumption) | exact .tup (by assumption) | exact .dK (by assumption) | exact .kTup (by assumption) (by assumption))
local macro_rules | `(tactic| walk_at "isiF") => `(tactic| refine g_isi (by walk_at "ty") (b := false) (by decide +kernel) ?_)
local macro_rules | `(tactic| walk_at "isiT") => `(tactic| refine g_isi (by walk_at "ty") (b := true) (by decide +kernel) ?_)

theorem ok_is_integer (T : Txt K mg) (D : Def K mg "is_integer" s_is_integer ["value"]) : Cal P w K mg base 1 "is_integer" (spIsInt K) := by
  refine cal_of D sc_is_integer (fun vs H Q E h => ?_) (fun f cdv A outer s H vs Q E hr h => ?_)
  · obtain ⟨v, n, rfl, _⟩ := h
    rfl
  · obtain ⟨v, n, rfl, ty, q⟩ := h
    refine ⟨_, (pss_one (ps_ret (pe_and (pe_callB call_isi (by rfl) T.n_isinstance (by decide +kernel) (pa_cons (pv 0) (pa_cons (pe_ty "int" (by rfl) T.n_int (by decide +kernel)) pa_nil))) (pe_one (pe_not (pe_callB call_isi (by rfl) T.n_isinstance (by decide +kernel) (pa_cons (pv 0) (pa_cons (pe_ty "bool" (by rfl) T.n_bool (by decide +kernel)) pa_nil)))))))), ?_⟩
    walk_at "rd"
    refine g_isi ty (kb_int ty.mem) ?_
    walk_at "rd"
    cases ty with
    | int i => simp; walk_at "rd"; refine g_isi (.int i) (kb_bool (by decide)) ?_; walk_at "rd"; exact q
    | bl i => simp; walk_at "rd"; refine g_isi (.bl i) (kb_bool (by decide)) ?_; walk_at "rd"; exact q
    | non => simp; exact q
    | str z => simp; exact q
    | lst z => simp; exact q
    | tup z => simp; exact q
    | dK z => simp; exact q
    | kTup z c => simp; exact q
def cntV : V → Bool
  | .int i => decide (0 ≤ i)
  | _ => false
def spCnt (K : PySem.W.Frag) : Sp := fun vs H Q _ => ∃ v n, vs = [v] ∧ Mc.TyB K H v n ∧ Q (.bl (cntV v)) H
theorem ok_is_count (T : Txt K mg) (D : Def K mg "is_count" s_is_count ["value"]) (c_is_integer : Cal P w K mg base 1 "is_integer" (spIsInt K)) : Cal P w K mg base 2 "is_count" (spCnt K) := by
  refine cal_of D sc_is_count (fun vs H Q E h => ?_) (fun f cdv A outer s H vs Q E hr h => ?_)
  · obtain ⟨v, n, rfl, _⟩ := h
    rfl
  · obtain ⟨v, n, rfl, ty, q⟩ := h
    refine ⟨_, (pss_one (ps_ret (pe_and (pe_f c_is_integer hr (by decide) (by rfl) (pa_cons (pv 0) pa_nil)) (pe_one (pe_cmpR op_ge (pv 0) pe_int (nomark _)))))), ?_⟩
    walk_at "rd"
    refine ⟨v, n, rfl, ty, ?_⟩
    walk_at "rd"
    cases ty with
    | int i =>
      show (if true = true then _ else _)
      walk_at "rd"
      exact q
    | bl i => exact q
    | non => exact q
    | str z => exact q
    | lst z => exact q
    | tup z => exact q
    | dK z => exact q
    | kTup z c => exact q
theorem same_new {H : Hp} {p : Addr} {o : HO} (h : H p = none) : Same H (upd H p o) := fun b u e => by rw [upd_ne (ne_of_none e h)]; exact e
theorem sz_le {n : Nat} (h : n ≤ 1000) : n ≤ sizeLine := Nat.le_trans h (by decide)
theorem take_map {α : Type} {xs : List α} {i : Nat} {x : α} (f : α → V) (h : xs[i]? = some x) : (xs.take i).map f ++ [f x] = (xs.take (i + 1)).map f := by
  rw [List.take_add_one, h, List.map_append]
  rfl
theorem all_id {α : Type} (xs : List α) (f : α → Bool) : ((xs.map f).all id) = xs.all f := by rw [List.all_map]; rfl
theorem TyB.ext {H H' : Hp} {v : V} {n : String} (e : Same H H') (h : Mc.TyB K H v n) : Mc.TyB K H' v n := by
  cases h with
  | non => exact .non
  | bl b => exact .bl b
  | int i => exact .int i
  | str z => exact .str z
  | lst z => exact .lst (e _ _ z)
  | tup z => exact .tup (e _ _ z)
  | dK z => exact .dK (e _ _ z)
  | kTup z c => exact .kTup z c
theorem sqT_ext {H H' : Hp} {a : Addr} {xs : List V} (e : Same H H') (h : SqT K H a xs) : SqT K H' a xs := by
  rcases h with (h | ⟨o, h⟩) | h
  · exact .inl (.inl (e _ _ h))
  · exact .inl (.inr ⟨o, e _ _ h⟩)
  · exact .inr h
theorem lf_ty {H : Hp} {v : V} (l : isLf v = true) : ∃ n, Mc.TyB K H v n := by
  cases v with
  | non => exact ⟨_, .non⟩
  | bl b => exact ⟨_, .bl b⟩
  | int i => exact ⟨_, .int i⟩
  | str x => exact ⟨_, .str x⟩
  | _ => cases l
def pOk (p : Key × V) : Bool := cntV (kV p.1) && isI p.2
def rowOk (kvs : List (Key × V)) : Bool := kvs.all pOk
inductive RowV (K : PySem.W.Frag) (H : Hp) : V → Bool → Prop
  | no {v : V} {n : String} (t : Mc.TyB K H v n) (hn : n ≠ "dict") : RowV K H v false
  | dk {a : Addr} {kvs : List (Key × V)} (e : H a = some (.dK kvs)) (l : ∀ p ∈ kvs, isLf p.2 = true) (hl : kvs.length ≤ 1000) (nd : (kvs.map (·.1)).Nodup) : RowV K H (.ref a) (rowOk kvs)
  | odd {a : Addr} {k v : V} (e : H a = some (oddD a k v)) (lk : isLf k = true) (nc : cntV k = false) : RowV K H (.ref a) false
  | dT {a : Addr} {ks : List Key} {v : V} (e : H a = some (.dT [(ks, v)])) : RowV K H (.ref a) false
theorem RowV.ext {H H' : Hp} {v : V} {b : Bool} (e : Same H H') (h : RowV K H v b) : RowV K H' v b := by
  cases h with
  | no t hn => exact .no (TyB.ext e t) hn
  | dk z l hl nd => exact .dk (e _ _ z) l hl nd
  | odd z lk nc => exact .odd (e _ _ z) lk nc
  | dT z => exact .dT (e _ _ z)
end
end K2

namespace K2
open PySem PySem.Spec PyProof.Rows L2 Mc Mx
section
variable {P : Program} {w : World} {K : PySem.W.Frag} {mg : Str → Option Value} {base : Heap}
local macro_rules | `(tactic| walk_at "rd1") => `(tactic| first
  | with_reducible refine g_seq ?_
  | with_reducible refine g_asg ?_
  | with_reducible refine g_name ?_
  | with_reducible refine g_c ?_
  | with_reducible refine g_op ?_
  | with_reducible refine g_ifS ?_
  | with_reducible refine g_if ?_
  | with_reducible refine g_test ?_
  | with_reducible refine g_B ?_
  | with_reducible refine g_bl ?_
  | with_reducible refine g_blV ?_
  | with_reducible refine g_not ?_
  | with_reducible refine g_and ?_
  | with_reducible refine g_or ?_
  | with_reducible refine g_notV ?_
  | with_reducible refine g_andV ?_
  | with_reducible refine g_orV ?_
  | with_reducible refine g_ret ?_
  | with_reducible refine g_drop ?_
  | with_reducible refine g_next ?_
  | with_reducible refine g_retN ?_
  | with_reducible refine g_call ?_
  | with_reducible refine g_cb ?_
  | with_reducible refine g_cons ?_
  | with_reducible refine g_nil ?_
  | with_reducible refine g_tup ?_
  | with_reducible refine g_lst ?_
  | with_reducible refine g_prop ?_
  | with_reducible refine g_fld ?_
  | with_reducible refine g_meth ?_
  | with_reducible refine g_chain ?_
  | with_reducible refine g_yes ?_
  | with_reducible refine g_make ?_
  | with_reducible refine g_makeK ?_
  | with_reducible refine g_gsub ?_
  | with_reducible refine g_sfld ?_
  | with_reducible refine g_un ?_
  | with_reducible refine g_bm ?_
  | with_reducible refine g_iteT ?_
  | with_reducible refine g_iteF ?_
  | with_reducible refine g_I0 ?_
  | with_reducible refine g_add ?_
  | with_reducible refine g_sub ?_
  | ((with_reducible refine' g_var ?hv ?_); (case hv => rfl))
  | ((with_reducible refine g_eq ?hv ?_); (case hv => rfl))
  | ((with_reducible refine g_ne ?hv ?_); (case hv => rfl)))
local macro_rules | `(tactic| walk_at "rd") => `(tactic| repeat (walk_at "rd1"))

local macro_rules | `(tactic| walk_at "ty") => `(tactic| first | exact .non | exact .bl _ | exact .int _ | exact .str _ | exact .lst (by assumption) | exact .tup (by assumption) | exact .dK (by assumption) | exact .kTup (by assumption) (by assumption))
local macro_rules | `(tactic| walk_at "isiF") => `(tactic| refine g_isi (by walk_at "ty") (b := false) (by decide +kernel) ?_)
local macro_rules | `(tactic| walk_at "isiT") => `(tactic| refine g_isi (by walk_at "ty") (b := true) (by decide +kernel) ?_)

theorem kb_dict {n : String} (h : n ∈ ["NoneType", "bool", "int", "str", "list", "tuple", "dict"]) : kitB n "dict" = some (n == "dict") := by
  simp only [List.mem_cons, List.not_mem_nil, or_false] at h
  rcases h with rfl | rfl | rfl | rfl | rfl | rfl | rfl <;> decide +kernel
def spRow (K : PySem.W.Frag) : Sp := fun vs H Q _ => ∃ v b, vs = [v] ∧ RowV K H v b ∧ ∀ H', Same H H' → Q (.bl b) H'
theorem g_lockE {σ : L2.St} {H : Hp} {Q : VK} {t : TE} {d : Addr} {u : HO} (h : H d = some u) (m : Mut (some u)) (q : ∀ od, t σ (upd H d (.frz od u)) fun v H' => H' d = some (.frz od u) ∧ Q v (upd H' d u)) : tLockE t σ H Q := ⟨d, u, h, m, q⟩
theorem g_dget {σ : L2.St} {H : Hp} {Q : VK} {td ty : TE} (q : td σ H fun x H1 => ty σ H1 fun y H2 => ∃ a v, x = .ref a ∧ DGet H2 a y (some v) ∧ Q v H2) : tDGet td ty σ H Q := q
theorem same_lock {H : Hp} {d L : Addr} {u f l : HO} (h : H d = some u) (hL : L ≠ d) (hn : (upd H d f) L = none) : Same H (upd (upd (upd H d f) L l) d u) := fun b o e => by
  by_cases hb : b = d
  · subst hb
    rw [upd_same, ← h, e]
  · rw [upd_ne hb]
    have hbL : b ≠ L := fun z => by
      subst z
      rw [upd_ne hb, e] at hn
      cases hn
    rw [upd_ne hbL, upd_ne hb]
    exact e
theorem valV_in {ks : List (Key × V)} (nd : (ks.map (·.1)).Nodup) {i : Nat} {k : Key} {v : V} (h : ks[i]? = some (k, v)) : valV ks k = some v := valV_mem (p := (k, v)) nd (List.mem_of_getElem? h)
theorem ok_is_row (T : Txt K mg) (D : Def K mg "_is_row" s_is_row ["value"]) (c_is_integer : Cal P w K mg base 1 "is_integer" (spIsInt K)) (c_is_count : Cal P w K mg base 2 "is_count" (spCnt K)) : Cal P w K mg base 3 "_is_row" (spRow K) := by
  refine cal_of D sc_is_row (fun vs H Q E h => ?_) (fun f cdv A outer s H vs Q E hr h => ?_)
  · obtain ⟨v, b, rfl, _⟩ := h
    rfl
  · obtain ⟨v, b, rfl, row, q⟩ := h
    refine ⟨_, (pss_cons (ps_if (pt_not (pt_val (pe_callB call_isiO (by rfl) T.n_isinstance (by decide +kernel) (pa_cons (pv 0) (pa_cons (pe_ty "dict" (by rfl) T.n_dict (by decide +kernel)) pa_nil))))) (pss_one (ps_ret pe_bl)) pss_nil)
      (pss_one (ps_ret (pe_callB (cr_all rfl) (by rfl) T.n_all (by decide +kernel) (pa_cons (pe_lock (pe_lc (own := [("tick", 1)]) (g := gName 1) (by rfl) sc_is_row.nd (pi_keysO (pv 0)) (blkOk_by (own := [("tick", 1)]) (N := N_is_row) (sc := defScope s_is_row) (by decide +kernel)) (fun _ _ _ _ _ => pg_name (i := 1) sc_is_row.nd rfl (Or.inl rfl)) (fun _ _ _ _ _ => pts_nil) (fun _ _ _ _ _ => (pe_and (pe_f c_is_count hr (by decide) (by rfl) (pa_cons (pv 1) pa_nil)) (pe_one (pe_f c_is_integer hr (by decide) (by rfl) (pa_cons (pe_dget (Nat.lt_of_le_of_lt (Nat.add_le_add_left (by decide : 1 ≤ 64) _) hr.units) (pv 0) (pv 1) (fun _ _ => rfl)) pa_nil))))))) pa_nil))))), ?_⟩
    walk_at "rd"
    cases row with
    | no ty hn =>
      refine .inl (g_isi ty (kb_dict ty.mem) ?_)
      rename_i n
      have e : (n == "dict") = false := by simpa using hn
      rw [e]
      walk_at "rd"
      exact q _ (Same.refl H)
    | @dk a kvs e l hl nd =>
      refine .inl (g_isi (.dK e) (b := true) (by decide +kernel) ?_)
      walk_at "rd"
      show (if false = true then _ else _)
      walk_at "rd"
      refine g_lockE e True.intro fun od => ?_
      refine ⟨.ref a, rfl, a, od, rfl, .inl ⟨kvs, upd_same, fun L hL => ?_⟩⟩
      have hLa : L ≠ a := fun z => by rw [z, upd_same] at hL; cases hL
      refine lc_it walk_keys (fun i H' => H' = upd (upd H a (.frz od (.dK kvs))) L (.lst ((kvs.take i).map fun p => .bl (pOk p)))) rfl (fun i H' _ e => by subst e; rw [upd_ne hLa.symm]; exact upd_same) ?_ ?_
      · rintro i x H0 H1 hi rfl ⟨rfl, k, v, hk, rfl⟩
        walk_at "rd"
        refine ⟨rfl, ?_⟩
        walk_at "rd"
        obtain ⟨n, tk⟩ := lf_ty (K := K) (H := H) (lf_key k).1
        have hm := List.mem_of_getElem? hk
        obtain ⟨n2, tv⟩ := lf_ty (K := K) (H := upd (upd H a (.frz od (.dK kvs))) L (.lst ((kvs.take i).map fun p => .bl (pOk p)))) (l _ hm)
        obtain ⟨n, tk⟩ := lf_ty (K := K) (H := upd (upd H a (.frz od (.dK kvs))) L (.lst ((kvs.take i).map fun p => .bl (pOk p)))) (lf_key k).1
        have fin : ∀ b, b = pOk (k, v) → ∃ acc, (upd (upd H a (.frz od (.dK kvs))) L (.lst ((kvs.take i).map fun p => .bl (pOk p)))) L = some (.lst acc) ∧ acc.length < sizeLine ∧
            upd (upd (upd H a (.frz od (.dK kvs))) L (.lst ((kvs.take i).map fun p => .bl (pOk p)))) L (.lst (acc ++ [.bl b])) = upd (upd H a (.frz od (.dK kvs))) L (.lst ((kvs.take (i + 1)).map fun p => .bl (pOk p))) := by
          rintro b rfl
          refine ⟨_, upd_same, ?_, ?_⟩
          · rw [List.length_map, List.length_take]
            exact small1000 (Nat.le_trans (Nat.min_le_right _ _) hl)
          · rw [upd_upd]
            exact congrArg (fun l => upd _ L (.lst l)) (take_map (fun p => V.bl (pOk p)) hk)
        refine ⟨kV k, n, rfl, tk, ?_⟩
        walk_at "rd"
        refine g_ite (fun e1 => ?_) (fun e1 => ?_)
        · walk_at "rd"
          refine g_dget ?_
          walk_at "rd"
          refine ⟨a, v, rfl, .inl ⟨kvs, k, .inr ⟨od, by rw [upd_ne hLa.symm]; exact upd_same⟩, rfl, (valV_in nd hk).symm⟩, ?_⟩
          walk_at "rd"
          refine ⟨v, n2, rfl, tv, ?_⟩
          exact fin _ (by show _ = (cntV (kV k) && isI v); rw [e1]; rfl)
        · exact fin _ (by show _ = (cntV (kV k) && isI v); rw [e1]; rfl)
      · rintro H1 rfl
        refine ⟨by rw [upd_ne hLa.symm]; exact upd_same, ?_⟩
        refine ⟨L, kvs.map pOk, rfl, SqL.of ?_, ?_⟩
        · rw [upd_ne hLa, upd_same, List.take_of_length_le (Nat.le_refl _), List.map_map]
          rfl
        · rw [all_id]
          exact q _ (same_lock e hLa hL)
    | @odd a k v e lk nc =>
      refine .inr ⟨a, k, v, "dict", true, rfl, e, by decide +kernel, ?_⟩
      walk_at "rd"
      show (if false = true then _ else _)
      walk_at "rd"
      refine g_lockE e True.intro fun od => ?_
      refine ⟨.ref a, rfl, a, od, rfl, .inr (.inl ⟨k, v, upd_same, fun L hL => ?_⟩)⟩
      have hLa : L ≠ a := fun z => by rw [z, upd_same] at hL; cases hL
      refine lc_it walk_odd (fun i H' => H' = upd (upd H a (.frz od (oddD a k v))) L (.lst (List.replicate i (.bl false)))) rfl (fun i H' _ e => by subst e; rw [upd_ne hLa.symm]; exact upd_same) ?_ ?_
      · rintro i x H0 H1 hi rfl ⟨rfl, rfl⟩
        walk_at "rd"
        refine ⟨rfl, ?_⟩
        walk_at "rd"
        obtain ⟨n, tk⟩ := lf_ty (K := K) (H := upd (upd H a (.frz od (oddD a x v))) L (.lst (List.replicate i (.bl false)))) lk
        refine ⟨x, n, rfl, tk, ?_⟩
        walk_at "rd"
        rw [nc]
        have i0 : i = 0 := by omega
        subst i0
        exact ⟨_, upd_same, by show 0 < sizeLine; decide, by rw [upd_upd]; rfl⟩
      · rintro H1 rfl
        refine ⟨by rw [upd_ne hLa.symm]; exact upd_same, ?_⟩
        refine ⟨L, [false], rfl, SqL.of ?_, ?_⟩
        · rw [upd_ne hLa, upd_same]
          rfl
        · exact q _ (same_lock e hLa hL)
    | @dT a ks v e =>
      refine .inl ⟨.ref a, .ty "dict", .type "dict", .type "dict", true, rfl, .ty "dict", .base (.dT e), kit_ty (by decide +kernel), ?_⟩
      walk_at "rd"
      show (if false = true then _ else _)
      walk_at "rd"
      refine g_lockE e True.intro fun od => ?_
      refine ⟨.ref a, rfl, a, od, rfl, .inr (.inr ⟨_, upd_same, fun L hL => ?_⟩)⟩
      have hLa : L ≠ a := fun z => by rw [z, upd_same] at hL; cases hL
      refine lc_it walk_keysT (fun i H' => H' = upd (upd H a (.frz od (.dT [(ks, v)]))) L (.lst (List.replicate i (.bl false)))) rfl (fun i H' _ e => by subst e; rw [upd_ne hLa.symm]; exact upd_same) ?_ ?_
      · rintro i x H0 H1 hi rfl ⟨rfl, k', v', qq, hk, rfl, hq⟩
        walk_at "rd"
        refine ⟨rfl, ?_⟩
        walk_at "rd"
        refine ⟨.ref qq, "tuple", rfl, .tup hq, ?_⟩
        walk_at "rd"
        have i0 : i = 0 := by have : i < 1 := hi; omega
        subst i0
        exact ⟨_, upd_same, by show 0 < sizeLine; decide, by rw [upd_upd]; rfl⟩
      · rintro H1 rfl
        refine ⟨by rw [upd_ne hLa.symm]; exact upd_same, ?_⟩
        refine ⟨L, [false], rfl, SqL.of ?_, ?_⟩
        · rw [upd_ne hLa, upd_same]
          rfl
        · exact q _ (same_lock e hLa hL)
end
end K2

namespace K2
open PySem PySem.Spec PyProof.Rows L2 Mc Mx
theorem call_dictC {X : Cx} : CallR X (.type "dict") (fun xs H Q => ∃ a kvs, xs = [.ref a] ∧ Rd H a (.dK kvs) ∧ ∀ p, H p = none → Q (.ref p) (upd H p (.dK kvs))) := by
  intro pins s σ H xs us Q I r h
  obtain ⟨a, kvs, rfl, e, q⟩ := h
  obtain rfl := Vals.ref1 r
  exact d_copyOf I e fun p s' hp J => ⟨.ref p, _, J, rfl, q p hp⟩
section
variable {P : Program} {w : World} {K : PySem.W.Frag} {mg : Str → Option Value} {base : Heap}
local macro_rules | `(tactic| walk_at "rd1") => `(tactic| first
  | with_reducible refine g_seq ?_
  | with_reducible refine g_asg ?_
  | with_reducible refine g_name ?_
  | with_reducible refine g_c ?_
  | with_reducible refine g_op ?_
  | with_reducible refine g_ifS ?_
  | with_reducible refine g_if ?_
  | with_reducible refine g_test ?_
  | with_reducible refine g_B ?_
  | with_reducible refine g_bl ?_
  | with_reducible refine g_blV ?_
  | with_reducible refine g_not ?_
  | with_reducible refine g_and ?_
  | with_reducible refine g_or ?_
  | with_reducible refine g_notV ?_
  | with_reducible refine g_andV ?_
  | with_reducible refine g_orV ?_
  | with_reducible refine g_ret ?_
  | with_reducible refine g_drop ?_
  | with_reducible refine g_next ?_
  | with_reducible refine g_retN ?_
  | with_reducible refine g_call ?_
  | with_reducible refine g_cb ?_
  | with_reducible refine g_cons ?_
  | with_reducible refine g_nil ?_
  | with_reducible refine g_tup ?_
  | with_reducible refine g_lst ?_
  | with_reducible refine g_prop ?_
  | with_reducible refine g_fld ?_
  | with_reducible refine g_meth ?_
  | with_reducible refine g_chain ?_
  | with_reducible refine g_yes ?_
  | with_reducible refine g_make ?_
  | with_reducible refine g_makeK ?_
  | with_reducible refine g_gsub ?_
  | with_reducible refine g_sfld ?_
  | with_reducible refine g_un ?_
  | with_reducible refine g_bm ?_
  | with_reducible refine g_iteT ?_
  | with_reducible refine g_iteF ?_
  | with_reducible refine g_I0 ?_
  | with_reducible refine g_add ?_
  | with_reducible refine g_sub ?_
  | ((with_reducible refine' g_var ?hv ?_); (case hv => rfl))
  | ((with_reducible refine g_eq ?hv ?_); (case hv => rfl))
  | ((with_reducible refine g_ne ?hv ?_); (case hv => rfl)))
local macro_rules | `(tactic| walk_at "rd") => `(tactic| repeat (walk_at "rd1"))

local macro_rules | `(tactic| walk_at "ty") => `(tactic| first | exact .non | exact .bl _ | exact .int _ | exact .str _ | exact .lst (by assumption) | exact .tup (by assumption) | exact .dK (by assumption) | exact .kTup (by assumption) (by assumption))
local macro_rules | `(tactic| walk_at "isiF") => `(tactic| refine g_isi (by walk_at "ty") (b := false) (by decide +kernel) ?_)
local macro_rules | `(tactic| walk_at "isiT") => `(tactic| refine g_isi (by walk_at "ty") (b := true) (by decide +kernel) ?_)

theorem g_ost {σ : L2.St} {H : Hp} {D : Ends} {f : Str} {to te : TE} (q : te σ H fun y H1 => to σ H1 fun x H2 => ∃ a C : Addr, x = .ref a ∧ OexC K C ∧ PySem.W.findIn K (.ref C) f = some none ∧
  ((H2 a = some (exo a C none) ∧ ∀ dx, H2 dx = none → dx ≠ a → D.nx σ (upd (upd H2 dx (exd dx [(f, y)])) a (exo a C (some dx)))) ∨
    ∃ (dx : Addr) (fs : List (Str × V)), H2 a = some (exo a C (some dx)) ∧ H2 dx = some (exd dx fs) ∧ fs.length ≤ 900 ∧ D.nx σ (upd H2 dx (exd dx ((f, y) :: fs))))) : tOst K f to te D σ H := q
theorem ok_InvalidRows {C f cda cc : Addr} {fd : FuncData} (D : SupD P K "__init__" "InvalidRows.__init__" (defArgs s_InvalidRowsinit) (defBody s_InvalidRowsinit) (defScope s_InvalidRowsinit) C f fd cda cc) (T : SupC P K mg C) (nf : PySem.W.findIn K (.ref C) "value" = some none) :
    FnOk P w K mg base CX0 1 f fd ["self", "value"] (spEx C "value") := by
  refine fn_sup D T sc_InvalidRowsinit rfl rfl (by decide +kernel) (by decide +kernel) (fun vs H Q E h => ?_) (fun L => ⟨_, rfl⟩) (fun A outer s H vs Q E h => ?_)
  · obtain ⟨a, v, rfl, _⟩ := h
    rfl
  · obtain ⟨a, v, rfl, ha, q⟩ := h
    refine ⟨a, rfl, ha, _, pss_one (ps_ost (pv 0) (pv 1)), ?_⟩
    refine g_ost ?_
    walk_at "rd"
    exact ⟨a, C, rfl, T.ox, nf, .inl ⟨ha, q⟩⟩
/-- all but one is as it was -/
def Sx (p : Addr) (H H' : Hp) : Prop := ∀ b o, b ≠ p → H b = some o → H' b = some o
theorem Sx.refl {p : Addr} (H : Hp) : Sx p H H := fun _ _ _ h => h
theorem Sx.trans {p : Addr} {H H1 H2 : Hp} (a : Sx p H H1) (b : Sx p H1 H2) : Sx p H H2 := fun c o hc h => b c o hc (a c o hc h)
theorem Same.sx {p : Addr} {H H' : Hp} (h : Same H H') : Sx p H H' := fun c o _ e => h c o e
theorem sx_upd {p : Addr} {H : Hp} {o : HO} : Sx p H (upd H p o) := fun b u hb e => by rw [upd_ne hb]; exact e
/-- a good row -/
structure GR (kvs : List (Key × V)) : Prop where
  ok : rowOk kvs = true
  len : kvs.length ≤ 1000
  nd : (kvs.map (·.1)).Nodup
theorem isI_int {v : V} (h : isI v = true) : ∃ i, v = .int i := by
  cases v with
  | int i => exact ⟨i, rfl⟩
  | _ => cases h
theorem GR.ints {kvs : List (Key × V)} (g : GR kvs) : IntsD kvs := fun p hp => by
  have q := List.all_eq_true.mp g.ok p hp
  unfold pOk at q
  rw [Bool.and_eq_true] at q
  exact isI_int q.2
theorem GR.row {kvs : List (Key × V)} (g : GR kvs) {H : Hp} {a : Addr} (e : H a = some (.dK kvs)) : RowV K H (.ref a) true := by
  have q : RowV K H (.ref a) (rowOk kvs) := .dk e (fun p hp => by obtain ⟨i, hi⟩ := g.ints p hp; rw [hi]; rfl) g.len g.nd
  rw [g.ok] at q
  exact q
def rfs (a f s : Addr) : List (Str × V) := [("_answers", .ref a), ("_fails", .ref f), ("_stops", .ref s)]
structure CTxt (K : PySem.W.Frag) (C : Addr) : Prop where
  cl : Cls K C
  n1 : NoAttr K C "_answers"
  n2 : NoAttr K C "_fails"
  n3 : NoAttr K C "_stops"
theorem pf_skip {f h : Str} {v x : V} {r : List (Str × V)} (n : ¬ h = f) : putF f v ((h, x) :: r) = (h, x) :: putF f v r := if_neg n
theorem pf_nil {f : Str} {v : V} : putF f v [] = [(f, v)] := rfl
theorem pf_all {a f s : Addr} : putF "_stops" (.ref s) (putF "_fails" (.ref f) (putF "_answers" (.ref a) [])) = rfs a f s := by
  have h1 : ¬ (("_answers" : Str) = "_fails") := by decide +kernel
  have h2 : ¬ (("_answers" : Str) = "_stops") := by decide +kernel
  have h3 : ¬ (("_fails" : Str) = "_stops") := by decide +kernel
  rw [pf_nil, pf_skip h1, pf_nil, pf_skip h2, pf_skip h3, pf_nil]
  rfl
theorem lenP {k : Nat} {f : Str} {v : V} : ∀ {fs : List (Str × V)}, fs.length ≤ k → (putF f v fs).length ≤ k + 1
  | [], _ => Nat.succ_le_succ (Nat.zero_le _)
  | (h, x) :: r, hl => by
    by_cases e : h = f
    · have q : putF f v ((h, x) :: r) = (h, v) :: r := if_pos e
      rw [q]
      exact Nat.le_succ_of_le hl
    · have q : putF f v ((h, x) :: r) = (h, x) :: putF f v r := if_neg e
      rw [q]
      match k, hl with
      | k + 1, hl => exact Nat.succ_le_succ (lenP (Nat.le_of_succ_le_succ hl))
def ForW (g : TG) (tb : TS) (D : Ends) (σ : L2.St) (J : It) (H1 : Hp) : Prop := ∃ W : Nat → Nat → L2.St → Hp → Prop, (∃ m, W 0 m σ H1) ∧ ∀ i m σ H, W i m σ H →
  (J.stop i H ∧ D.nx σ H) ∨ (J.go i H ∧ ∃ N : L2.St → Hp → Prop, (∀ σ' H', N σ' H' → ∃ m', m' < m ∧ W (i + 1) m' σ' H') ∧ ∀ x H', J.yld i H x H' → g x σ H' fun σ2 H2 => tb { D with nx := N, ct := N, bk := D.nx } σ2 H2)
theorem g_for {wi : TI} {g : TG} {tb : TS} {D : Ends} {σ : L2.St} {H : Hp} (q : wi σ H fun J H1 => ForW g tb D σ J H1) : tFor wi g tb D σ H := q
theorem g_irng {ta : TA} {σ : L2.St} {H : Hp} {R : It → Hp → Prop} (q : ta σ H fun vs H1 => ∃ j : Int, vs = [.int j] ∧ -(2 ^ 62) ≤ j ∧ j < 2 ^ 62 ∧ R (Itr 0 j.toNat) H1) : iRng1 ta σ H R := q
theorem g_ilist {te : TE} {σ : L2.St} {H : Hp} {R : It → Hp → Prop} (q : te σ H fun v H1 => ∃ a, v = .ref a ∧ (∃ xs, SqL K H1 a xs) ∧ R (Itl K a) H1) : iList K te σ H R := q
theorem g_itup {te : TE} {σ : L2.St} {H : Hp} {R : It → Hp → Prop} (q : te σ H fun v H1 => ∃ a, v = .ref a ∧ (∃ xs, SqT K H1 a xs) ∧ R (Itt K a) H1) : iTup K te σ H R := q
theorem g_fset {i : Nat} {v : V} {σ : L2.St} {H : Hp} {Q : L2.St → Hp → Prop} (q : Q (σ.set i (some v)) H) : gName i v σ H Q := q
abbrev psR : List Str := ["self", "answers", "fails", "stops"]
def spRows (C : Addr) : Sp := fun vs H Q _ => ∃ (x dx a f s : Addr) (ka kf ks : List (Key × V)), vs = [.ref x, .ref a, .ref f, .ref s] ∧ H x = some (.ins C dx []) ∧ H a = some (.dK ka) ∧ H f = some (.dK kf) ∧ H s = some (.dK ks) ∧ GR ka ∧ GR kf ∧ GR ks ∧
  ∀ H' (da df ds : Addr), Sx x H H' → H' x = some (.ins C dx (rfs da df ds)) → H' da = some (.dK ka) → H' df = some (.dK kf) → H' ds = some (.dK ks) → H da = none → H df = none → H ds = none → da ≠ df → da ≠ ds → df ≠ ds → Q .non H'
theorem tup_go {H : Hp} {xs : List V} {Q : VK} (hl : xs.length ≤ 1000) (k : ∀ a H', H a = none → Same H H' → H' a = some (.tup xs) → Q (.ref a) H') : TupG Q xs H :=
  ⟨sz_le hl, fun p hp => k p _ hp (same_new hp) upd_same⟩
theorem lst_go {H : Hp} {xs : List V} {Q : VK} (hl : xs.length ≤ 1000) (k : ∀ a H', H a = none → Same H H' → H' a = some (.lst xs) → Q (.ref a) H') : LstG Q xs H :=
  ⟨sz_le hl, fun p hp => k p _ hp (same_new hp) upd_same⟩
theorem ok_rows {C f : Addr} {fd : FuncData} (F : Fun K "__init__" "Rows.__init__" s_Rowsinit f fd) (T : Txt K mg) (TC : CTxt K C) (c_is_row : Cal P w K mg base 3 "_is_row" (spRow K)) : FnOk P w K mg base CX0 4 f fd psR (spRows C) := by
  refine F.ok sc_Rowsinit (fun vs H Q E h => ?_) (fun cdv A outer s H vs Q E hr h => ?_)
  · obtain ⟨x, dx, a, f, s, ka, kf, ks, rfl, _⟩ := h
    rfl
  · obtain ⟨x, dx, a, f, s, ka, kf, ks, rfl, hx, ha, hf, hs, ga, gf, gs, q⟩ := h
    refine ⟨_, (pss_cons (ps_for PassesOwn.never rfl (pi_tup (pe_tup (pa_cons (pv 1) (pa_cons (pv 2) (pa_cons (pv 3) pa_nil))))) (pg_name (i := 4) sc_Rowsinit.nd rfl (Or.inl rfl)) (pss_one (ps_if (pt_not (pt_val (pe_f c_is_row hr (by decide) (by rfl) (pa_cons (pv 4) pa_nil)))) (pss_one ps_never) pss_nil)))
      (pss_cons (ps_fld (pv 0) (pe_callTy call_dictC (by rfl) T.n_dict (by decide +kernel) (pa_cons (pv 1) pa_nil)) rfl)
      (pss_cons (ps_fld (pv 0) (pe_callTy call_dictC (by rfl) T.n_dict (by decide +kernel) (pa_cons (pv 2) pa_nil)) rfl)
      (pss_one (ps_fld (pv 0) (pe_callTy call_dictC (by rfl) T.n_dict (by decide +kernel) (pa_cons (pv 3) pa_nil)) rfl))))), ?_⟩
    walk_at "rd"
    refine g_for (g_itup ?_)
    walk_at "rd"
    refine tup_go ?hl fun t H1 nt S1 ht => ?_
    case hl => exact Nat.le_of_ble_eq_true rfl
    refine ⟨t, rfl, ⟨_, SqT.of ht⟩, ?_⟩
    unfold ForW
    refine for_it (walk_tup (K := K) (a := t) (xs := [.ref a, .ref f, .ref s])) (fun i σ H' => (∃ o4, σ = [some (.ref x), some (.ref a), some (.ref f), some (.ref s), o4]) ∧ Same H1 H') ⟨⟨_, rfl⟩, Same.refl _⟩ (fun i σ H' _ ⟨_, e⟩ => SqT.of (e _ _ ht)) ?_ ?_
    · rintro i y σ H2 H3 hi ⟨⟨o4, rfl⟩, S2⟩ ⟨rfl, hy⟩
      have row : RowV K H3 y true := by
        match i, hy with
        | 0, hy => cases hy; exact ga.row (S2 _ _ (S1 _ _ ha))
        | 1, hy => cases hy; exact gf.row (S2 _ _ (S1 _ _ hf))
        | 2, hy => cases hy; exact gs.row (S2 _ _ (S1 _ _ hs))
        | n + 3, hy => cases hy
      walk_at "rd"
      refine ⟨y, true, rfl, row, fun H4 S4 => ?_⟩
      walk_at "rd"
      show (if false = true then _ else _)
      walk_at "rd"
      exact ⟨⟨_, rfl⟩, Same.trans S2 S4⟩
    · rintro σ H2 ⟨⟨o4, rfl⟩, S2⟩
      have S := Same.trans S1 S2
      have ax : a ≠ x := fun z => by rw [z, hx] at ha; cases ha
      have fx : f ≠ x := fun z => by rw [z, hx] at hf; cases hf
      have sx : s ≠ x := fun z => by rw [z, hx] at hs; cases hs
      walk_at "rd"
      refine ⟨a, ka, rfl, .inl (S _ _ ha), fun da nda => ?_⟩
      have dax : da ≠ x := (ne_of_none (S _ _ hx) nda).symm
      walk_at "rd"
      refine ⟨x, C, dx, [], rfl, by rw [upd_ne dax.symm]; exact S _ _ hx, TC.cl, TC.n1, (by show 0 < 1000; decide), ?_⟩
      walk_at "rd"
      have Sa : Sx x H2 (upd (upd H2 da (.dK ka)) x (.ins C dx (putF "_answers" (.ref da) []))) := (Same.sx (same_new nda)).trans sx_upd
      have hda : (upd (upd H2 da (.dK ka)) x (.ins C dx (putF "_answers" (.ref da) []))) da = some (.dK ka) := by rw [upd_ne dax]; exact upd_same
      have hx1 : (upd (upd H2 da (.dK ka)) x (.ins C dx (putF "_answers" (.ref da) []))) x = some (.ins C dx (putF "_answers" (.ref da) [])) := upd_same
      generalize (upd (upd H2 da (.dK ka)) x (.ins C dx (putF "_answers" (.ref da) []))) = H3 at Sa hda hx1 ⊢
      refine ⟨f, kf, rfl, .inl (Sa _ _ fx (S _ _ hf)), fun df ndf => ?_⟩
      have dfx : df ≠ x := (ne_of_none hx1 ndf).symm
      have daf : da ≠ df := ne_of_none hda ndf
      walk_at "rd"
      refine ⟨x, C, dx, _, rfl, by rw [upd_ne dfx.symm]; exact hx1, TC.cl, TC.n2, Nat.lt_of_le_of_lt (lenP (k := 0) (Nat.zero_le _)) (by decide), ?_⟩
      walk_at "rd"
      have Sb : Sx x H3 (upd (upd H3 df (.dK kf)) x (.ins C dx (putF "_fails" (.ref df) (putF "_answers" (.ref da) [])))) := (Same.sx (same_new ndf)).trans sx_upd
      have hdf : (upd (upd H3 df (.dK kf)) x (.ins C dx (putF "_fails" (.ref df) (putF "_answers" (.ref da) [])))) df = some (.dK kf) := by rw [upd_ne dfx]; exact upd_same
      have hx2 : (upd (upd H3 df (.dK kf)) x (.ins C dx (putF "_fails" (.ref df) (putF "_answers" (.ref da) [])))) x = some (.ins C dx (putF "_fails" (.ref df) (putF "_answers" (.ref da) []))) := upd_same
      generalize (upd (upd H3 df (.dK kf)) x (.ins C dx (putF "_fails" (.ref df) (putF "_answers" (.ref da) [])))) = H4 at Sb hdf hx2 ⊢
      have hda4 := Sb _ _ dax hda
      refine ⟨s, ks, rfl, .inl (Sb _ _ sx (Sa _ _ sx (S _ _ hs))), fun ds nds => ?_⟩
      have dsx : ds ≠ x := (ne_of_none hx2 nds).symm
      have das : da ≠ ds := ne_of_none hda4 nds
      have dfs : df ≠ ds := ne_of_none hdf nds
      walk_at "rd"
      refine ⟨x, C, dx, _, rfl, by rw [upd_ne dsx.symm]; exact hx2, TC.cl, TC.n3, Nat.lt_of_le_of_lt (lenP (k := 1) (lenP (k := 0) (Nat.zero_le _))) (by decide), ?_⟩
      walk_at "rd"
      rw [pf_all]
      have free : ∀ {b : Addr} {H' : Hp}, b ≠ x → Sx x H H' → H' b = none → H b = none := fun {b H'} hb sx h => by
        cases e : H b with
        | none => rfl
        | some o => rw [sx b o hb e] at h; cases h
      have Sc : Sx x H4 (upd (upd H4 ds (.dK ks)) x (.ins C dx (rfs da df ds))) := (Same.sx (same_new nds)).trans sx_upd
      have SH := ((Same.sx S).trans Sa)
      refine q _ da df ds ((SH.trans Sb).trans Sc) upd_same (Sc _ _ dax hda4) (Sc _ _ dfx hdf) (by rw [upd_ne dsx]; exact upd_same) (free dax (Same.sx S) nda) (free dfx SH ndf) (free dsx (SH.trans Sb) nds) daf das dfs
end
end K2

namespace K2
open PySem PySem.Spec PyProof.Rows L2 Mc Mx
section
variable {P : Program} {w : World} {K : PySem.W.Frag} {mg : Str → Option Value} {base : Heap}
local macro_rules | `(tactic| walk_at "rd1") => `(tactic| first
  | with_reducible refine g_seq ?_
  | with_reducible refine g_asg ?_
  | with_reducible refine g_name ?_
  | with_reducible refine g_c ?_
  | with_reducible refine g_op ?_
  | with_reducible refine g_ifS ?_
  | with_reducible refine g_if ?_
  | with_reducible refine g_test ?_
  | with_reducible refine g_B ?_
  | with_reducible refine g_bl ?_
  | with_reducible refine g_blV ?_
  | with_reducible refine g_not ?_
  | with_reducible refine g_and ?_
  | with_reducible refine g_or ?_
  | with_reducible refine g_notV ?_
  | with_reducible refine g_andV ?_
  | with_reducible refine g_orV ?_
  | with_reducible refine g_ret ?_
  | with_reducible refine g_drop ?_
  | with_reducible refine g_next ?_
  | with_reducible refine g_retN ?_
  | with_reducible refine g_call ?_
  | with_reducible refine g_cb ?_
  | with_reducible refine g_cons ?_
  | with_reducible refine g_nil ?_
  | with_reducible refine g_tup ?_
  | with_reducible refine g_lst ?_
  | with_reducible refine g_prop ?_
  | with_reducible refine g_fld ?_
  | with_reducible refine g_meth ?_
  | with_reducible refine g_chain ?_
  | with_reducible refine g_yes ?_
  | with_reducible refine g_make ?_
  | with_reducible refine g_makeK ?_
  | with_reducible refine g_gsub ?_
  | with_reducible refine g_sfld ?_
  | with_reducible refine g_un ?_
  | with_reducible refine g_bm ?_
  | with_reducible refine g_iteT ?_
  | with_reducible refine g_iteF ?_
  | with_reducible refine g_I0 ?_
  | with_reducible refine g_add ?_
  | with_reducible refine g_sub ?_
  | ((with_reducible refine' g_var ?hv ?_); (case hv => rfl))
  | ((with_reducible refine g_eq ?hv ?_); (case hv => rfl))
  | ((with_reducible refine g_ne ?hv ?_); (case hv => rfl)))
local macro_rules | `(tactic| walk_at "rd") => `(tactic| repeat (walk_at "rd1"))

local macro_rules | `(tactic| walk_at "ty") => `(tactic| first | exact .non | exact .bl _ | exact .int _ | exact .str _ | exact .lst (by assumption) | exact .tup (by assumption) | exact .dK (by assumption) | exact .kTup (by assumption) (by assumption))
local macro_rules | `(tactic| walk_at "isiF") => `(tactic| refine g_isi (by walk_at "ty") (b := false) (by decide +kernel) ?_)
local macro_rules | `(tactic| walk_at "isiT") => `(tactic| refine g_isi (by walk_at "ty") (b := true) (by decide +kernel) ?_)

def pick3 (a f s : V) (ba bf : Bool) : V := if ba = true then (if bf = true then s else f) else a
def spBad (K : PySem.W.Frag) (C CR : Addr) : Sp := fun vs H _ E => ∃ (x dx : Addr) (a f s : V) (ba bf bs : Bool), vs = [.ref x, a, f, s] ∧ H x = some (.ins C dx []) ∧ RowV K H a ba ∧ RowV K H f bf ∧ RowV K H s bs ∧ (ba && (bf && bs)) = false ∧
  ∀ d H', Same H H' → H' d = some (.xd [("value", pick3 a f s ba bf)]) → E (.ref CR) (some d) H'
theorem ok_bad {C CR f fR : Addr} {fd fdR : FuncData} (F : Fun K "__init__" "Rows.__init__" s_Rowsinit f fd) (T : Txt K mg) (TC : CTxt K C) (c_is_row : Cal P w K mg base 3 "_is_row" (spRow K))
    (TR : SupC P K mg CR) (ER : ExK P w K mg base "InvalidRows" CR fR fdR ["self", "value"] (spEx CR "value")) : FnOk P w K mg base (CX P w) 4 f fd psR (spBad K C CR) := by
  refine F.okX sc_Rowsinit (fun vs H Q E h => ?_) (fun cdv A outer s H vs Q E hr h => ?_)
  · obtain ⟨x, dx, a, f, s, ba, bf, bs, rfl, _⟩ := h
    rfl
  · obtain ⟨x, dx, a, f, s, ba, bf, bs, rfl, hx, ra, rf, rs, hb, q⟩ := h
    refine ⟨_, (pss_cons (ps_for (passes_of rfl) rfl (pi_tup (pe_tup (pa_cons (pv 1) (pa_cons (pv 2) (pa_cons (pv 3) pa_nil))))) (pg_name (i := 4) sc_Rowsinit.nd rfl (Or.inl rfl)) (pss_one (ps_if (pt_not (pt_val (pe_f c_is_row hr (by decide) (by rfl) (pa_cons (pv 4) pa_nil)))) (pss_one (ps_raise rfl (takes_of rfl rfl rfl rfl) (pmk_oex TR.ox ER.iC ER.tI ER.ok (hr.mono (by decide)) ER.bi .nil pass0 (by rfl) ER.gl (pa_cons (pv 4) pa_nil)))) pss_nil)))
      (pss_cons (ps_fld (pv 0) (pe_callTy call_dictC (by rfl) T.n_dict (by decide +kernel) (pa_cons (pv 1) pa_nil)) rfl)
      (pss_cons (ps_fld (pv 0) (pe_callTy call_dictC (by rfl) T.n_dict (by decide +kernel) (pa_cons (pv 2) pa_nil)) rfl)
      (pss_one (ps_fld (pv 0) (pe_callTy call_dictC (by rfl) T.n_dict (by decide +kernel) (pa_cons (pv 3) pa_nil)) rfl))))), ?_⟩
    walk_at "rd"
    refine g_for (g_itup ?_)
    walk_at "rd"
    refine tup_go ?hl fun t H1 nt S1 ht => ?_
    case hl => exact Nat.le_of_ble_eq_true rfl
    refine ⟨t, rfl, ⟨_, SqT.of ht⟩, ?_⟩
    unfold ForW
    refine for_it (walk_tup (K := K) (a := t) (xs := [a, f, s])) (fun i σ H' => (∃ o4, σ = [some (.ref x), some a, some f, some s, o4]) ∧ Same H1 H' ∧ (1 ≤ i → ba = true) ∧ (2 ≤ i → bf = true) ∧ (3 ≤ i → bs = true)) ⟨⟨_, rfl⟩, Same.refl _, (fun z => absurd z (by decide)), (fun z => absurd z (by decide)), (fun z => absurd z (by decide))⟩ (fun i σ H' _ ⟨_, e, _⟩ => SqT.of (e _ _ ht)) ?_ ?_
    · rintro i y σ H2 H3 hi ⟨⟨o4, rfl⟩, S2, k1, k2, k3⟩ ⟨rfl, hy⟩
      have row : ∃ b, RowV K H3 y b ∧ (b = true → (1 ≤ i + 1 → ba = true) ∧ (2 ≤ i + 1 → bf = true) ∧ (3 ≤ i + 1 → bs = true)) ∧ (b = false → pick3 a f s ba bf = y) := by
        match i, hy with
        | 0, hy =>
          cases hy
          exact ⟨ba, (ra.ext S1).ext S2, fun z => ⟨fun _ => z, (fun h => absurd h (by decide)), (fun h => absurd h (by decide))⟩, fun z => by unfold pick3; rw [z]; rfl⟩
        | 1, hy =>
          cases hy
          have z1 := k1 (by decide)
          exact ⟨bf, (rf.ext S1).ext S2, fun z => ⟨fun _ => z1, fun _ => z, (fun h => absurd h (by decide))⟩, fun z => by unfold pick3; rw [z1, z]; rfl⟩
        | 2, hy =>
          cases hy
          have z1 := k1 (by decide)
          have z2 := k2 (by decide)
          exact ⟨bs, (rs.ext S1).ext S2, fun z => ⟨fun _ => z1, fun _ => z2, fun _ => z⟩, fun z => by unfold pick3; rw [z1, z2]; rfl⟩
        | n + 3, hy => cases hy
      obtain ⟨b, row, kt, kf⟩ := row
      walk_at "rd"
      refine ⟨y, b, rfl, row, fun H4 S4 => ?_⟩
      walk_at "rd"
      cases b with
      | true =>
        show (if false = true then _ else _)
        walk_at "rd"
        obtain ⟨z1, z2, z3⟩ := kt rfl
        exact ⟨⟨_, rfl⟩, Same.trans S2 S4, z1, z2, z3⟩
      | false =>
        show (if true = true then _ else _)
        walk_at "rd"
        refine g_mko ?_
        walk_at "rd"
        rw [kf rfl] at q
        exact ex_as fun d H' S5 hd => q d H' (Same.trans (Same.trans (Same.trans S1 S2) S4) S5) hd
    · rintro σ H2 ⟨⟨o4, rfl⟩, S2, k1, k2, k3⟩
      exfalso
      rw [k1 (by show 1 ≤ 3; decide), k2 (by show 2 ≤ 3; decide), k3 (Nat.le_refl 3)] at hb
      cases hb
end
end K2

namespace K2
open PySem PySem.Spec PyProof.Rows L2 Mc Mx
section
variable {P : Program} {w : World} {K : PySem.W.Frag} {mg : Str → Option Value} {base : Heap}
local macro_rules | `(tactic| walk_at "rd1") => `(tactic| first
  | with_reducible refine g_seq ?_
  | with_reducible refine g_asg ?_
  | with_reducible refine g_name ?_
  | with_reducible refine g_c ?_
  | with_reducible refine g_op ?_
  | with_reducible refine g_ifS ?_
  | with_reducible refine g_if ?_
  | with_reducible refine g_test ?_
  | with_reducible refine g_B ?_
  | with_reducible refine g_bl ?_
  | with_reducible refine g_blV ?_
  | with_reducible refine g_not ?_
  | with_reducible refine g_and ?_
  | with_reducible refine g_or ?_
  | with_reducible refine g_notV ?_
  | with_reducible refine g_andV ?_
  | with_reducible refine g_orV ?_
  | with_reducible refine g_ret ?_
  | with_reducible refine g_drop ?_
  | with_reducible refine g_next ?_
  | with_reducible refine g_retN ?_
  | with_reducible refine g_call ?_
  | with_reducible refine g_cb ?_
  | with_reducible refine g_cons ?_
  | with_reducible refine g_nil ?_
  | with_reducible refine g_tup ?_
  | with_reducible refine g_lst ?_
  | with_reducible refine g_prop ?_
  | with_reducible refine g_fld ?_
  | with_reducible refine g_meth ?_
  | with_reducible refine g_chain ?_
  | with_reducible refine g_yes ?_
  | with_reducible refine g_make ?_
  | with_reducible refine g_makeK ?_
  | with_reducible refine g_gsub ?_
  | with_reducible refine g_sfld ?_
  | with_reducible refine g_un ?_
  | with_reducible refine g_bm ?_
  | with_reducible refine g_iteT ?_
  | with_reducible refine g_iteF ?_
  | with_reducible refine g_I0 ?_
  | with_reducible refine g_add ?_
  | with_reducible refine g_sub ?_
  | ((with_reducible refine' g_var ?hv ?_); (case hv => rfl))
  | ((with_reducible refine g_eq ?hv ?_); (case hv => rfl))
  | ((with_reducible refine g_ne ?hv ?_); (case hv => rfl)))
local macro_rules | `(tactic| walk_at "rd") => `(tactic| repeat (walk_at "rd1"))

local macro_rules | `(tactic| walk_at "ty") => `(tactic| first | exact .non | exact .bl _ | exact .int _ | exact .str _ | exact .lst (by assumption) | exact .tup (by assumption) | exact .dK (by assumption) | exact .kTup (by assumption) (by assumption))
local macro_rules | `(tactic| walk_at "isiF") => `(tactic| refine g_isi (by walk_at "ty") (b := false) (by decide +kernel) ?_)
local macro_rules | `(tactic| walk_at "isiT") => `(tactic| refine g_isi (by walk_at "ty") (b := true) (by decide +kernel) ?_)

/-! ### properties and methods -/
structure Prp (P : Program) (w : World) (K : PySem.W.Frag) (mg : Str → Option Value) (base : Heap) (k : Nat) (C : Addr) (f : Str) (sp : Sp) : Prop where
  ex : ∃ (p g : Addr) (fd : FuncData) (ps : List Str), Cls K C ∧ PropOf K C f p g ∧ FnOk P w K mg base CX0 k g fd ps sp ∧ Binds K fd ps []
theorem pe_pr {X : Cx} {k j : Nat} {C : Addr} {f : Str} {sp : Sp} {e : Expr} {ta : TE} {pos : Pos} (c : Prp X.prog X.w X.K X.mg X.base k C f sp) (hr : Room j X.A) (hk : k + 1 ≤ j) (he : PE X e ta)
    (hab : attributeBase e f X.env (eval e X.env) = eval e X.env := by rfl) : PE X (.Attribute e f pos) (tProp C sp [] E0 ta) := by
  obtain ⟨p, g, fd, ps, cl, po, G, b⟩ := c.ex
  exact pe_prop he cl po G (hr.mono hk) b .nil pass0 hab
structure Mth (P : Program) (w : World) (K : PySem.W.Frag) (mg : Str → Option Value) (base : Heap) (k : Nat) (C : Addr) (m : Str) (sp : Sp) : Prop where
  ex : ∃ (f : Addr) (fd : FuncData) (ps : List Str), Cls K C ∧ Meth K C m f ∧ FnOk P w K mg base CX0 k f fd ps sp ∧ Binds K fd ps []
theorem pe_m0 {X : Cx} {k j : Nat} {C : Addr} {m : Str} {sp : Sp} {o : Expr} {ta : TE} {pos apos : Pos} {pl : Sem Bool} (c : Mth X.prog X.w X.K X.mg X.base k C m sp) (hr : Room j X.A) (hk : k ≤ j) (he : PE X o ta)
    (ht : eval (.Call (.Attribute o m apos) [] [] pos) X.env = (do
      let u ← eval o X.env
      standAt apos.atName
      let (g, first) ← holding [u] (getMethod u m pl)
      callWith pos g first (backTo pos (starEach [] X.env)) (backToKw pos (keywordEach [] X.env))) := by rfl) : PE X (.Call (.Attribute o m apos) [] [] pos) (tMeth C m sp [] E0 ta tNil) := by
  obtain ⟨f, fd, ps, cl, me, G, b⟩ := c.ex
  exact pe_meth0 (pl := pl) he cl me G (hr.mono hk) b .nil pass0 ht
theorem lk1 {a f s : Addr} : (rfs a f s).lookup ("_answers" : Str) = some (.ref a) := rfl
theorem lk2 {a f s : Addr} : (rfs a f s).lookup ("_fails" : Str) = some (.ref f) := rfl
theorem lk3 {a f s : Addr} : (rfs a f s).lookup ("_stops" : Str) = some (.ref s) := rfl
theorem lk0 {a f s : Addr} : (rfs a f s).lookup ("_rows" : Str) = none := rfl
theorem lk00 {a f s : Addr} : (rfs a f s).lookup ("greatest" : Str) = none := rfl
def spGet (C : Addr) (fld : Str) : Sp := fun vs H Q _ => ∃ (x dx d : Addr) (fs : List (Str × V)) (k : List (Key × V)), vs = [.ref x] ∧ H x = some (.ins C dx fs) ∧ fs.lookup fld = some (.ref d) ∧ H d = some (.dK k) ∧ ∀ p, H p = none → Q (.ref p) (upd H p (.dK k))
theorem ok_answers {C p f : Addr} {fd : FuncData} (F : Fun K "answers" "Rows.answers" s_Rows_answers f fd) (T : Txt K mg) (TC : CTxt K C) (po : PropOf K C "answers" p f) (b : Binds K fd ["self"] []) : Prp P w K mg base 1 C "answers" (spGet C "_answers") := by
  refine ⟨p, f, fd, _, TC.cl, po, F.ok sc_Rows_answers (fun vs H Q E h => ?_) (fun cdv A outer s H vs Q E hr h => ?_), b⟩
  · obtain ⟨x, dx, d, fs, k, rfl, _⟩ := h
    rfl
  · obtain ⟨x, dx, d, fs, k, rfl, hx, hl, hd, q⟩ := h
    refine ⟨_, (pss_one (ps_ret (pe_callTy call_dictC (by rfl) T.n_dict (by decide +kernel) (pa_cons (pe_fld (pv 0) rfl) pa_nil)))), ?_⟩
    walk_at "rd"
    refine ⟨x, C, dx, fs, _, rfl, hx, TC.cl, TC.n1, hl, ?_⟩
    walk_at "rd"
    exact ⟨d, k, rfl, .inl hd, q⟩
theorem ok_fails {C p f : Addr} {fd : FuncData} (F : Fun K "fails" "Rows.fails" s_Rows_fails f fd) (T : Txt K mg) (TC : CTxt K C) (po : PropOf K C "fails" p f) (b : Binds K fd ["self"] []) : Prp P w K mg base 1 C "fails" (spGet C "_fails") := by
  refine ⟨p, f, fd, _, TC.cl, po, F.ok sc_Rows_fails (fun vs H Q E h => ?_) (fun cdv A outer s H vs Q E hr h => ?_), b⟩
  · obtain ⟨x, dx, d, fs, k, rfl, _⟩ := h
    rfl
  · obtain ⟨x, dx, d, fs, k, rfl, hx, hl, hd, q⟩ := h
    refine ⟨_, (pss_one (ps_ret (pe_callTy call_dictC (by rfl) T.n_dict (by decide +kernel) (pa_cons (pe_fld (pv 0) rfl) pa_nil)))), ?_⟩
    walk_at "rd"
    refine ⟨x, C, dx, fs, _, rfl, hx, TC.cl, TC.n2, hl, ?_⟩
    walk_at "rd"
    exact ⟨d, k, rfl, .inl hd, q⟩
theorem ok_stops {C p f : Addr} {fd : FuncData} (F : Fun K "stops" "Rows.stops" s_Rows_stops f fd) (T : Txt K mg) (TC : CTxt K C) (po : PropOf K C "stops" p f) (b : Binds K fd ["self"] []) : Prp P w K mg base 1 C "stops" (spGet C "_stops") := by
  refine ⟨p, f, fd, _, TC.cl, po, F.ok sc_Rows_stops (fun vs H Q E h => ?_) (fun cdv A outer s H vs Q E hr h => ?_), b⟩
  · obtain ⟨x, dx, d, fs, k, rfl, _⟩ := h
    rfl
  · obtain ⟨x, dx, d, fs, k, rfl, hx, hl, hd, q⟩ := h
    refine ⟨_, (pss_one (ps_ret (pe_callTy call_dictC (by rfl) T.n_dict (by decide +kernel) (pa_cons (pe_fld (pv 0) rfl) pa_nil)))), ?_⟩
    walk_at "rd"
    refine ⟨x, C, dx, fs, _, rfl, hx, TC.cl, TC.n3, hl, ?_⟩
    walk_at "rd"
    exact ⟨d, k, rfl, .inl hd, q⟩
/-- a Rows that stands -/
structure RA (C : Addr) (H : Hp) (x dx da df ds : Addr) (ka kf ks : List (Key × V)) : Prop where
  x : H x = some (.ins C dx (rfs da df ds))
  a : H da = some (.dK ka)
  f : H df = some (.dK kf)
  s : H ds = some (.dK ks)
theorem RA.ext {C : Addr} {H H' : Hp} {x dx da df ds : Addr} {ka kf ks : List (Key × V)} (e : Same H H') (h : RA C H x dx da df ds ka kf ks) : RA C H' x dx da df ds ka kf ks := ⟨e _ _ h.x, e _ _ h.a, e _ _ h.f, e _ _ h.s⟩
def spRl (C : Addr) : Sp := fun vs H Q _ => ∃ x dx da df ds ka kf ks, vs = [.ref x] ∧ RA C H x dx da df ds ka kf ks ∧ ∀ r H', Same H H' → H r = none → H' r = some (.lst [.ref da, .ref df, .ref ds]) → Q (.ref r) H'
theorem ok_rl {C f : Addr} {fd : FuncData} (F : Fun K "_rows" "Rows._rows" s_Rows_rows f fd) (TC : CTxt K C) (me : Meth K C "_rows" f) (b : Binds K fd ["self"] []) : Mth P w K mg base 1 C "_rows" (spRl C) := by
  refine ⟨f, fd, _, TC.cl, me, F.ok sc_Rows_rows (fun vs H Q E h => ?_) (fun cdv A outer s H vs Q E hr h => ?_), b⟩
  · obtain ⟨x, dx, da, df, ds, ka, kf, ks, rfl, _⟩ := h
    rfl
  · obtain ⟨x, dx, da, df, ds, ka, kf, ks, rfl, R, q⟩ := h
    refine ⟨_, (pss_one (ps_ret (pe_lst (pa_cons (pe_fld (pv 0) rfl) (pa_cons (pe_fld (pv 0) rfl) (pa_cons (pe_fld (pv 0) rfl) pa_nil)))))), ?_⟩
    walk_at "rd"
    refine ⟨x, C, dx, _, _, rfl, R.x, TC.cl, TC.n1, lk1, ?_⟩
    walk_at "rd"
    refine ⟨x, C, dx, _, _, rfl, R.x, TC.cl, TC.n2, lk2, ?_⟩
    walk_at "rd"
    refine ⟨x, C, dx, _, _, rfl, R.x, TC.cl, TC.n3, lk3, ?_⟩
    walk_at "rd"
    refine lst_go ?hl fun r H1 nr S1 hr1 => q r H1 S1 nr hr1
    case hl => exact Nat.le_of_ble_eq_true rfl
def iv : V → Int
  | .int i => i
  | _ => 0
def ivs (k : List (Key × V)) : List Int := k.map fun p => iv p.2
theorem ivs_eq {k : List (Key × V)} (h : IntsD k) : k.map (·.2) = (ivs k).map V.int := by
  unfold ivs
  rw [List.map_map]
  refine List.map_congr_left fun p hp => ?_
  obtain ⟨i, hi⟩ := h p hp
  show p.2 = V.int (iv p.2)
  rw [hi]
  rfl
def spMax (C : Addr) : Sp := fun vs H Q _ => ∃ x dx da df ds ka kf ks, vs = [.ref x] ∧ RA C H x dx da df ds ka kf ks ∧ GR ka ∧ GR kf ∧ (ivs ka ++ ivs kf = [] → ∀ H', Same H H' → Q .non H') ∧ ∀ m, m ∈ ivs ka ++ ivs kf → (∀ y, y ∈ ivs ka ++ ivs kf → y ≤ m) → ∀ H', Same H H' → Q (.int m) H'
theorem g_lvals {σ : L2.St} {H : Hp} {Q : VK} {te : TE} (q : te σ H fun x H1 => ∃ (d : Addr) (kvs : List (Key × V)), x = .ref d ∧ H1 d = some (.dK kvs) ∧ ∀ l, H1 l = none → Q (.ref l) (upd H1 l (.lst (kvs.map (·.2))))) : tListVals te σ H Q := q
theorem g_ckw {r : List V → List V → Hp → VK → Prop} {t tk : TA} {σ : L2.St} {H : Hp} {Q : VK} (q : t σ H fun vs H1 => tk σ H1 fun zs H2 => r vs zs H2 Q) : tCKw r t tk σ H Q := q
theorem cat_go' {H : Hp} {Q : VK} {a b : Addr} {xs ys : List V} (h : H a = some (.lst xs)) (h' : H b = some (.lst ys)) (hl : xs.length + ys.length ≤ 10000) (k : ∀ s H', H s = none → Same H H' → H' s = some (.lst (xs ++ ys)) → Q (.ref s) H') : rCat (.ref a) (.ref b) H Q :=
  ⟨a, b, xs, ys, rfl, rfl, h, h', Nat.le_trans hl (by decide), fun p hp => k p _ hp (same_new hp) upd_same⟩
theorem ok_greatest {C f : Addr} {fd : FuncData} (F : Fun K "greatest" "Rows.greatest" s_Rows_greatest f fd) (T : Txt K mg) (TC : CTxt K C) (me : Meth K C "greatest" f) (b : Binds K fd ["self"] []) : Mth P w K mg base 1 C "greatest" (spMax C) := by
  refine ⟨f, fd, _, TC.cl, me, F.ok sc_Rows_greatest (fun vs H Q E h => ?_) (fun cdv A outer s H vs Q E hr h => ?_), b⟩
  · obtain ⟨x, dx, da, df, ds, ka, kf, ks, rfl, _⟩ := h
    rfl
  · obtain ⟨x, dx, da, df, ds, ka, kf, ks, rfl, R, ga, gf, q0, q1⟩ := h
    refine ⟨_, (pss_one (ps_ret (pe_callBK (call_maxD rfl hr.units) (by rfl) T.n_max (by decide +kernel) (pa_cons (pe_op op_cat (pe_listVals rfl (pe_fld (pv 0) rfl) (by rfl) T.n_list (by decide +kernel)) (pe_listVals rfl (pe_fld (pv 0) rfl) (by rfl) T.n_list (by decide +kernel))) pa_nil) (pk_cons pe_non pk_nil)))), ?_⟩
    walk_at "rd"
    refine g_ckw ?_
    walk_at "rd"
    refine g_lvals ?_
    walk_at "rd"
    refine ⟨x, C, dx, _, _, rfl, R.x, TC.cl, TC.n1, lk1, ?_⟩
    walk_at "rd"
    refine ⟨da, ka, rfl, R.a, fun l1 n1 => ?_⟩
    have S1 := same_new (o := .lst (ka.map (·.2))) n1
    refine g_lvals ?_
    walk_at "rd"
    refine ⟨x, C, dx, _, _, rfl, S1 _ _ R.x, TC.cl, TC.n2, lk2, ?_⟩
    walk_at "rd"
    refine ⟨df, kf, rfl, S1 _ _ R.f, fun l2 n2 => ?_⟩
    have S2 := same_new (o := .lst (kf.map (·.2))) n2
    refine cat_go' (S2 _ _ upd_same) upd_same (by rw [List.length_map, List.length_map]; have := ga.len; have := gf.len; omega) fun l3 H3 n3 S3 h3 => ?_
    have S := Same.trans S1 (Same.trans S2 S3)
    walk_at "rd"
    have e : ka.map (·.2) ++ kf.map (·.2) = (ivs ka ++ ivs kf).map V.int := by rw [List.map_append, ivs_eq ga.ints, ivs_eq gf.ints]
    rw [e] at h3
    exact ⟨l3, .non, _, rfl, rfl, SqL.of h3, fun z => q0 z _ S, fun m h1 h2 => q1 m h1 h2 _ S⟩
structure ICls (K : PySem.W.Frag) (C : Addr) : Prop where
  ha : PySem.W.findIn K (.ref C) "__class__" = some (some (.builtin "object.__class__"))
  hn : PySem.W.specialIn K (.builtin "object.__class__") "__get__" = some (some (.builtin "getset_descriptor.__get__"))
  tk : PySem.W.takesIn K (.builtin "object.__class__") = some true
  hm : PySem.W.mroIn K C (.type "object") = some true
  me : PySem.W.kitOne K (.ref C) (.ref C) = some true
  no : ∀ n ∈ ["NoneType", "bool", "int", "str", "list", "tuple", "dict"], PySem.W.kitOne K (.type n) (.ref C) = some false
def spEq (K : PySem.W.Frag) (C : Addr) : Sp := fun vs H Q _ => ∃ x dx da df ds ka kf ks y, vs = [.ref x, y] ∧ RA C H x dx da df ds ka kf ks ∧
  ((∃ n, Mc.TyB K H y n ∧ Q (.bl false) H) ∨ (∃ y' dy la lf ls ja jf js, y = .ref y' ∧ RA C H y' dy la lf ls ja jf js ∧ GR ka ∧ GR kf ∧ GR ks ∧ GR ja ∧ GR jf ∧ GR js ∧ ∀ H', Same H H' → Q (.bl (dEqs [ka, kf, ks] [ja, jf, js])) H'))
theorem ok_eq {C f : Addr} {fd : FuncData} (F : Fun K "__eq__" "Rows.__eq__" s_Rowseq f fd) (T : Txt K mg) (TC : CTxt K C) (IC : ICls K C) (gP : mg "Rows" = some (.ref C)) (m_rows : Mth P w K mg base 1 C "_rows" (spRl C)) :
    FnOk P w K mg base CX0 2 f fd ["self", "other"] (spEq K C) := by
  refine F.ok sc_Rowseq (fun vs H Q E h => ?_) (fun cdv A outer s H vs Q E hr h => ?_)
  · obtain ⟨x, dx, da, df, ds, ka, kf, ks, y, rfl, _⟩ := h
    rfl
  · obtain ⟨x, dx, da, df, ds, ka, kf, ks, y, rfl, R, h⟩ := h
    refine ⟨_, (pss_one (ps_ret (pe_and (pe_callB call_isi (by rfl) T.n_isinstance (by decide +kernel) (pa_cons (pv 1) (pa_cons (pe_gx (v := .ref C) rfl ⟨_, gP, rfl⟩) pa_nil))) (pe_one (pe_cmpR (op_eqLD hr.units) (pe_m0 m_rows hr (by decide) (pv 0)) (pe_m0 m_rows hr (by decide) (pv 1)) (nomark _)))))), ?_⟩
    walk_at "rd"
    rcases h with ⟨n, ty, k⟩ | ⟨y', dy, la, lf, ls, ja, jf, js, rfl, R', g1, g2, g3, g4, g5, g6, k⟩
    · refine ⟨y, .ref C, .type n, .ref C, false, rfl, .own C, ty.x, IC.no n ty.mem, ?_⟩
      walk_at "rd"
      exact k
    · refine ⟨.ref y', .ref C, .ref C, .ref C, true, rfl, .own C, .base (.ins R'.x TC.cl IC.ha IC.hn IC.tk IC.hm), IC.me, ?_⟩
      walk_at "rd"
      refine ⟨x, dx, _, rfl, R.x, lk0, ?_⟩
      walk_at "rd"
      refine ⟨x, dx, da, df, ds, ka, kf, ks, rfl, R, fun r H1 S1 n1 hr1 => ?_⟩
      walk_at "rd"
      refine ⟨y', dy, _, rfl, S1 _ _ R'.x, lk0, ?_⟩
      walk_at "rd"
      refine ⟨y', dy, la, lf, ls, ja, jf, js, rfl, R'.ext S1, fun r' H2 S2 n2 hr2 => ?_⟩
      walk_at "rd"
      have A := R.ext (Same.trans S1 S2)
      have B := R'.ext (Same.trans S1 S2)
      refine ⟨r, r', [da, df, ds], [la, lf, ls], [ka, kf, ks], [ja, jf, js], rfl, rfl, SqL.of (S2 _ _ hr1), SqL.of hr2, .cons ⟨A.a, g1.ints⟩ (.cons ⟨A.f, g2.ints⟩ (.cons ⟨A.s, g3.ints⟩ .nil)), .cons ⟨B.a, g4.ints⟩ (.cons ⟨B.f, g5.ints⟩ (.cons ⟨B.s, g6.ints⟩ .nil)), rfl, ?_⟩
      exact k _ (Same.trans S1 S2)
end
end K2

namespace K2
open PySem PySem.Spec PyProof.Rows L2 Mc Mx
abbrev KL := List (Key × V)
theorem nodup_rev {α : Type} {l : List α} (h : l.Nodup) : l.reverse.Nodup := by
  unfold List.Nodup at h ⊢
  exact List.pairwise_reverse.mpr (h.imp fun z => Ne.symm z)
theorem mem_putK {kvs : KL} {k : Key} {v : V} {p : Key × V} (h : p ∈ putK kvs k v) : p ∈ kvs ∨ p = (k, v) := by
  unfold putK at h
  split at h
  · obtain ⟨q, hq, e⟩ := List.mem_map.mp h
    split at e
    · rename_i hk
      right
      rw [← e, hk]
    · left
      rw [← e]
      exact hq
  · rcases List.mem_append.mp h with h | h
    · exact .inl h
    · exact .inr (List.mem_singleton.mp h)
theorem putK_keys {kvs : KL} {k : Key} {v : V} (h : (valV kvs k).isSome = true) : (putK kvs k v).map (·.1) = kvs.map (·.1) := by
  unfold putK
  rw [valV_any, if_pos h, List.map_map]
  refine List.map_congr_left fun p _ => ?_
  show (if p.1 = k then (p.1, v) else p).1 = p.1
  split <;> rfl
theorem valV_none_mem {kvs : KL} {k : Key} (h : valV kvs k = none) : k ∉ kvs.map (·.1) := by
  induction kvs with
  | nil => exact List.not_mem_nil
  | cons p r ih =>
    intro m
    by_cases e : p.1 = k
    · rw [valV_pos e] at h
      cases h
    · rw [valV_neg e] at h
      rw [List.map_cons] at m
      rcases List.mem_cons.mp m with z | z
      · exact e z.symm
      · exact ih h z
theorem nodup_putK {kvs : KL} {k : Key} {v : V} (h : (kvs.map (·.1)).Nodup) : ((putK kvs k v).map (·.1)).Nodup := by
  cases e : valV kvs k with
  | some u => rw [putK_keys (by rw [e]; rfl)]; exact h
  | none =>
    rw [putK_new v e, List.map_append]
    refine List.nodup_append.mpr ⟨h, by simp, fun a ha b hb => ?_⟩
    have : b = k := by simpa using hb
    subst this
    intro z
    subst z
    exact valV_none_mem e ha
theorem merge_mem : ∀ (more acc : KL) {p : Key × V}, p ∈ mergeK acc more → p ∈ acc ∨ p ∈ more
  | [], acc, p, h => .inl h
  | q :: r, acc, p, h => by
    rcases merge_mem r (putK acc q.1 q.2) h with h | h
    · rcases mem_putK h with h | h
      · exact .inl h
      · exact .inr (by rw [h]; exact List.mem_cons_self)
    · exact .inr (List.mem_cons_of_mem _ h)
theorem merge_nodup : ∀ (more acc : KL), (acc.map (·.1)).Nodup → ((mergeK acc more).map (·.1)).Nodup
  | [], acc, h => h
  | q :: r, acc, h => merge_nodup r (putK acc q.1 q.2) (nodup_putK h)
theorem merge_len : ∀ (more acc : KL), (mergeK acc more).length ≤ acc.length + more.length
  | [], acc => Nat.le_refl _
  | q :: r, acc => by
    have h := merge_len r (putK acc q.1 q.2)
    have h2 := length_putK acc q.1 q.2
    show (mergeK (putK acc q.1 q.2) r).length ≤ acc.length + (r.length + 1)
    omega
theorem valV_none_of {kvs : KL} {k : Key} (h : k ∉ kvs.map (·.1)) : valV kvs k = none := by
  induction kvs with
  | nil => rfl
  | cons p r ih =>
    rw [List.map_cons, List.mem_cons, not_or] at h
    rw [valV_neg (fun z => h.1 z.symm)]
    exact ih h.2
theorem merge_app : ∀ (more acc : KL), ((acc ++ more).map (·.1)).Nodup → mergeK acc more = acc ++ more
  | [], acc, _ => (List.append_nil _).symm
  | q :: r, acc, h => by
    have hn : valV acc q.1 = none := valV_none_of fun m => by
      rw [List.map_append, List.map_cons] at h
      exact (List.nodup_append.mp h).2.2 _ m _ List.mem_cons_self rfl
    show mergeK (putK acc q.1 q.2) r = acc ++ q :: r
    rw [putK_new _ hn, show ((q.1, q.2) : Key × V) = q from rfl, merge_app r (acc ++ [q]) (by rw [List.append_assoc]; exact h), List.append_assoc]
    rfl
theorem merge_rev {k : KL} (h : (k.map (·.1)).Nodup) : mergeK [] k.reverse = k.reverse := by
  have := merge_app k.reverse [] (by rw [List.nil_append, List.map_reverse]; exact nodup_rev h)
  simpa using this
/-- a drawn row -/
structure DR (k : KL) : Prop where
  g : GR k
  len : k.length ≤ 5
  no : ∀ p ∈ k, ∃ i : Int, p.1 = .inl i ∧ 0 ≤ i ∧ i < 30
theorem pOk_int {i j : Int} (h : 0 ≤ i) : pOk (.inl i, .int j) = true := by
  show (decide (0 ≤ i) && true) = true
  rw [decide_eq_true h]
  rfl
theorem dr_merge {l : KL} (hl : l.length ≤ 5) (h : ∀ p ∈ l, ∃ i j : Int, p = (.inl i, .int j) ∧ 0 ≤ i ∧ i < 30) : DR (mergeK [] l) := by
  have hm : ∀ p ∈ mergeK [] l, ∃ i j : Int, p = (.inl i, .int j) ∧ 0 ≤ i ∧ i < 30 := fun p hp => by
    rcases merge_mem l [] hp with z | z
    · cases z
    · exact h p z
  have hn : (mergeK [] l).length ≤ 5 := by
    have := merge_len l []
    simp at this
    omega
  refine ⟨⟨List.all_eq_true.mpr fun p hp => ?_, by omega, merge_nodup l [] .nil⟩, hn, fun p hp => ?_⟩
  · obtain ⟨i, j, rfl, h0, _⟩ := hm p hp
    exact pOk_int h0
  · obtain ⟨i, j, rfl, h0, h1⟩ := hm p hp
    exact ⟨i, rfl, h0, h1⟩
theorem GR.rev {k : KL} (g : GR k) : GR k.reverse := ⟨by unfold rowOk; rw [List.all_reverse]; exact g.ok, by rw [List.length_reverse]; exact g.len, by rw [List.map_reverse]; exact nodup_rev g.nd⟩
theorem dEq_rev {k l : KL} : dEq k.reverse l = dEq k l := by
  unfold dEq
  rw [List.length_reverse, List.all_reverse]
theorem dEqs3 {a b c a' b' c' : KL} : dEqs [a, b, c] [a', b', c'] = (dEq a a' && (dEq b b' && dEq c c')) := by
  show (dEq a a' && (dEq b b' && (dEq c c' && true))) = _
  rw [Bool.and_true]
theorem DR.no40 {k : KL} (d : DR k) : valV k (.inl 40) = none := valV_none_of fun m => by
  obtain ⟨p, hp, e⟩ := List.mem_map.mp m
  obtain ⟨i, hi, _, h1⟩ := d.no p hp
  have e : p.1 = .inl 40 := e
  rw [hi] at e
  injection e with e
  omega
def bent (k : KL) : KL := putK k (.inl 40) (.int 1)
theorem DR.bent {k : KL} (d : DR k) : GR (bent k) := by
  unfold K2.bent
  rw [putK_new _ d.no40]
  refine ⟨?_, by rw [List.length_append]; have := d.len; show k.length + 1 ≤ 1000; omega, ?_⟩
  · unfold rowOk
    rw [List.all_append]
    show (rowOk k && _) = true
    rw [d.g.ok]
    rfl
  · have := nodup_putK (k := .inl 40) (v := .int 1) d.g.nd
    rw [putK_new _ d.no40] at this
    exact this
theorem dEq_bent {k : KL} (d : DR k) : dEq k.reverse (bent k) = false := by
  unfold dEq K2.bent
  rw [putK_new _ d.no40, decide_eq_false]
  · rfl
  · rw [List.length_reverse, List.length_append]
    show ¬ k.length = k.length + 1
    omega
theorem dEq_back {k : KL} (h : (k.map (·.1)).Nodup) : dEq k.reverse k = true := by
  rw [dEq_rev]
  exact dEq_refl h
theorem ivs_rev {k : KL} : ivs k.reverse = (ivs k).reverse := List.map_reverse ..
theorem great_mem {a b : KL} {m : Int} : m ∈ ivs a.reverse ++ ivs b.reverse ↔ m ∈ ivs a ++ ivs b := by
  rw [ivs_rev, ivs_rev, List.mem_append, List.mem_append, List.mem_reverse, List.mem_reverse]
end K2

namespace K2
open PySem PySem.Spec PyProof.Rows L2 Mc Mx
section
variable {P : Program} {w : World} {K : PySem.W.Frag} {mg : Str → Option Value} {base : Heap}
local macro_rules | `(tactic| walk_at "rd1") => `(tactic| first
  | with_reducible refine g_seq ?_
  | with_reducible refine g_asg ?_
  | with_reducible refine g_name ?_
  | with_reducible refine g_c ?_
  | with_reducible refine g_op ?_
  | with_reducible refine g_ifS ?_
  | with_reducible refine g_if ?_
  | with_reducible refine g_test ?_
  | with_reducible refine g_B ?_
  | with_reducible refine g_bl ?_
  | with_reducible refine g_blV ?_
  | with_reducible refine g_not ?_
  | with_reducible refine g_and ?_
  | with_reducible refine g_or ?_
  | with_reducible refine g_notV ?_
  | with_reducible refine g_andV ?_
  | with_reducible refine g_orV ?_
  | with_reducible refine g_ret ?_
  | with_reducible refine g_drop ?_
  | with_reducible refine g_next ?_
  | with_reducible refine g_retN ?_
  | with_reducible refine g_call ?_
  | with_reducible refine g_cb ?_
  | with_reducible refine g_cons ?_
  | with_reducible refine g_nil ?_
  | with_reducible refine g_tup ?_
  | with_reducible refine g_lst ?_
  | with_reducible refine g_prop ?_
  | with_reducible refine g_fld ?_
  | with_reducible refine g_meth ?_
  | with_reducible refine g_chain ?_
  | with_reducible refine g_yes ?_
  | with_reducible refine g_make ?_
  | with_reducible refine g_makeK ?_
  | with_reducible refine g_gsub ?_
  | with_reducible refine g_sfld ?_
  | with_reducible refine g_un ?_
  | with_reducible refine g_bm ?_
  | with_reducible refine g_iteT ?_
  | with_reducible refine g_iteF ?_
  | with_reducible refine g_I0 ?_
  | with_reducible refine g_add ?_
  | with_reducible refine g_sub ?_
  | ((with_reducible refine' g_var ?hv ?_); (case hv => rfl))
  | ((with_reducible refine g_eq ?hv ?_); (case hv => rfl))
  | ((with_reducible refine g_ne ?hv ?_); (case hv => rfl)))
local macro_rules | `(tactic| walk_at "rd") => `(tactic| repeat (walk_at "rd1"))

local macro_rules | `(tactic| walk_at "ty") => `(tactic| first | exact .non | exact .bl _ | exact .int _ | exact .str _ | exact .lst (by assumption) | exact .tup (by assumption) | exact .dK (by assumption) | exact .kTup (by assumption) (by assumption))
local macro_rules | `(tactic| walk_at "isiF") => `(tactic| refine g_isi (by walk_at "ty") (b := false) (by decide +kernel) ?_)
local macro_rules | `(tactic| walk_at "isiT") => `(tactic| refine g_isi (by walk_at "ty") (b := true) (by decide +kernel) ?_)

def PoolAt (H : Hp) (p : Addr) : Prop := ∃ c z : Int, H p = some (.lst [.int c, .int z]) ∧ 0 ≤ c ∧ 0 ≤ z ∧ z < 2147483647
theorem PoolAt.ext {p : Addr} {H H' : Hp} (h : PoolAt H p) (e : Same H H') : PoolAt H' p := by
  obtain ⟨c, z, h1, h2⟩ := h
  exact ⟨c, z, e _ _ h1, h2⟩
theorem PoolAt.not {p a : Addr} {H : Hp} {o : HO} (h : PoolAt H p) (e : H a = some o) (n : ∀ xs, o ≠ .lst xs) : a ≠ p := by
  obtain ⟨c, z, h1, _⟩ := h
  intro q
  rw [q, h1] at e
  exact n _ (Option.some.inj e).symm
theorem Sx.free {p a : Addr} {H H' : Hp} (pl' : PoolAt H' p) (e : Sx p H H') (h : H' a = none) : H a = none := by
  cases q : H a with
  | none => rfl
  | some o =>
    by_cases ha : a = p
    · obtain ⟨c, z, h1, _⟩ := pl'
      rw [ha, h1] at h
      cases h
    · rw [e a o ha q] at h
      cases h

def spPool (K : PySem.W.Frag) : Sp := fun vs H Q _ => ∃ (a : Addr) (k : Int) (ns : List Int), vs = [.ref a, .int k] ∧ SqL K H a (ns.map V.int) ∧ 0 ≤ k ∧ k ≤ 100 ∧ ∀ p H', H p = none → Same H H' → PoolAt H' p → Q (.ref p) H'
theorem ok_pool (T : Txt K mg) (D : Def K mg "_law_pool" s_law_pool ["_law_script", "_law_k"]) : Cal P w K mg base 1 "_law_pool" (spPool K) := by
  refine cal_of D sc_law_pool (fun vs H Q E h => ?_) (fun f cdv A outer s H vs Q E hr h => ?_)
  · obtain ⟨a, k, ns, rfl, _⟩ := h
    rfl
  · obtain ⟨a, k, ns, rfl, sq, k0, k1, q⟩ := h
    have hk1 : 7919 * k ≤ 791900 := by omega
    have hk2 : (7919 * k) * k ≤ 791900 * 100 := Int.mul_le_mul hk1 k1 k0 (by decide)
    have hk3 : 0 ≤ (7919 * k) * k := Int.mul_nonneg (by omega) k0
    refine ⟨_, (pss_cons (ps_set (i := 2) sc_law_pool.nd rfl (Or.inl rfl) pe_int)
      (pss_cons (ps_if (pt_cmpR op_lt (pv 1) (pe_callB call_len_seq (by rfl) T.n_len (by decide +kernel) (pa_cons (pv 0) pa_nil)) (nomark _)) (pss_one (ps_set (i := 2) sc_law_pool.nd rfl (Or.inl rfl) (pe_ix ix_list (pv 0) (pv 1) (fun _ _ => rfl)))) pss_nil)
      (pss_cons (ps_set (i := 3) sc_law_pool.nd rfl (Or.inl rfl) (pe_op op_mod (pe_op op_pow (pe_op op_add (pe_op op_add (pe_op op_mod (pe_callTy call_int1 (by rfl) T.n_int (by decide +kernel) (pa_cons (pv 2) pa_nil)) pe_int) (pe_op op_mul (pe_op op_mul pe_int (pv 1)) (pv 1))) pe_int) pe_int) pe_int))
      (pss_cons (ps_if (pt_cmpR op_lt (pv 2) (pe_op op_pow pe_int pe_int) (nomark _)) (pss_one (ps_set (i := 2) sc_law_pool.nd rfl (Or.inl rfl) pe_int)) pss_nil)
      (pss_one (ps_ret (pe_lst (pa_cons (pv 2) (pa_cons (pv 3) pa_nil))))))))), ?_⟩
    walk_at "rd"
    refine ⟨a, _, rfl, .inl sq, ?_⟩
    walk_at "rd"
    refine g_ite (fun e => ?_) (fun e => ?_)
    · have hk : k < ((ns.map V.int).length : Int) := of_decide_eq_true e
      have hk' : k.toNat < ns.length := by rw [List.length_map] at hk; omega
      walk_at "rd"
      refine g_ixL sq (v := .int ns[k.toNat]) (at_of (j := k.toNat) (by omega) (by rw [List.getElem?_map, List.getElem?_eq_getElem hk']; rfl)) ?_
      generalize ns[k.toNat] = c
      walk_at "rd"
      refine .inl ⟨_, rfl, ?_⟩
      walk_at "rd"
      refine g_I (show (0 : Int) < 2147483629 by decide) ?_
      walk_at "rd"
      refine g_I (.inl ⟨by decide, by decide⟩) ?_
      walk_at "rd"
      refine g_I (.inl ⟨by omega, by omega⟩) ?_
      walk_at "rd"
      refine g_I ⟨by decide, by decide, by omega⟩ ?_
      walk_at "rd"
      refine g_I (show (0 : Int) < 2147483647 by decide) ?_
      walk_at "rd"
      refine g_I ⟨by decide, by decide, by decide⟩ ?_
      walk_at "rd"
      refine g_ite (fun e2 => ?_) (fun e2 => ?_)
      · walk_at "rd"
        refine ⟨(by show 2 ≤ sizeLine; decide), fun p hp => ?_⟩
        refine q p _ hp (same_new hp) ⟨0, _, upd_same, by decide, Int.emod_nonneg _ (by decide), Int.emod_lt_of_pos _ (by decide)⟩
      · walk_at "rd"
        refine ⟨(by show 2 ≤ sizeLine; decide), fun p hp => ?_⟩
        have e3 := of_decide_eq_false e2
        refine q p _ hp (same_new hp) ⟨_, _, upd_same, ?_, Int.emod_nonneg _ (by decide), Int.emod_lt_of_pos _ (by decide)⟩
        exact Int.le_trans (by decide) (Int.not_lt.mp e3)
    · walk_at "rd"
      walk_at "rd"
      refine .inl ⟨_, rfl, ?_⟩
      walk_at "rd"
      refine g_I (show (0 : Int) < 2147483629 by decide) ?_
      walk_at "rd"
      refine g_I (.inl ⟨by decide, by decide⟩) ?_
      walk_at "rd"
      refine g_I (.inl ⟨by omega, by omega⟩) ?_
      walk_at "rd"
      refine g_I ⟨by decide, by decide, by omega⟩ ?_
      walk_at "rd"
      refine g_I (show (0 : Int) < 2147483647 by decide) ?_
      walk_at "rd"
      refine g_I ⟨by decide, by decide, by decide⟩ ?_
      walk_at "rd"
      refine g_ite (fun e2 => ?_) (fun e2 => ?_)
      · walk_at "rd"
        refine ⟨(by show 2 ≤ sizeLine; decide), fun p hp => ?_⟩
        refine q p _ hp (same_new hp) ⟨0, _, upd_same, by decide, Int.emod_nonneg _ (by decide), Int.emod_lt_of_pos _ (by decide)⟩
      · walk_at "rd"
        refine ⟨(by show 2 ≤ sizeLine; decide), fun p hp => ?_⟩
        have e3 := of_decide_eq_false e2
        refine q p _ hp (same_new hp) ⟨_, _, upd_same, ?_, Int.emod_nonneg _ (by decide), Int.emod_lt_of_pos _ (by decide)⟩
        exact Int.le_trans (by decide) (Int.not_lt.mp e3)

def spDraw : Sp := fun vs H Q _ => ∃ (p : Addr) (m : Int), vs = [.ref p, .int m] ∧ PoolAt H p ∧ 1 ≤ m ∧ m ≤ 1000000 ∧ ∀ (r : Int) H', 0 ≤ r → r < m → PoolAt H' p → Sx p H H' → Q (.int r) H'
theorem ok_draw (T : Txt K mg) (D : Def K mg "_law_draw" s_law_draw ["_law_pool_here", "_law_many"]) : Cal P w K mg base 1 "_law_draw" spDraw := by
  refine cal_of D sc_law_draw (fun vs H Q E h => ?_) (fun f cdv A outer s H vs Q E hr h => ?_)
  · obtain ⟨p, m, rfl, _⟩ := h
    rfl
  · obtain ⟨p, m, rfl, ⟨c, z, hp, hc, hz, hz2⟩, m0, m1, q⟩ := h
    refine ⟨_, (pss_cons (ps_if (pt_cmpR op_gt (pe_ix ix_list (pv 0) pe_int (fun _ _ => rfl)) pe_int (nomark _)) (pss_cons (ps_set (i := 2) sc_law_draw.nd rfl (Or.inl rfl) (pe_op op_mod (pe_callTy call_int1 (by rfl) T.n_int (by decide +kernel) (pa_cons (pe_ix ix_list (pv 0) pe_int (fun _ _ => rfl)) pa_nil)) (pv 1)))
      (pss_cons (ps_asg (pe_op op_fdiv (pe_ix ix_list (pv 0) pe_int (fun _ _ => rfl)) (pv 1)) (pg_sub (pv 0) pe_int set_list))
      (pss_one (ps_ret (pv 2))))) pss_nil)
      (pss_cons (ps_asg (pe_op op_mod (pe_callTy call_int1 (by rfl) T.n_int (by decide +kernel) (pa_cons (pe_op op_add (pe_op op_mul (pe_ix ix_list (pv 0) pe_int (fun _ _ => rfl)) pe_int) pe_int) pa_nil)) pe_int) (pg_sub (pv 0) pe_int set_list))
      (pss_one (ps_ret (pe_op op_mod (pe_op op_fdiv (pe_op op_mod (pe_callTy call_int1 (by rfl) T.n_int (by decide +kernel) (pa_cons (pe_op op_mul (pe_ix ix_list (pv 0) pe_int (fun _ _ => rfl)) (pe_ix ix_list (pv 0) pe_int (fun _ _ => rfl))) pa_nil)) pe_int) pe_int) (pv 1)))))), ?_⟩
    walk_at "rd"
    refine g_ixL (SqL.of hp) (v := .int c) (atI_nat (j := 0) rfl) ?_
    walk_at "rd"
    refine g_ite (fun e => ?_) (fun e => ?_)
    · have cp : 0 < c := of_decide_eq_true e
      walk_at "rd"
      refine g_ixL (SqL.of hp) (v := .int c) (atI_nat (j := 0) rfl) ?_
      walk_at "rd"
      refine .inl ⟨_, rfl, ?_⟩
      walk_at "rd"
      refine g_I (show (0 : Int) < m by omega) ?_
      walk_at "rd"
      refine g_ixL (SqL.of hp) (v := .int c) (atI_nat (j := 0) rfl) ?_
      walk_at "rd"
      refine g_I (⟨by omega, by omega⟩ : CDiv _ _) ?_
      walk_at "rd"
      refine ⟨p, _, 0, 0, rfl, rfl, hp, rfl, ?_⟩
      walk_at "rd"
      refine q (c % m) _ (Int.emod_nonneg _ (by omega)) (Int.emod_lt_of_pos _ (by omega)) ⟨c / m, z, upd_same, Int.ediv_nonneg hc (by omega), hz, hz2⟩ sx_upd
    · walk_at "rd"
      refine g_ixL (SqL.of hp) (v := .int z) (atI_nat (j := 1) rfl) ?_
      walk_at "rd"
      refine g_I (.inl ⟨by omega, by omega⟩) ?_
      walk_at "rd"
      refine .inl ⟨_, rfl, ?_⟩
      walk_at "rd"
      refine g_I (show (0 : Int) < 2147483647 by decide) ?_
      walk_at "rd"
      refine ⟨p, _, 1, 1, rfl, rfl, hp, rfl, ?_⟩
      have y0 : 0 ≤ (z * 48271 + 11) % 2147483647 := Int.emod_nonneg _ (by decide)
      have y1 : (z * 48271 + 11) % 2147483647 < 2147483647 := Int.emod_lt_of_pos _ (by decide)
      generalize (z * 48271 + 11) % 2147483647 = y at y0 y1 ⊢
      walk_at "rd"
      refine g_ixL (SqL.of upd_same) (v := .int y) (atI_nat (j := 1) rfl) ?_
      walk_at "rd"
      refine g_ixL (SqL.of upd_same) (v := .int y) (atI_nat (j := 1) rfl) ?_
      walk_at "rd"
      refine g_I (.inl ⟨by omega, by omega⟩) ?_
      walk_at "rd"
      refine .inl ⟨_, rfl, ?_⟩
      walk_at "rd"
      refine g_I (show (0 : Int) < 2147483629 by decide) ?_
      walk_at "rd"
      refine g_I (⟨by decide, by decide⟩ : CDiv _ _) ?_
      walk_at "rd"
      refine g_I (show (0 : Int) < m by omega) ?_
      walk_at "rd"
      exact q _ _ (Int.emod_nonneg _ (by omega)) (Int.emod_lt_of_pos _ (by omega)) ⟨c, y, upd_same, hc, y0, y1⟩ sx_upd

theorem paired_app {α β : Type} {G : α → β → Prop} : ∀ {xs ys : List α} {us vs : List β}, Paired G xs us → Paired G ys vs → Paired G (xs ++ ys) (us ++ vs)
  | _, _, _, _, .nil, h => h
  | _, _, _, _, .cons h t, k => .cons h (paired_app t k)
def spDrawn : Sp := fun vs H Q _ => ∃ p : Addr, vs = [.ref p] ∧ PoolAt H p ∧ ∀ d H' k, H d = none → PoolAt H' p → Sx p H H' → H' d = some (.dK k) → DR k → Q (.ref d) H'
theorem ok_drawn (T : Txt K mg) (D : Def K mg "_law_drawn" s_law_drawn ["_law_pool_here"]) (c_law_draw : Cal P w K mg base 1 "_law_draw" spDraw) : Cal P w K mg base 2 "_law_drawn" spDrawn := by
  refine cal_of D sc_law_drawn (fun vs H Q E h => ?_) (fun f cdv A outer s H vs Q E hr h => ?_)
  · obtain ⟨p, rfl, _⟩ := h
    rfl
  · obtain ⟨p, rfl, pl, q⟩ := h
    refine ⟨_, (pss_one (ps_ret (pe_callTy (call_dictP rfl) (by rfl) T.n_dict (by decide +kernel) (pa_cons (pe_lc (own := [("_law_turn", 1)]) (g := gName 1) (by rfl) sc_law_drawn.nd (pi_range1 (by rfl) T.n_range (pa_cons (pe_f c_law_draw hr (by decide) (by rfl) (pa_cons (pv 0) (pa_cons pe_int pa_nil))) pa_nil)) (blkOk_by (own := [("_law_turn", 1)]) (N := N_law_drawn) (sc := defScope s_law_drawn) (by decide +kernel)) (fun _ _ _ _ _ => pg_name (i := 1) sc_law_drawn.nd rfl (Or.inl rfl)) (fun _ _ _ _ _ => pts_nil) (fun _ _ _ _ _ => (pe_tup (pa_cons (pe_f c_law_draw hr (by decide) (by rfl) (pa_cons (pv 0) (pa_cons pe_int pa_nil))) (pa_cons (pe_op op_sub (pe_f c_law_draw hr (by decide) (by rfl) (pa_cons (pv 0) (pa_cons pe_int pa_nil))) pe_int) pa_nil))))) pa_nil)))), ?_⟩
    walk_at "rd"
    refine g_irng ?_
    walk_at "rd"
    refine ⟨p, 5, rfl, pl, by decide, by decide, fun r H1 r0 r1 pl1 S1 => ?_⟩
    walk_at "rd"
    refine ⟨r, rfl, by omega, by omega, fun L hL => ?_⟩
    have hLp : L ≠ p := fun z => by
      obtain ⟨c, y, h1, _⟩ := pl1
      rw [z, h1] at hL
      cases hL
    refine lc_it walk_range (fun i H' => ∃ (ps : List Addr) (kvs : KL), ps.length = i ∧ H' L = some (.lst (ps.map V.ref)) ∧ Paired (fun t kv => H' t = some (.tup [kV kv.1, kv.2])) ps kvs ∧ (∀ kv ∈ kvs, ∃ i j : Int, kv = (.inl i, .int j) ∧ 0 ≤ i ∧ i < 30) ∧ PoolAt H' p ∧ Sx p H1 H')
      ⟨[], [], rfl, upd_same, .nil, (fun z hz => nomatch hz), pl1.ext (same_new hL), Same.sx (same_new hL)⟩ (fun _ _ _ _ => True.intro) ?_ ?_
    · rintro i x H2 H3 hi ⟨ps, kvs, hn, hL2, hp, hk, pl2, S2⟩ ⟨rfl, rfl⟩
      walk_at "rd"
      refine ⟨rfl, ?_⟩
      walk_at "rd"
      refine ⟨p, 30, rfl, pl2, by decide, by decide, fun a H4 a0 a1 pl4 S4 => ?_⟩
      walk_at "rd"
      refine ⟨p, 40, rfl, pl4, by decide, by decide, fun b H5 b0 b1 pl5 S5 => ?_⟩
      walk_at "rd"
      refine tup_go (by show 2 ≤ 1000; decide) fun t H6 nt S6 ht => ?_
      have S := (S4.trans S5).trans (Same.sx S6)
      have pl6 := pl5.ext S6
      have hL6 := S _ _ hLp hL2
      have tL : t ≠ L := fun z => by rw [z, hL6] at ht; cases ht
      refine ⟨_, hL6, by rw [List.length_map, hn]; exact small1000 (by omega), ps ++ [t], kvs ++ [(.inl a, .int (b - 9))], by rw [List.length_append, hn]; rfl, by rw [upd_same, List.map_append]; rfl, ?_, ?_, ?_, ?_⟩
      · have old : Paired (fun u kv => (upd H6 L (.lst (ps.map V.ref ++ [.ref t]))) u = some (.tup [kV kv.1, kv.2])) ps kvs := L2.Paired.mapP hp fun u kv hu => by
          have h6 := S u _ (pl2.not hu (by intro _ k; cases k)) hu
          have uL : u ≠ L := fun z => by rw [z, hL6] at h6; cases h6
          rw [upd_ne uL]
          exact h6
        exact paired_app old (.cons (by rw [upd_ne tL]; exact ht) .nil)
      · intro kv hkv
        rcases List.mem_append.mp hkv with z | z
        · exact hk kv z
        · rw [List.mem_singleton.mp z]
          exact ⟨a, b - 9, rfl, a0, a1⟩
      · obtain ⟨c, y, h1, h2⟩ := pl6
        exact ⟨c, y, by rw [upd_ne hLp.symm]; exact h1, h2⟩
      · intro b o hb hbo
        have bL : b ≠ L := fun z => by rw [z, hL] at hbo; cases hbo
        rw [upd_ne bL]
        exact S _ _ hb (S2 _ _ hb hbo)
    · rintro H2 ⟨ps, kvs, hn, hL2, hp, hk, pl2, S2⟩
      walk_at "rd"
      have hl : kvs.length ≤ 5 := by rw [← Paired.length hp]; omega
      refine ⟨L, ps, kvs, rfl, SqL.of hL2, L2.Paired.mapP hp fun t kv ht => SqT.of ht, fun d hd => ?_⟩
      exact q d _ _ (Sx.free pl2 (S1.trans S2) hd) (pl2.ext (same_new hd)) ((S1.trans S2).trans (Same.sx (same_new hd))) upd_same (dr_merge hl hk)
end
end K2

namespace Mx
open PySem PySem.Spec PyProof.Rows L2 Mc
section
variable {X : Cx} {CX : CXT} {k : Nat} {f C : Addr} {fd : FuncData} {ps : List Str} {sp : Sp} {E : L2.St → XK} {x : Str} {p pos : Pos} {e : Expr} {es : List Expr} {t : TA}
def tMakeS (C : Addr) (sp : Sp) (E : L2.St → XK) (t : TA) : TE := fun σ H Q => tMake C sp [] (E σ) t σ H Q
theorem run_makeS {pl : List (Addr × Obj)} {τ : L2.St} {G : Hp} {z : Shared} {R : VK} {EE : XK} {ua : List Value} {va : List V} (M : Mk X.K C f) (F : FnOk X.prog X.w X.K X.mg X.base CX k f fd ps sp) (room : Room (k + 1) X.A) (bd : Binds X.K fd ps []) (pass : PassesAt CX X τ EE)
    (I : Inv X pl τ G z) (ra : Vals va ua)
    (want : ∀ a da, G a = none → G da = none → da ≠ a → sp (.ref a :: va) (upd (upd G da (.own a)) a (.ins C da [])) (fun v G2 => v = .non ∧ R (.ref a) G2) EE) : wpAny (model X.prog X.w) X.A (call (.ref C) ua) (EP X pl τ R) X.xe z := by
  have q := want (z.heap.objs.size + 1) _ (I.hok.fresh (Nat.le_succ _)) (I.hok.fresh (Nat.le_refl _)) (Nat.ne_of_lt (Nat.lt_succ_self _))
  have J := Inv.made (C := C) I
  have rs : Vals (V.ref (z.heap.objs.size + 1) :: va) (Value.ref (z.heap.objs.size + 1) :: ua) := .cons rfl ra
  have hl : (Value.ref (z.heap.objs.size + 1) :: ua).length = ps.length := by
    rw [← rs.length]
    exact F.len _ _ _ _ q
  have bb := bd _ (Value.ref (z.heap.objs.size + 1) :: ua) J.kIn (by rw [List.append_nil]; exact hl)
  rw [List.append_nil] at bb
  have runs := F.run _ X.stack _ _ ⟨Value.ref (z.heap.objs.size + 1) :: ua, []⟩ _ _ _ EE (room.make C ua []) (J.env0.make C ua []) bb rs q
  refine wpAny_call (make_map (f := f) I.kIn M.makes M.init (beq_iff_eq.mp M.fn) (codeAny_mono runs fun res z2 hz => ?_))
  match res, hz with
  | .error e, hz => exact pass pl _ _ e z2 J hz
  | .ok (.ret u), hz =>
    obtain ⟨v, G2, J2, rv, ev, qq⟩ := J.after hz
    rw [ev] at rv
    exact ⟨rv, V.ref (z.heap.objs.size + 1), G2, J2, rfl, qq⟩
theorem pe_makeS (M : Mk X.K C f) (F : FnOk X.prog X.w X.K X.mg X.base CX k f fd ps sp) (room : Room (k + 1) X.A) (hg : Gl X x) (hm : X.mg x = some (.ref C)) (bd : Binds X.K fd ps []) (pass : ∀ σ, PassesAt CX X σ (E σ)) (pa : PA X (e :: es) t)
    (h3 : (x == ("__debug__" : Str)) = false := by decide) (he : starEach (e :: es) X.env = (false, eval e X.env) :: starEach es X.env := by rfl) (hpl : (backTo pos (starEach es X.env)).any (·.1) = false := by rfl) :
    PE X (.Call (.Name x p) (e :: es) [] pos) (tMakeS C sp E t) :=
  ⟨fun pl z τ G R I q => wpAny_Call_Name_kw (ld_glob I hg hm (PySem.W.callWith_K (h₀ := X.base) I.ok.mod.kin M.kp (thn (pa.run pos pl z τ G _ I q) fun ua z1 ⟨va, G1, I1, ra, q1⟩ => ⟨I1.kIn, by
    refine run_makeS M F room bd (pass τ) I1 ra fun a da h1 h2 h3 => ?_
    have q2 := q1 a da h1 h2 h3
    rw [List.append_nil] at q2
    exact q2⟩) he hpl) h3)⟩
end
end Mx
namespace K2
open PySem PySem.Spec PyProof.Rows L2 Mc Mx
section
variable {P : Program} {w : World} {K : PySem.W.Frag} {mg : Str → Option Value} {base : Heap}
local macro_rules | `(tactic| walk_at "rd1") => `(tactic| first
  | with_reducible refine g_seq ?_
  | with_reducible refine g_asg ?_
  | with_reducible refine g_name ?_
  | with_reducible refine g_c ?_
  | with_reducible refine g_op ?_
  | with_reducible refine g_ifS ?_
  | with_reducible refine g_if ?_
  | with_reducible refine g_test ?_
  | with_reducible refine g_B ?_
  | with_reducible refine g_bl ?_
  | with_reducible refine g_blV ?_
  | with_reducible refine g_not ?_
  | with_reducible refine g_and ?_
  | with_reducible refine g_or ?_
  | with_reducible refine g_notV ?_
  | with_reducible refine g_andV ?_
  | with_reducible refine g_orV ?_
  | with_reducible refine g_ret ?_
  | with_reducible refine g_drop ?_
  | with_reducible refine g_next ?_
  | with_reducible refine g_retN ?_
  | with_reducible refine g_call ?_
  | with_reducible refine g_cb ?_
  | with_reducible refine g_cons ?_
  | with_reducible refine g_nil ?_
  | with_reducible refine g_tup ?_
  | with_reducible refine g_lst ?_
  | with_reducible refine g_prop ?_
  | with_reducible refine g_fld ?_
  | with_reducible refine g_meth ?_
  | with_reducible refine g_chain ?_
  | with_reducible refine g_yes ?_
  | with_reducible refine g_make ?_
  | with_reducible refine g_makeK ?_
  | with_reducible refine g_gsub ?_
  | with_reducible refine g_sfld ?_
  | with_reducible refine g_un ?_
  | with_reducible refine g_bm ?_
  | with_reducible refine g_iteT ?_
  | with_reducible refine g_iteF ?_
  | with_reducible refine g_I0 ?_
  | with_reducible refine g_add ?_
  | with_reducible refine g_sub ?_
  | ((with_reducible refine' g_var ?hv ?_); (case hv => rfl))
  | ((with_reducible refine g_eq ?hv ?_); (case hv => rfl))
  | ((with_reducible refine g_ne ?hv ?_); (case hv => rfl)))
local macro_rules | `(tactic| walk_at "rd") => `(tactic| repeat (walk_at "rd1"))

local macro_rules | `(tactic| walk_at "ty") => `(tactic| first | exact .non | exact .bl _ | exact .int _ | exact .str _ | exact .lst (by assumption) | exact .tup (by assumption) | exact .dK (by assumption) | exact .kTup (by assumption) (by assumption))
local macro_rules | `(tactic| walk_at "isiF") => `(tactic| refine g_isi (by walk_at "ty") (b := false) (by decide +kernel) ?_)
local macro_rules | `(tactic| walk_at "isiT") => `(tactic| refine g_isi (by walk_at "ty") (b := true) (by decide +kernel) ?_)

theorem same_ins {H : Hp} {x dx C : Addr} (nx : H x = none) (nd : H dx = none) : Same H (upd (upd H dx (.own x)) x (.ins C dx [])) := fun b o e => by
  rw [upd_ne (ne_of_none e nx), upd_ne (ne_of_none e nd)]; exact e
theorem g_mkS {C : Addr} {sp : Sp} {E : L2.St → XK} {t : TA} {σ : L2.St} {H : Hp} {Q : VK} (q : tMake C sp [] (E σ) t σ H Q) : tMakeS C sp E t σ H Q := q
theorem g_xf {a : Addr} {cls : Value} {d : Option Addr} {C : Addr} {f : Str} {te : TE} {σ : L2.St} {H : Hp} {Q : VK} (q : te σ H fun x H1 => x = .ref a ∧ cls = .ref C ∧ ∃ (dd : Addr) (fs : List (Str × V)) (v : V), d = some dd ∧ H1 dd = some (.xd fs) ∧ fs.lookup f = some v ∧ Q v H1) : tXf a cls d C f te σ H Q := q
def spTold (P : Program) (w : World) (K : PySem.W.Frag) : Sp := fun vs H Q _ => ∃ (r : Addr) (xs : List V) (a f s : V) (ba bf bs : Bool) (z : Str), vs = [.ref r] ∧ SqL K H r xs ∧ xs[0]? = some a ∧ xs[1]? = some f ∧ xs[2]? = some s ∧ RowV K H a ba ∧ RowV K H f bf ∧ RowV K H s bs ∧ (ba && (bf && bs)) = false ∧
  ShowsX P w K H (pick3 a f s ba bf) z ∧ ∀ H', Same H H' → Q (.str z) H'
theorem ok_told {C CR fI fR : Addr} {fdI fdR : FuncData} (D : Def K mg "_law_told" s_law_told ["_law_some"]) (T : Txt K mg) (M : Mk K C fI) (gP : mg "Rows" = some (.ref C)) (bI : Binds K fdI psR [])
    (GI : FnOk P w K mg base (CX P w) 4 fI fdI psR (fun vs H Q E => spRows C vs H Q E ∨ spBad K C CR vs H Q E))
    (ER : ExK P w K mg base "InvalidRows" CR fR fdR ["self", "value"] (spEx CR "value"))
    (XR : XfC K CR) (nfR : PySem.W.findIn K (.ref CR) "value" = some none) (xRR : PySem.W.exmOne K (.ref CR) (.ref CR) = some true) : CalG P w K mg base 6 "_law_told" (spTold P w K) := by
  refine calG_of D sc_law_told (fun vs H Q E h => ?_) (fun fn cdv A outer s H vs Q E hg hr h => ?_)
  · obtain ⟨r, xs, a, f, s, ba, bf, bs, z, rfl, _⟩ := h
    rfl
  · obtain ⟨r, xs, a, f, s', ba, bf, bs, z, rfl, hrow, x0, x1, x2, ra, rf, rs, hb, hsh, q⟩ := h
    have hrI : Room 5 (A.deeper (envOfC "_law_told" (defScope s_law_told) s.heap.objs.size fn cdv)) := hr
    have hu : (A.deeper (envOfC "_law_told" (defScope s_law_told) s.heap.objs.size fn cdv)).units + 64 < cLine := hr.units
    have hg : (A.deeper (envOfC "_law_told" (defScope s_law_told) s.heap.objs.size fn cdv)).guards = some [] := hg
    refine ⟨_, (pss_one (ps_try_mas rfl rfl sc_law_told.nd takes_none5 (fun W pn xe tk _ => (pss_cons (ps_expr (pe_makeS M GI hrI (by rfl) gP bI (fun σ => passAt tk σ) (pa_cons (pe_ix (ix_listK (K := K) rfl) (pv 0) pe_int (fun _ _ => rfl)) (pa_cons (pe_ix (ix_listK (K := K) rfl) (pv 0) pe_int (fun _ _ => rfl)) (pa_cons (pe_ix (ix_listK (K := K) rfl) (pv 0) pe_int (fun _ _ => rfl)) pa_nil)))))
      (pss_one (ps_ret pe_str)))) (.cons (i := 1) rfl rfl ⟨rfl, by decide, .inl ER.gl⟩ (fun a oe cls d pn hz hf => (pss_one (ps_ret (pe_callB (call_reprX (P := P) (w := w) (K := K) hg hu rfl rfl rfl) (by rfl) T.n_repr (by decide +kernel) (pa_cons (pe_xf XR nfR hz hf (pv 1)) pa_nil))))) .nil))), ?_⟩
    walk_at "rd"
    refine g_mkS ?_
    walk_at "rd"
    refine g_ixL hrow (v := a) (atI_nat (j := 0) x0) ?_
    walk_at "rd"
    refine g_ixL hrow (v := f) (atI_nat (j := 1) x1) ?_
    walk_at "rd"
    refine g_ixL hrow (v := s') (atI_nat (j := 2) x2) ?_
    walk_at "rd"
    have S0 : ∀ {x dx : Addr}, H x = none → H dx = none → Same H (upd (upd H dx (.own x)) x (.ins C dx [])) := fun nx nd => same_ins (C := C) nx nd
    intro x dx nx nd ne
    have S0 := S0 nx nd
    refine .inr ⟨x, dx, a, f, s', ba, bf, bs, rfl, upd_same, ra.ext S0, rf.ext S0, rs.ext S0, hb, fun d H' S hd => ?_⟩
    refine ⟨true, xRR, fun _ a' ha => ?_, fun z => nomatch z⟩
    walk_at "rd"
    refine g_xf ?_
    walk_at "rd"
    refine ⟨rfl, rfl, d, _, _, rfl, hd, rfl, ?_⟩
    walk_at "rd"
    refine ⟨_, z, rfl, hsh.ext (Same.trans S0 S), ?_⟩
    walk_at "rd"
    exact q H' (Same.trans S0 S)
end
end K2

namespace K2
open PySem PySem.Spec PyProof.Rows L2 Mc Mx
def rDictP (K : PySem.W.Frag) : List V → Hp → VK → Prop := fun xs H Q => ∃ (a : Addr) (ps : List Addr) (kvs : List (Key × V)), xs = [.ref a] ∧ SqL K H a (ps.map V.ref) ∧ Paired (fun p kv => SqT K H p [kV kv.1, kv.2]) ps kvs ∧ ∀ p, H p = none → Q (.ref p) (upd H p (.dK (mergeK [] kvs)))
theorem call_dictPK {X : Cx} {K : PySem.W.Frag} (hK : X.K = K) (hc : X.calm = true) : CallR X (.type "dict") (rDictP K) := by
  subst hK
  exact call_dictP hc
def rDictC : List V → Hp → VK → Prop := fun xs H Q => ∃ (a : Addr) (kvs : KL), xs = [.ref a] ∧ Rd H a (.dK kvs) ∧ ∀ p, H p = none → Q (.ref p) (upd H p (.dK kvs))
theorem call_dictD {X : Cx} : CallR X (.type "dict") rDictC := call_dictC
theorem pe_revLK {X : Cx} {K : PySem.W.Frag} {e : Expr} {te : TE} {k : Nat} {p1 p2 p3 pos : Pos} (hK : X.K = K) (he : PE X e te) : PE X (.Subscript e (.Slice none none (some (.UnaryOp .USub (.Constant (.int 1) k p1) p2)) p3) pos) (tRevL K te) := by
  subst hK
  exact pe_revL he
def kbG (us ws : List Value) : List Value := us ++ ws.reverse
def kbV (us ws : List V) : List V := us ++ ws.reverse
section
variable {P : Program} {w : World} {K : PySem.W.Frag} {mg : Str → Option Value} {base : Heap} {x0 x1 x2 x3 x4 x5 x6 x7 x8 x9 x10 x11 x12 x13 : Option V}
local macro_rules | `(tactic| walk_at "rd1") => `(tactic| first
  | with_reducible refine g_seq ?_
  | with_reducible refine g_asg ?_
  | with_reducible refine g_name ?_
  | with_reducible refine g_c ?_
  | with_reducible refine g_op ?_
  | with_reducible refine g_ifS ?_
  | with_reducible refine g_if ?_
  | with_reducible refine g_test ?_
  | with_reducible refine g_B ?_
  | with_reducible refine g_bl ?_
  | with_reducible refine g_blV ?_
  | with_reducible refine g_not ?_
  | with_reducible refine g_and ?_
  | with_reducible refine g_or ?_
  | with_reducible refine g_notV ?_
  | with_reducible refine g_andV ?_
  | with_reducible refine g_orV ?_
  | with_reducible refine g_ret ?_
  | with_reducible refine g_drop ?_
  | with_reducible refine g_next ?_
  | with_reducible refine g_retN ?_
  | with_reducible refine g_call ?_
  | with_reducible refine g_cb ?_
  | with_reducible refine g_cons ?_
  | with_reducible refine g_nil ?_
  | with_reducible refine g_tup ?_
  | with_reducible refine g_lst ?_
  | with_reducible refine g_prop ?_
  | with_reducible refine g_fld ?_
  | with_reducible refine g_meth ?_
  | with_reducible refine g_chain ?_
  | with_reducible refine g_yes ?_
  | with_reducible refine g_make ?_
  | with_reducible refine g_makeK ?_
  | with_reducible refine g_gsub ?_
  | with_reducible refine g_sfld ?_
  | with_reducible refine g_un ?_
  | with_reducible refine g_bm ?_
  | with_reducible refine g_iteT ?_
  | with_reducible refine g_iteF ?_
  | with_reducible refine g_I0 ?_
  | with_reducible refine g_add ?_
  | with_reducible refine g_sub ?_
  | ((with_reducible refine' g_var ?hv ?_); (case hv => rfl))
  | ((with_reducible refine g_eq ?hv ?_); (case hv => rfl))
  | ((with_reducible refine g_ne ?hv ?_); (case hv => rfl)))
local macro_rules | `(tactic| walk_at "rd") => `(tactic| repeat (walk_at "rd1"))

local macro_rules | `(tactic| walk_at "ty") => `(tactic| first | exact .non | exact .bl _ | exact .int _ | exact .str _ | exact .lst (by assumption) | exact .tup (by assumption) | exact .dK (by assumption) | exact .kTup (by assumption) (by assumption))
local macro_rules | `(tactic| walk_at "isiF") => `(tactic| refine g_isi (by walk_at "ty") (b := false) (by decide +kernel) ?_)
local macro_rules | `(tactic| walk_at "isiT") => `(tactic| refine g_isi (by walk_at "ty") (b := true) (by decide +kernel) ?_)

/-- a list of three dicts -/
structure L3 (H : Hp) (L d0 d1 d2 : Addr) (k0 k1 k2 : KL) : Prop where
  l : H L = some (.lst [.ref d0, .ref d1, .ref d2])
  a : H d0 = some (.dK k0)
  b : H d1 = some (.dK k1)
  c : H d2 = some (.dK k2)
theorem L3.ext {H H' : Hp} {L d0 d1 d2 : Addr} {k0 k1 k2 : KL} (e : Same H H') (h : L3 H L d0 d1 d2 k0 k1 k2) : L3 H' L d0 d1 d2 k0 k1 k2 := ⟨e _ _ h.l, e _ _ h.a, e _ _ h.b, e _ _ h.c⟩
theorem L3.sx {H H' : Hp} {p L d0 d1 d2 : Addr} {k0 k1 k2 : KL} (hp : L ≠ p) (pl : PoolAt H p) (e : Sx p H H') (h : L3 H L d0 d1 d2 k0 k1 k2) : L3 H' L d0 d1 d2 k0 k1 k2 :=
  ⟨e _ _ hp h.l, e _ _ (pl.not h.a (by intro _ k; cases k)) h.a, e _ _ (pl.not h.b (by intro _ k; cases k)) h.b, e _ _ (pl.not h.c (by intro _ k; cases k)) h.c⟩
theorem none_of_same {H H' : Hp} {b : Addr} (e : Same H H') (h : H' b = none) : H b = none := by
  cases q : H b with
  | none => rfl
  | some o => rw [e _ _ q] at h; cases h
theorem lc_drawn {H : Hp} {Q : VK} {p : Addr} (pl : PoolAt H p)
    (q : ∀ L d0 d1 d2 k0 k1 k2 H', Sx p H H' → PoolAt H' p → H L = none → L ≠ p → L3 H' L d0 d1 d2 k0 k1 k2 → DR k0 → DR k1 → DR k2 → Q (.ref L) H') :
    tLc (iRng1 (tCons (tC (.int 3)) tNil)) (gName 5) tYes (tCall spDrawn [] E0 (tCons (tVar 2) tNil)) [5] [x0, x1, some (.ref p), x3, x4, x5, x6, x7, x8, x9, x10, x11, x12, x13] H Q := by
  refine g_irng ?_
  walk_at "rd"
  refine ⟨3, rfl, by decide, by decide, fun L hL => ?_⟩
  have hLp : L ≠ p := fun z => by
    obtain ⟨c, y, h1, _⟩ := pl
    rw [z, h1] at hL
    cases hL
  refine lc_it walk_range (fun i H' => ∃ (ds : List Addr) (ks : List KL), ds.length = i ∧ H' L = some (.lst (ds.map V.ref)) ∧ Paired (fun d k => H' d = some (.dK k) ∧ DR k) ds ks ∧ PoolAt H' p ∧ Sx p H H')
    ⟨[], [], rfl, upd_same, .nil, pl.ext (same_new hL), Same.sx (same_new hL)⟩ (fun _ _ _ _ => True.intro) ?_ ?_
  · rintro i x H2 H3 hi ⟨ds, ks, hn, hL2, hp, pl2, S2⟩ ⟨rfl, rfl⟩
    walk_at "rd"
    refine ⟨rfl, ?_⟩
    walk_at "rd"
    refine ⟨p, rfl, pl2, fun d H4 k nd pl4 S4 hd dr => ?_⟩
    have hL4 := S4 _ _ hLp hL2
    have dL : d ≠ L := fun z => by rw [z, hL4] at hd; cases hd
    refine ⟨_, hL4, by rw [List.length_map, hn]; exact small1000 (Nat.le_trans (Nat.le_of_lt hi) (by decide)), ds ++ [d], ks ++ [k], by rw [List.length_append, hn]; rfl, by rw [upd_same, List.map_append]; rfl, ?_, ?_, ?_⟩
    · refine paired_app (L2.Paired.mapP hp fun u k' hu => ?_) (.cons ⟨by rw [upd_ne dL]; exact hd, dr⟩ .nil)
      have h4 := S4 u _ (pl2.not hu.1 (by intro _ k; cases k)) hu.1
      have uL : u ≠ L := fun z => by rw [z, hL4] at h4; cases h4
      exact ⟨by rw [upd_ne uL]; exact h4, hu.2⟩
    · obtain ⟨c, y, h1, h2⟩ := pl4
      exact ⟨c, y, by rw [upd_ne hLp.symm]; exact h1, h2⟩
    · intro b o hb hbo
      have bL : b ≠ L := fun z => by rw [z, hL] at hbo; cases hbo
      rw [upd_ne bL]
      exact S4 _ _ hb (S2 _ _ hb hbo)
  · rintro H2 ⟨ds, ks, hn, hL2, hp, pl2, S2⟩
    match ds, ks, hn, hp with
    | [d0, d1, d2], [k0, k1, k2], _, .cons h0 (.cons h1 (.cons h2 .nil)) =>
      exact q L d0 d1 d2 k0 k1 k2 H2 S2 pl2 hL hLp ⟨hL2, h0.1, h1.1, h2.1⟩ h0.2 h1.2 h2.2
theorem paired_rev {α β : Type} {G : α → β → Prop} : ∀ {xs : List α} {us : List β}, Paired G xs us → Paired G xs.reverse us.reverse
  | _, _, .nil => .nil
  | _, _, .cons h t => by
    rw [List.reverse_cons, List.reverse_cons]
    exact paired_app (paired_rev t) (.cons h .nil)
theorem g_revl {te : TE} {σ : L2.St} {H : Hp} {Q : VK} (q : te σ H fun x H1 => ∃ a xs, x = .ref a ∧ SqL K H1 a xs ∧ ∀ p, H1 p = none → Q (.ref p) (upd H1 p (.lst xs.reverse))) : tRevL K te σ H Q := q
theorem g_litems {te : TE} {σ : L2.St} {H : Hp} {Q : VK} (q : te σ H fun x H1 => LiI.rItemsL x H1 Q) : LiI.tListItems te σ H Q := q
theorem lc_of3 {H : Hp} {Q : VK} {L d0 d1 d2 : Addr} {k0 k1 k2 : KL} {te : TE} {ch : KL → KL} (h3 : L3 H L d0 d1 d2 k0 k1 k2) (g0 : GR k0) (g1 : GR k1) (g2 : GR k2)
    (step : ∀ (d : Addr) (k : KL) (H1 : Hp) (R : VK), H1 d = some (.dK k) → GR k → (∀ d' H2, H1 d' = none → Same H1 H2 → H2 d' = some (.dK (ch k)) → R (.ref d') H2) → te [x0, x1, x2, some (.ref L), x4, x5, x6, some (.ref d), x8, x9, x10, x11, x12, x13] H1 R)
    (q : ∀ M e0 e1 e2 H', Same H H' → H M = none → H e0 = none → H e1 = none → H e2 = none → e0 ≠ e1 → e0 ≠ e2 → e1 ≠ e2 → L3 H' M e0 e1 e2 (ch k0) (ch k1) (ch k2) → Q (.ref M) H') :
    tLc (iList K (tVar 3)) (gName 7) tYes te [7] [x0, x1, x2, some (.ref L), x4, x5, x6, x7, x8, x9, x10, x11, x12, x13] H Q := by
  refine g_ilist ?_
  walk_at "rd"
  refine ⟨L, rfl, ⟨_, SqL.of h3.l⟩, fun M hM => ?_⟩
  have hML : L ≠ M := fun z => by rw [← z, h3.l] at hM; cases hM
  refine lc_it (walk_list (K := K) (a := L) (xs := [.ref d0, .ref d1, .ref d2])) (fun i H' => ∃ (es : List Addr), es.length = i ∧ H' M = some (.lst (es.map V.ref)) ∧ Paired (fun e k => H' e = some (.dK (ch k)) ∧ H e = none) es ([k0, k1, k2].take i) ∧ es.Nodup ∧ Same H H')
    ⟨[], rfl, upd_same, .nil, .nil, same_new hM⟩ (fun i H' _ ⟨_, _, _, _, _, e⟩ => SqL.of (e _ _ h3.l)) ?_ ?_
  · rintro i x H2 H3 hi ⟨es, hn, hM2, hp, nd, S2⟩ ⟨rfl, hx⟩
    walk_at "rd"
    refine ⟨rfl, ?_⟩
    walk_at "rd"
    have hd : ∃ d k, x = .ref d ∧ H3 d = some (.dK k) ∧ GR k ∧ [k0, k1, k2][i]? = some k := by
      match i, hx with
      | 0, hx => cases hx; exact ⟨_, _, rfl, S2 _ _ h3.a, g0, rfl⟩
      | 1, hx => cases hx; exact ⟨_, _, rfl, S2 _ _ h3.b, g1, rfl⟩
      | 2, hx => cases hx; exact ⟨_, _, rfl, S2 _ _ h3.c, g2, rfl⟩
      | n + 3, hx => cases hx
    obtain ⟨d, k, rfl, hd, gk, hk⟩ := hd
    refine step d k H3 _ hd gk fun e H4 ne S4 he => ?_
    have hM4 := S4 _ _ hM2
    have eM : e ≠ M := fun z => by rw [z, hM4] at he; cases he
    refine ⟨_, hM4, by rw [List.length_map, hn]; exact small1000 (Nat.le_trans (Nat.le_of_lt hi) (show 3 ≤ 1000 by decide)), es ++ [e], by rw [List.length_append, hn]; rfl, by rw [upd_same, List.map_append]; rfl, ?_, ?_, ?_⟩
    · rw [List.take_add_one, hk]
      refine paired_app (L2.Paired.mapP hp fun u k' hu => ?_) (.cons ⟨by rw [upd_ne eM]; exact he, none_of_same S2 ne⟩ .nil)
      have h4 := S4 u _ hu.1
      have uM : u ≠ M := fun z => by rw [z, hM4] at h4; cases h4
      exact ⟨by rw [upd_ne uM]; exact h4, hu.2⟩
    · refine List.nodup_append.mpr ⟨nd, by simp, fun u hu v hv => ?_⟩
      have ev : v = e := by simpa using hv
      subst ev
      intro z
      subst z
      obtain ⟨j, k', _, _, hu⟩ := LiI.paired_ix hp hu
      rw [hu.1] at ne
      cases ne
    · intro b o hbo
      have bM : b ≠ M := fun z => by rw [z, hM] at hbo; cases hbo
      rw [upd_ne bM]
      exact S4 _ _ (S2 _ _ hbo)
  · rintro H2 ⟨es, hn, hM2, hp, nd, S2⟩
    have hp : Paired (fun e k => H2 e = some (.dK (ch k)) ∧ H e = none) es [k0, k1, k2] := hp
    match es, hp with
    | [e0, e1, e2], .cons h0 (.cons h1 (.cons h2 .nil)) =>
      simp only [List.nodup_cons, List.mem_cons, List.not_mem_nil, or_false, not_or] at nd
      exact q M e0 e1 e2 H2 S2 hM h0.2 h1.2 h2.2 nd.1.1 nd.1.2 nd.2.1 ⟨hM2, h0.1, h1.1, h2.1⟩
theorem step_handed {L : Addr} : ∀ (d : Addr) (k : KL) (H1 : Hp) (R : VK), H1 d = some (.dK k) → GR k → (∀ d' H2, H1 d' = none → Same H1 H2 → H2 d' = some (.dK k.reverse) → R (.ref d') H2) →
    tCB (rDictP K) (tCons (tRevL K (LiI.tListItems (tVar 7))) tNil) [x0, x1, x2, some (.ref L), x4, x5, x6, some (.ref d), x8, x9, x10, x11, x12, x13] H1 R := by
  intro d k H1 R hd gk q
  walk_at "rd"
  refine g_revl ?_
  refine g_litems ?_
  walk_at "rd"
  refine ⟨d, k, rfl, hd, fun H2 l ts S2 nl nts hl hl2 hp => ?_⟩
  refine ⟨l, _, rfl, SqL.of hl2, fun m nm => ?_⟩
  walk_at "rd"
  have S3 := same_new (o := .lst (ts.map V.ref).reverse) nm
  refine ⟨m, ts.reverse, k.reverse, rfl, SqL.of (by rw [upd_same, List.map_reverse]), paired_rev (L2.Paired.mapP hp fun t kv ht => SqT.of (S3 _ _ ht)), fun d' nd' => ?_⟩
  rw [merge_rev gk.nd]
  exact q d' _ (none_of_same (Same.trans S2 S3) nd') (Same.trans (Same.trans S2 S3) (same_new nd')) upd_same
theorem step_bent {L : Addr} : ∀ (d : Addr) (k : KL) (H1 : Hp) (R : VK), H1 d = some (.dK k) → GR k → (∀ d' H2, H1 d' = none → Same H1 H2 → H2 d' = some (.dK k) → R (.ref d') H2) →
    tCB rDictC (tCons (tVar 7) tNil) [x0, x1, x2, some (.ref L), x4, x5, x6, some (.ref d), x8, x9, x10, x11, x12, x13] H1 R := by
  intro d k H1 R hd gk q
  walk_at "rd"
  exact ⟨d, k, rfl, .inl hd, fun d' nd' => q d' _ nd' (same_new nd') upd_same⟩
end
end K2

namespace K2
open PySem PySem.Spec PyProof.Rows L2 Mc Mx
section
variable {P : Program} {w : World} {K : PySem.W.Frag} {mg : Str → Option Value} {base : Heap} {x0 x1 x2 x3 x4 x5 x6 x7 x8 x9 x10 x11 x12 x13 : Option V}
local macro_rules | `(tactic| walk_at "rd1") => `(tactic| first
  | with_reducible refine g_seq ?_
  | with_reducible refine g_asg ?_
  | with_reducible refine g_name ?_
  | with_reducible refine g_c ?_
  | with_reducible refine g_op ?_
  | with_reducible refine g_ifS ?_
  | with_reducible refine g_if ?_
  | with_reducible refine g_test ?_
  | with_reducible refine g_B ?_
  | with_reducible refine g_bl ?_
  | with_reducible refine g_blV ?_
  | with_reducible refine g_not ?_
  | with_reducible refine g_and ?_
  | with_reducible refine g_or ?_
  | with_reducible refine g_notV ?_
  | with_reducible refine g_andV ?_
  | with_reducible refine g_orV ?_
  | with_reducible refine g_ret ?_
  | with_reducible refine g_drop ?_
  | with_reducible refine g_next ?_
  | with_reducible refine g_retN ?_
  | with_reducible refine g_call ?_
  | with_reducible refine g_cb ?_
  | with_reducible refine g_cons ?_
  | with_reducible refine g_nil ?_
  | with_reducible refine g_tup ?_
  | with_reducible refine g_lst ?_
  | with_reducible refine g_prop ?_
  | with_reducible refine g_fld ?_
  | with_reducible refine g_meth ?_
  | with_reducible refine g_chain ?_
  | with_reducible refine g_yes ?_
  | with_reducible refine g_make ?_
  | with_reducible refine g_makeK ?_
  | with_reducible refine g_gsub ?_
  | with_reducible refine g_sfld ?_
  | with_reducible refine g_un ?_
  | with_reducible refine g_bm ?_
  | with_reducible refine g_iteT ?_
  | with_reducible refine g_iteF ?_
  | with_reducible refine g_I0 ?_
  | with_reducible refine g_add ?_
  | with_reducible refine g_sub ?_
  | ((with_reducible refine' g_var ?hv ?_); (case hv => rfl))
  | ((with_reducible refine g_eq ?hv ?_); (case hv => rfl))
  | ((with_reducible refine g_ne ?hv ?_); (case hv => rfl)))
local macro_rules | `(tactic| walk_at "rd") => `(tactic| repeat (walk_at "rd1"))

local macro_rules | `(tactic| walk_at "ty") => `(tactic| first | exact .non | exact .bl _ | exact .int _ | exact .str _ | exact .lst (by assumption) | exact .tup (by assumption) | exact .dK (by assumption) | exact .kTup (by assumption) (by assumption))
local macro_rules | `(tactic| walk_at "isiF") => `(tactic| refine g_isi (by walk_at "ty") (b := false) (by decide +kernel) ?_)
local macro_rules | `(tactic| walk_at "isiT") => `(tactic| refine g_isi (by walk_at "ty") (b := true) (by decide +kernel) ?_)

theorem g_par {σ : L2.St} {H : Hp} {D : Ends} {i j : Nat} {ta : TA} (q : ta σ H fun vs H1 => ∃ v w, vs = [v, w] ∧ D.nx ((σ.set i (some v)).set j (some w)) H1) : tPar i j ta D σ H := q
theorem g_sl {σ : L2.St} {H : Hp} {Q : VK} {r : V → Option Int → Option Int → Hp → VK → Prop} {te : TE} {tl th : TO} (q : te σ H fun x H1 => tl σ H1 fun l H2 => th σ H2 fun u H3 => r x l u H3 Q) : tSl r te tl th σ H Q := q
theorem g_nopart {σ : L2.St} {H : Hp} {Q : Option Int → Hp → Prop} (q : Q none H) : tNoPart σ H Q := q
theorem g_part {σ : L2.St} {H : Hp} {Q : Option Int → Hp → Prop} {t : TE} (q : t σ H fun x H1 => ∃ i, x = .int i ∧ Q (some i) H1) : tPart t σ H Q := q
theorem sl_go {H : Hp} {Q : VK} {a : Addr} {xs : List V} {lo hi : Option Int} (h : SqL K H a xs) (k : ∀ s H', Same H H' → H' s = some (.lst (cutV xs lo hi)) → Q (.ref s) H') : rSlL K (.ref a) lo hi H Q :=
  ⟨a, xs, rfl, h, fun p hp => k p _ (same_new hp) upd_same⟩
/-- a new Rows -/
theorem mk_go {C a f s : Addr} {ka kf ks : KL} {H : Hp} {Q : VK} {E : XK} (ha : H a = some (.dK ka)) (hf : H f = some (.dK kf)) (hs : H s = some (.dK ks)) (ga : GR ka) (gf : GR kf) (gs : GR ks)
    (q : ∀ x dx da df ds H', Same H H' → RA C H' x dx da df ds ka kf ks → H x = none → H da = none → H df = none → H ds = none → Q (.ref x) H') :
    ∀ x dx, H x = none → H dx = none → dx ≠ x → spRows C (.ref x :: ([V.ref a, .ref f, .ref s] ++ [])) (upd (upd H dx (.own x)) x (.ins C dx [])) (fun v H2 => v = .non ∧ Q (.ref x) H2) E := by
  intro x dx nx nd ne
  have S0 : Same H _ := same_ins (C := C) nx nd
  refine ⟨x, dx, a, f, s, ka, kf, ks, rfl, upd_same, S0 _ _ ha, S0 _ _ hf, S0 _ _ hs, ga, gf, gs, fun H' da df ds sx hx h1 h2 h3 n1 n2 n3 d1 d2 d3 => ⟨rfl, ?_⟩⟩
  refine q x dx da df ds H' (fun b o e => sx b o (fun z => by rw [z, nx] at e; cases e) (S0 _ _ e)) ⟨hx, h1, h2, h3⟩ nx (none_of_same S0 n1) (none_of_same S0 n2) (none_of_same S0 n3)
theorem cmp_rows {C : Addr} {neg : Bool} {H : Hp} {Q : VK} {x dx da df ds y dy la lf ls : Addr} {ka kf ks ja jf js : KL} (R : RA C H x dx da df ds ka kf ks) (R' : RA C H y dy la lf ls ja jf js) (g1 : GR ka) (g2 : GR kf) (g3 : GR ks) (g4 : GR ja) (g5 : GR jf) (g6 : GR js)
    (q : ∀ H', Same H H' → Q (.bl (if neg = true then !(dEqs [ka, kf, ks] [ja, jf, js]) else dEqs [ka, kf, ks] [ja, jf, js])) H') : rCmpO C (spEq K C) E0 K neg (.ref x) (.ref y) H Q :=
  ⟨x, dx, _, .ref C, rfl, R.x, .ins R'.x, nf_ins, x, dx, da, df, ds, ka, kf, ks, _, rfl, R, .inr ⟨y, dy, la, lf, ls, ja, jf, js, rfl, R', g1, g2, g3, g4, g5, g6, fun H' S => ⟨_, rfl, q H' S⟩⟩⟩
theorem cmp_lst {C : Addr} {neg : Bool} {H : Hp} {Q : VK} {x dx da df ds l : Addr} {ka kf ks : KL} {xs : List V} (R : RA C H x dx da df ds ka kf ks) (h : H l = some (.lst xs)) (q : Q (.bl (if neg = true then !false else false)) H) : rCmpO C (spEq K C) E0 K neg (.ref x) (.ref l) H Q :=
  ⟨x, dx, _, .type "list", rfl, R.x, .lst h, nf_list, x, dx, da, df, ds, ka, kf, ks, _, rfl, R, .inl ⟨_, .lst h, ⟨_, rfl, q⟩⟩⟩
theorem g_bm0 {T : String} {r : V → List V → Hp → VK → Prop} {te : TE} {σ : L2.St} {H : Hp} {Q : VK} (q : te σ H fun x H1 => tyV K T x H1 ∧ r x [] H1 Q) : tBM0 K T r te σ H Q := q
/-- one.clear() of each -/
theorem clr_for {D : Ends} {H : Hp} {L : Addr} {as : List Addr} (hL : H L = some (.lst (as.map V.ref))) (nL : L ∉ as) (hd : ∀ a ∈ as, ∃ k : KL, H a = some (.dK k))
    (q : ∀ y7 H', (∀ b o, b ∉ as → H b = some o → H' b = some o) → D.nx [x0, x1, x2, x3, x4, x5, x6, y7, x8, x9, x10, x11, x12, x13] H') :
    ForW (gName 7) (tDrop (tBM0 K "dict" rDClear (tVar 7))) D [x0, x1, x2, x3, x4, x5, x6, x7, x8, x9, x10, x11, x12, x13] (Itl K L) H := by
  unfold ForW
  refine for_list (K := K) (a := L) (xs := as.map V.ref) (fun i σ H' => (∃ y7, σ = [x0, x1, x2, x3, x4, x5, x6, y7, x8, x9, x10, x11, x12, x13]) ∧ (∀ b o, b ∉ as → H b = some o → H' b = some o) ∧ ∀ a ∈ as, ∃ k : KL, H' a = some (.dK k))
    ⟨⟨_, rfl⟩, (fun b o _ e => e), hd⟩ (fun i σ H' _ ⟨_, e, _⟩ => SqL.of (e _ _ nL hL)) ?_ ?_
  · rintro i x σ H' hx ⟨⟨y7, rfl⟩, e, hd'⟩
    obtain ⟨a, ha, rfl⟩ : ∃ a, as[i]? = some a ∧ V.ref a = x := by
      rw [List.getElem?_map] at hx
      exact Option.map_eq_some_iff.mp hx
    have hm := List.mem_of_getElem? ha
    obtain ⟨k, hk⟩ := hd' a hm
    walk_at "rd"
    refine g_bm0 ?_
    walk_at "rd"
    refine ⟨.inr (.inr (.inl ⟨rfl, .inl ⟨k, hk⟩⟩)), a, k, rfl, rfl, hk, ?_⟩
    refine ⟨⟨_, rfl⟩, fun b o hb hbo => ?_, fun b hb => ?_⟩
    · rw [upd_ne (fun z => hb (by rw [z]; exact hm))]
      exact e b o hb hbo
    · by_cases z : b = a
      · rw [z]
        exact ⟨[], upd_same⟩
      · obtain ⟨k', hk'⟩ := hd' b hb
        exact ⟨k', by rw [upd_ne z]; exact hk'⟩
  · rintro σ H' ⟨⟨y7, rfl⟩, e, _⟩
    exact q y7 H' e
/-- a thing that is no row, and what is shown of it -/
def BadZ (P : Program) (w : World) (K : PySem.W.Frag) (H : Hp) (v : V) (z : Str) : Prop := RowV K H v false ∧ ShowsX P w K H v z
def BadV (P : Program) (w : World) (K : PySem.W.Frag) (H : Hp) (v : V) : Prop := ∃ z, BadZ P w K H v z
theorem BadV.ext {H H' : Hp} {v : V} (e : Same H H') (h : BadV P w K H v) : BadV P w K H' v := h.elim fun z q => ⟨z, q.1.ext e, q.2.ext e⟩
theorem bad_d1 {H : Hp} {a : Addr} {k : Key} {v : V} (e : H a = some (.dK [(k, v)])) (l : isLf v = true) (r : rowOk [(k, v)] = false) (hs : (dD [(k, v)]).showable = true) (hp : (dD [(k, v)]).depth ≤ 40) (hz : (dD [(k, v)]).shown.length ≤ 1000) : BadV P w K H (.ref a) := by
  have q : RowV K H (.ref a) (rowOk [(k, v)]) := .dk e (fun p hp => by rw [List.mem_singleton.mp hp]; exact l) (by show 1 ≤ 1000; decide) (by simp)
  rw [r] at q
  exact ⟨_, q, .dk e (fun p hp => by rw [List.mem_singleton.mp hp]; exact l) hs hp (sz_le hz)⟩
theorem bad_odd {H : Hp} {a : Addr} {k v : V} (e : H a = some (oddD a k v)) (lk : isLf k = true) (nc : cntV k = false) (l : isLf v = true) (hs : (PyData.dict [(lfD k, lfD v)]).showable = true) (hz : (PyData.dict [(lfD k, lfD v)]).shown.length ≤ 1000) : BadV P w K H (.ref a) :=
  ⟨_, .odd e lk nc, .odd e lk l hs (sz_le hz)⟩
theorem d1_go {H : Hp} {σ : L2.St} {Q : VK} {tk tv : TE} {k : Key} {v : V} (ek : ∀ (H' : Hp) (R : VK), R (kV k) H' → tk σ H' R) (ev : ∀ (H' : Hp) (R : VK), R v H' → tv σ H' R) (q : ∀ p H', H p = none → Same H H' → H' p = some (.dK [(k, v)]) → Q (.ref p) H') : tDisp [(tk, tv)] σ H Q := by
  intro p hp
  refine ek _ _ (ev _ _ ?_)
  refine ⟨upd_same, [(k, v)], rfl, by show 1 ≤ 15; decide, ?_⟩
  refine q p _ hp ?_ upd_same
  rw [upd_upd]
  exact same_new hp
theorem odd_go {H : Hp} {σ : L2.St} {Q : VK} {tk tv : TE} {k v : V} (ek : ∀ (H' : Hp) (R : VK), R k H' → tk σ H' R) (ev : ∀ (H' : Hp) (R : VK), R v H' → tv σ H' R) (q : ∀ p H', H p = none → Same H H' → H' p = some (oddD p k v) → Q (.ref p) H') : tOdd k tk tv σ H Q := by
  intro p hp
  refine ek _ _ (ev _ _ ?_)
  refine ⟨rfl, upd_same, q p _ hp ?_ upd_same⟩
  rw [upd_upd]
  exact same_new hp
theorem told_bad {H : Hp} {Q : VK} {E : XK} {r L d0 d1 d2 : Addr} {k0 k1 k2 : KL} {i : Nat} {v : V} {z : Str} (hi : i < 3) (hr : H r = some (.lst ((cutV [.ref d0, .ref d1, .ref d2] none (some (i : Int)) ++ [v]) ++ [.non, .non])))
    (h3 : L3 H L d0 d1 d2 k0 k1 k2) (g0 : GR k0) (g1 : GR k1) (g2 : GR k2) (b : BadZ P w K H v z) (q : ∀ H', Same H H' → Q (.str z) H') : spTold P w K [.ref r] H Q E := by
  match i, hi, hr with
  | 0, _, hr => exact ⟨r, _, v, .non, .non, false, false, false, z, rfl, SqL.of hr, rfl, rfl, rfl, b.1, .no .non (by decide), .no .non (by decide), rfl, b.2, q⟩
  | 1, _, hr => exact ⟨r, _, .ref d0, v, .non, true, false, false, z, rfl, SqL.of hr, rfl, rfl, rfl, g0.row h3.a, b.1, .no .non (by decide), rfl, b.2, q⟩
  | 2, _, hr => exact ⟨r, _, .ref d0, .ref d1, v, true, true, false, z, rfl, SqL.of hr, rfl, rfl, rfl, g0.row h3.a, g1.row h3.b, b.1, rfl, b.2, q⟩
  | n + 3, h, _ => exact absurd h (by omega)
theorem cut_len {x y z : V} : ∀ i : Nat, i < 3 → (cutV [x, y, z] none (some (i : Int))).length ≤ 3
  | 0, _ => Nat.le_of_ble_eq_true rfl
  | 1, _ => Nat.le_of_ble_eq_true rfl
  | 2, _ => Nat.le_of_ble_eq_true rfl
  | n + 3, h => absurd h (by omega)
end
end K2

namespace K2
open PySem PySem.Spec PyProof.Rows L2 Mc Mx
section
variable {P : Program} {w : World} {K : PySem.W.Frag} {mg : Str → Option Value} {base : Heap} {x0 x1 x2 x3 x4 x5 x6 x7 x8 x9 x10 x11 x12 x13 : Option V}
local macro_rules | `(tactic| walk_at "rd1") => `(tactic| first
  | with_reducible refine g_seq ?_
  | with_reducible refine g_asg ?_
  | with_reducible refine g_name ?_
  | with_reducible refine g_c ?_
  | with_reducible refine g_op ?_
  | with_reducible refine g_ifS ?_
  | with_reducible refine g_if ?_
  | with_reducible refine g_test ?_
  | with_reducible refine g_B ?_
  | with_reducible refine g_bl ?_
  | with_reducible refine g_blV ?_
  | with_reducible refine g_not ?_
  | with_reducible refine g_and ?_
  | with_reducible refine g_or ?_
  | with_reducible refine g_notV ?_
  | with_reducible refine g_andV ?_
  | with_reducible refine g_orV ?_
  | with_reducible refine g_ret ?_
  | with_reducible refine g_drop ?_
  | with_reducible refine g_next ?_
  | with_reducible refine g_retN ?_
  | with_reducible refine g_call ?_
  | with_reducible refine g_cb ?_
  | with_reducible refine g_cons ?_
  | with_reducible refine g_nil ?_
  | with_reducible refine g_tup ?_
  | with_reducible refine g_lst ?_
  | with_reducible refine g_prop ?_
  | with_reducible refine g_fld ?_
  | with_reducible refine g_meth ?_
  | with_reducible refine g_chain ?_
  | with_reducible refine g_yes ?_
  | with_reducible refine g_make ?_
  | with_reducible refine g_makeK ?_
  | with_reducible refine g_gsub ?_
  | with_reducible refine g_sfld ?_
  | with_reducible refine g_un ?_
  | with_reducible refine g_bm ?_
  | with_reducible refine g_iteT ?_
  | with_reducible refine g_iteF ?_
  | with_reducible refine g_I0 ?_
  | with_reducible refine g_add ?_
  | with_reducible refine g_sub ?_
  | ((with_reducible refine' g_var ?hv ?_); (case hv => rfl))
  | ((with_reducible refine g_eq ?hv ?_); (case hv => rfl))
  | ((with_reducible refine g_ne ?hv ?_); (case hv => rfl)))
local macro_rules | `(tactic| walk_at "rd") => `(tactic| repeat (walk_at "rd1"))

local macro_rules | `(tactic| walk_at "ty") => `(tactic| first | exact .non | exact .bl _ | exact .int _ | exact .str _ | exact .lst (by assumption) | exact .tup (by assumption) | exact .dK (by assumption) | exact .kTup (by assumption) (by assumption))
local macro_rules | `(tactic| walk_at "isiF") => `(tactic| refine g_isi (by walk_at "ty") (b := false) (by decide +kernel) ?_)
local macro_rules | `(tactic| walk_at "isiT") => `(tactic| refine g_isi (by walk_at "ty") (b := true) (by decide +kernel) ?_)

theorem eqv_nil (ns : List Int) : PyData.eqv (.list (ns.map PyData.int)) (.list []) = decide (ns = []) := by
  cases ns with
  | nil => rfl
  | cons n r => rfl
theorem canAll_ints : ∀ ns : List Int, PyData.canLayAll0 (ns.map PyData.int) = true
  | [] => rfl
  | n :: r => by
    have ih := canAll_ints r
    simp [PyData.canLayAll0, PyData.canLay0, ih]
theorem shaped_ints (ns : List Int) (_ : ns.length ≤ 10000) : SeqAt.shaped (.list (ns.map PyData.int)) = true := by
  unfold SeqAt.shaped
  have h1 : (PyData.list (ns.map PyData.int)).canLay0 = true := by
    have := canAll_ints ns
    simp [PyData.canLay0, this]
  have h2 : (PyData.list (ns.map PyData.int)).depth ≤ 64 := by
    have := depth_ints ns
    show PyData.depthAll (ns.map PyData.int) + 1 ≤ 64
    omega
  rw [h1, decide_eq_true h2]
  rfl
theorem great_cmp {C : Addr} {H : Hp} {Q : VK} {x dx da df ds l : Addr} {k0 k1 k2 : KL} (R : RA C H x dx da df ds k0.reverse k1.reverse k2.reverse) (g0 : GR k0) (g1 : GR k1) (hl : H l = some (.lst ((ivs k0 ++ ivs k1).map V.int)))
    (q : ∀ H', Same H H' → Q (.bl false) H') :
    tOp rNe (tMeth C "greatest" (spMax C) [] E0 (tVar 8) tNil) (tIf (tTest (tOp (rNeD K) (tVar 9) (tLst tNil))) (tCB (rMax K) (tCons (tVar 9) tNil)) (tC V.non))
      [x0, x1, x2, x3, x4, x5, x6, x7, some (.ref x), some (.ref l), x10, x11, x12, x13] H Q := by
  walk_at "rd"
  refine ⟨x, dx, _, rfl, R.x, lk00, ?_⟩
  walk_at "rd"
  have hsh : SeqAt.shaped (.list ((ivs k0 ++ ivs k1).map PyData.int)) = true := shaped_ints _ (by
    have := g0.len
    have := g1.len
    rw [List.length_append]
    unfold ivs
    rw [List.length_map, List.length_map]
    omega)
  refine ⟨x, dx, da, df, ds, _, _, _, rfl, R, g0.rev, g1.rev, fun z H1 S1 => ?_, fun m hm hle H1 S1 => ?_⟩
  · have e : ivs k0 ++ ivs k1 = [] := by
      cases h : ivs k0 ++ ivs k1 with
      | nil => rfl
      | cons n r =>
        have hm : n ∈ ivs k0.reverse ++ ivs k1.reverse := great_mem.mpr (by rw [h]; exact List.mem_cons_self)
        rw [z] at hm
        cases hm
    walk_at "rd"
    refine lst_go ?hl fun e1 H2 _ S2 he => ?_
    case hl => exact Nat.zero_le _
    walk_at "rd"
    refine ⟨_, .list [], .lst (SqL.of (S2 _ _ (S1 _ _ hl))) (dpAll_ints _), .lst (SqL.of he) .nil, hsh, rfl, ?_⟩
    rw [eqv_nil, decide_eq_true e]
    refine ⟨_, rfl, ?_⟩
    show (if false = true then _ else _)
    walk_at "rd"
    exact q _ (Same.trans S1 S2)
  · have hm' := great_mem.mp hm
    have e : ¬ (ivs k0 ++ ivs k1 = []) := fun z => by rw [z] at hm'; cases hm'
    walk_at "rd"
    refine lst_go ?hl fun e1 H2 _ S2 he => ?_
    case hl => exact Nat.zero_le _
    walk_at "rd"
    refine ⟨_, .list [], .lst (SqL.of (S2 _ _ (S1 _ _ hl))) (dpAll_ints _), .lst (SqL.of he) .nil, hsh, rfl, ?_⟩
    rw [eqv_nil, decide_eq_false e]
    refine ⟨_, rfl, ?_⟩
    show (if true = true then _ else _)
    walk_at "rd"
    refine ⟨l, _, rfl, SqL.of (S2 _ _ (S1 _ _ hl)), List.length_pos_of_mem hm', fun m' h1 h2 => ?_⟩
    have em : m = m' := Int.le_antisymm (h2 m hm') (hle m' (great_mem.mpr h1))
    subst em
    refine ⟨rfl, ?_⟩
    rw [decide_eq_true (Eq.refl _)]
    exact q _ (Same.trans S1 S2)
theorem put_bent {H : Hp} {M b0 b1 b2 : Addr} {k0 k1 k2 : KL} {i : Nat} (hi : i < 3) (h : L3 H M b0 b1 b2 k0 k1 k2) (e01 : b0 ≠ b1) (e02 : b0 ≠ b2) (e12 : b1 ≠ b2) (r0 : DR k0) (r1 : DR k1) (r2 : DR k2) :
    ∃ (b : Addr) (kb m0 m1 m2 : KL), atI [V.ref b0, .ref b1, .ref b2] (i : Int) = some (.ref b) ∧ H b = some (.dK kb) ∧ kb.length < sizeLine ∧ L3 (upd H b (.dK (putK kb (.inl 40) (.int 1)))) M b0 b1 b2 m0 m1 m2 ∧ GR m0 ∧ GR m1 ∧ GR m2 ∧
      dEqs [k0.reverse, k1.reverse, k2.reverse] [m0, m1, m2] = false ∧ (b = b0 ∨ b = b1 ∨ b = b2) := by
  have lt : ∀ {k : KL}, DR k → k.length < sizeLine := fun r => small1000 r.g.len
  have n0 : M ≠ b0 := fun z => by have := h.l; rw [z, h.a] at this; cases this
  have n1 : M ≠ b1 := fun z => by have := h.l; rw [z, h.b] at this; cases this
  have n2 : M ≠ b2 := fun z => by have := h.l; rw [z, h.c] at this; cases this
  match i, hi with
  | 0, _ =>
    refine ⟨b0, k0, bent k0, k1, k2, rfl, h.a, lt r0, ⟨by rw [upd_ne n0]; exact h.l, upd_same, by rw [upd_ne e01.symm]; exact h.b, by rw [upd_ne e02.symm]; exact h.c⟩, r0.bent, r1.g, r2.g, ?_, .inl rfl⟩
    rw [dEqs3, dEq_bent r0]
    rfl
  | 1, _ =>
    refine ⟨b1, k1, k0, bent k1, k2, rfl, h.b, lt r1, ⟨by rw [upd_ne n1]; exact h.l, by rw [upd_ne e01]; exact h.a, upd_same, by rw [upd_ne e12.symm]; exact h.c⟩, r0.g, r1.bent, r2.g, ?_, .inr (.inl rfl)⟩
    rw [dEqs3, dEq_bent r1, Bool.false_and, Bool.and_false]
  | 2, _ =>
    refine ⟨b2, k2, k0, k1, bent k2, rfl, h.c, lt r2, ⟨by rw [upd_ne n2]; exact h.l, by rw [upd_ne e02]; exact h.a, by rw [upd_ne e12]; exact h.b, upd_same⟩, r0.g, r1.g, r2.bent, ?_, .inr (.inr rfl)⟩
    rw [dEqs3, dEq_bent r2, Bool.and_false, Bool.and_false]
  | n + 3, h => exact absurd h (by omega)
theorem oddT_go {H : Hp} {σ : L2.St} {Q : VK} (q : ∀ p H', H p = none → Same H H' → H' p = some (.dT [([.inl 1], .int 1)]) → Q (.ref p) H') : tOddT (tTup (tCons (tC (V.int 1)) tNil)) (tC (V.int 1)) σ H Q := by
  intro p hp
  refine ⟨by show 1 ≤ sizeLine; decide, fun t ht => ?_⟩
  have tp : p ≠ t := fun z => by rw [← z, upd_same] at ht; cases ht
  refine ⟨t, [.inl 1], rfl, upd_same, by rw [upd_ne tp]; exact upd_same, ?_⟩
  refine q p _ hp (fun b o hb => ?_) upd_same
  have bp : b ≠ p := ne_of_none hb hp
  have bt : b ≠ t := fun z => by rw [← z, upd_ne bp, hb] at ht; cases ht
  rw [upd_ne bp, upd_ne bt, upd_ne bp]
  exact hb
theorem bad_all {H : Hp} {t1 u1 t2 t3 t4 t5 t6 t7 t8 t9 t10 : Addr} (h1 : H t1 = some (.lst [])) (hu : H u1 = some (.tup [.int 1, .int 1])) (h2 : H t2 = some (.lst [.ref u1])) (h3 : H t3 = some (.dK [(.inl (-1), .int 2)])) (h4 : H t4 = some (oddD t4 (.bl true) (.int 2)))
    (h5 : H t5 = some (.dK [(.inr "1", .int 2)])) (h6 : H t6 = some (oddD t6 .non (.int 1))) (h7 : H t7 = some (.dK [(.inl 1, .non)])) (h8 : H t8 = some (.dK [(.inl 1, .bl true)])) (h9 : H t9 = some (.dK [(.inl 2, .str "5")])) (h10 : H t10 = some (.dT [([.inl 1], .int 1)])) :
    ∀ v ∈ [V.non, .int 5, .ref t1, .ref t2, .ref t3, .ref t4, .ref t5, .ref t6, .ref t7, .ref t8, .ref t9, .ref t10], BadV P w K H v := by
  intro v hv
  simp only [List.mem_cons, List.not_mem_nil, or_false] at hv
  rcases hv with rfl | rfl | rfl | rfl | rfl | rfl | rfl | rfl | rfl | rfl | rfl | rfl
  · exact ⟨_, .no .non (by decide), .old .non⟩
  · exact ⟨_, .no (.int 5) (by decide), .old (.int (by decide +kernel))⟩
  · exact ⟨_, .no (.lst h1) (by decide), .old (.ref (d := .list []) (.lst (SqL.of h1) .nil) (by decide +kernel) (by decide +kernel) (by decide +kernel) (sz_le (by decide +kernel)))⟩
  · exact ⟨_, .no (.lst h2) (by decide), .old (.ref (d := .list [.tuple [.int 1, .int 1]]) (.lst (SqL.of h2) (.cons (.tup (SqT.of hu) (.cons (.int 1) (.cons (.int 1) .nil))) .nil)) (by decide +kernel) (by decide +kernel) (by decide +kernel) (sz_le (by decide +kernel)))⟩
  · exact bad_d1 h3 rfl (by decide +kernel) (by decide +kernel) (by decide +kernel) (by decide +kernel)
  · exact bad_odd h4 rfl rfl rfl (by decide +kernel) (by decide +kernel)
  · exact bad_d1 h5 rfl (by decide +kernel) (by decide +kernel) (by decide +kernel) (by decide +kernel)
  · exact bad_odd h6 rfl rfl rfl (by decide +kernel) (by decide +kernel)
  · exact bad_d1 h7 rfl (by decide +kernel) (by decide +kernel) (by decide +kernel) (by decide +kernel)
  · exact bad_d1 h8 rfl (by decide +kernel) (by decide +kernel) (by decide +kernel) (by decide +kernel)
  · exact bad_d1 h9 rfl (by decide +kernel) (by decide +kernel) (by decide +kernel) (by decide +kernel)
  · exact ⟨_, .dT h10, .dT h10 rfl (by decide +kernel) (by decide +kernel) (sz_le (by decide +kernel))⟩
end
end K2

namespace K2
open PySem PySem.Spec PyProof.Rows L2 Mc Mx
section
variable {P : Program} {w : World} {K : PySem.W.Frag} {mg : Str → Option Value} {base : Heap}
local macro_rules | `(tactic| walk_at "rd1") => `(tactic| first
  | with_reducible refine g_seq ?_
  | with_reducible refine g_asg ?_
  | with_reducible refine g_name ?_
  | with_reducible refine g_c ?_
  | with_reducible refine g_op ?_
  | with_reducible refine g_ifS ?_
  | with_reducible refine g_if ?_
  | with_reducible refine g_test ?_
  | with_reducible refine g_B ?_
  | with_reducible refine g_bl ?_
  | with_reducible refine g_blV ?_
  | with_reducible refine g_not ?_
  | with_reducible refine g_and ?_
  | with_reducible refine g_or ?_
  | with_reducible refine g_notV ?_
  | with_reducible refine g_andV ?_
  | with_reducible refine g_orV ?_
  | with_reducible refine g_ret ?_
  | with_reducible refine g_drop ?_
  | with_reducible refine g_next ?_
  | with_reducible refine g_retN ?_
  | with_reducible refine g_call ?_
  | with_reducible refine g_cb ?_
  | with_reducible refine g_cons ?_
  | with_reducible refine g_nil ?_
  | with_reducible refine g_tup ?_
  | with_reducible refine g_lst ?_
  | with_reducible refine g_prop ?_
  | with_reducible refine g_fld ?_
  | with_reducible refine g_meth ?_
  | with_reducible refine g_chain ?_
  | with_reducible refine g_yes ?_
  | with_reducible refine g_make ?_
  | with_reducible refine g_makeK ?_
  | with_reducible refine g_gsub ?_
  | with_reducible refine g_sfld ?_
  | with_reducible refine g_un ?_
  | with_reducible refine g_bm ?_
  | with_reducible refine g_iteT ?_
  | with_reducible refine g_iteF ?_
  | with_reducible refine g_I0 ?_
  | with_reducible refine g_add ?_
  | with_reducible refine g_sub ?_
  | ((with_reducible refine' g_var ?hv ?_); (case hv => rfl))
  | ((with_reducible refine g_eq ?hv ?_); (case hv => rfl))
  | ((with_reducible refine g_ne ?hv ?_); (case hv => rfl)))
local macro_rules | `(tactic| walk_at "rd") => `(tactic| repeat (walk_at "rd1"))

local macro_rules | `(tactic| walk_at "ty") => `(tactic| first | exact .non | exact .bl _ | exact .int _ | exact .str _ | exact .lst (by assumption) | exact .tup (by assumption) | exact .dK (by assumption) | exact .kTup (by assumption) (by assumption))
local macro_rules | `(tactic| walk_at "isiF") => `(tactic| refine g_isi (by walk_at "ty") (b := false) (by decide +kernel) ?_)
local macro_rules | `(tactic| walk_at "isiT") => `(tactic| refine g_isi (by walk_at "ty") (b := true) (by decide +kernel) ?_)

theorem sqL_ext {H H' : Hp} {a : Addr} {xs : List V} (e : Same H H') (h : SqL K H a xs) : SqL K H' a xs := by
  rcases h with (h | ⟨o, h⟩) | h
  · exact .inl (.inl (e _ _ h))
  · exact .inl (.inr ⟨o, e _ _ h⟩)
  · exact .inr h
theorem pr_go {C : Addr} {H : Hp} {Q : VK} {E : XK} {x dx da df ds d : Addr} {ka kf ks k : KL} {fld : Str} (R : RA C H x dx da df ds ka kf ks) (lk : (rfs da df ds).lookup fld = some (.ref d)) (hd : H d = some (.dK k)) (q : ∀ c H', H c = none → Same H H' → H' c = some (.dK k) → Q (.ref c) H') :
    ∃ a dx fs, V.ref x = .ref a ∧ H a = some (.ins C dx fs) ∧ spGet C fld (.ref a :: []) H Q E :=
  ⟨x, dx, _, rfl, R.x, x, dx, d, _, k, rfl, R.x, lk, hd, fun c nc => q c _ nc (same_new nc) upd_same⟩
def StL (a : Addr) (σ : L2.St) : Prop := ∃ x1 x2 x3 x4 x5 x6 x7 x8 x9 x10 x11 x12 x13 : Option V, σ = [some (.ref a), x1, x2, x3, x4, x5, x6, x7, x8, x9, x10, x11, x12, x13]
def StI (a p L x : Addr) (σ : L2.St) : Prop := ∃ x1 x4 x5 x6 x7 x9 x10 x11 x12 x13 : Option V, σ = [some (.ref a), x1, some (.ref p), some (.ref L), x4, x5, x6, x7, some (.ref x), x9, x10, x11, x12, x13]
def spLaw (K : PySem.W.Frag) : Sp := fun vs H Q _ => ∃ (a : Addr) (ns : List Int), vs = [.ref a] ∧ SqL K H a (ns.map V.int) ∧ ns.length ≤ 63 ∧ ∀ H', Q (.bl true) H'
theorem ok_law {C f fI fE : Addr} {fd fdI fdE : FuncData} (F : Fun K "law" "law" s_law f fd) (T : Txt K mg) (TC : CTxt K C) (M : Mk K C fI) (gP : mg "Rows" = some (.ref C)) (bI : Binds K fdI psR []) (bK : KBn K fdI psR 1 ["stops", "fails", "answers"] kbG kbV)
    (GI : FnOk P w K mg base CX0 4 fI fdI psR (spRows C)) (GE : FnOk P w K mg base CX0 2 fE fdE ["self", "other"] (spEq K C)) (OC : OwnCmp K C fE) (bE : Binds K fdE ["self", "other"] [])
    (pr_answers : Prp P w K mg base 1 C "answers" (spGet C "_answers")) (pr_fails : Prp P w K mg base 1 C "fails" (spGet C "_fails")) (pr_stops : Prp P w K mg base 1 C "stops" (spGet C "_stops")) (m_greatest : Mth P w K mg base 1 C "greatest" (spMax C))
    (c_law_told : CalG P w K mg base 6 "_law_told" (spTold P w K)) (c_law_pool : Cal P w K mg base 1 "_law_pool" (spPool K)) (c_law_draw : Cal P w K mg base 1 "_law_draw" spDraw) (c_law_drawn : Cal P w K mg base 2 "_law_drawn" spDrawn) :
    FnG P w K mg base CX0 8 f fd ["_law_script"] (spLaw K) := by
  refine fnG_of F sc_law (fun vs H Q E h => ?_) (fun cdv A outer s H vs Q E hgA hr h => ?_)
  · obtain ⟨a, ns, rfl, _⟩ := h
    rfl
  · obtain ⟨a, ns, rfl, hS, hlen, k⟩ := h
    have hg : (A.deeper (envOfC "law" (defScope s_law) s.heap.objs.size f cdv)).guards = some [] := hgA
    have hu : (A.deeper (envOfC "law" (defScope s_law) s.heap.objs.size f cdv)).units + 64 < cLine := hr.units
    have hr : Room 7 (A.deeper (envOfC "law" (defScope s_law) s.heap.objs.size f cdv)) := hr
    have hrI : Room (4 + 1) (A.deeper (envOfC "law" (defScope s_law) s.heap.objs.size f cdv)) := hr.mono (by decide)
    have hrE : Room 2 (A.deeper (envOfC "law" (defScope s_law) s.heap.objs.size f cdv)) := hr.mono (by decide)
    have hrN : Room (2 + 1) (A.deeper (envOfC "law" (defScope s_law) s.heap.objs.size f cdv)) := hr.mono (by decide)
    refine ⟨_, (pss_cons (ps_for PassesOwn.never rfl (pi_range1 (by rfl) T.n_range (pa_cons (pe_callB (call_max2 rfl) (by rfl) T.n_max (by decide +kernel) (pa_cons pe_int (pa_cons (pe_callB (call_min2 rfl) (by rfl) T.n_min (by decide +kernel) (pa_cons (pe_callB call_len_seq (by rfl) T.n_len (by decide +kernel) (pa_cons (pv 0) pa_nil)) (pa_cons pe_int pa_nil))) pa_nil))) pa_nil)) (pg_name (i := 1) sc_law.nd rfl (Or.inl rfl)) (pss_cons (ps_set (i := 2) sc_law.nd rfl (Or.inr rfl) (pe_f c_law_pool hr (by decide) (by rfl) (pa_cons (pv 0) (pa_cons (pv 1) pa_nil))))
      (pss_cons (ps_par (i := 3) (j := 4) (by rfl) sc_law.nd rfl rfl (by decide) rfl rfl (pa_cons (pe_lc (own := [("_law_turn", 5)]) (g := gName 5) (by rfl) sc_law.nd (pi_range1 (by rfl) T.n_range (pa_cons pe_int pa_nil)) (blkOk_by (own := [("_law_turn", 5)]) (N := N_law) (sc := defScope s_law) (by decide +kernel)) (fun _ _ _ _ _ => pg_name (i := 5) sc_law.nd rfl (Or.inl rfl)) (fun _ _ _ _ _ => pts_nil) (fun _ _ _ _ _ => (pe_f c_law_drawn hr (by decide) (by rfl) (pa_cons (pv 2) pa_nil)))) (pa_cons (pe_lc (own := [("_law_turn", 5)]) (g := gName 5) (by rfl) sc_law.nd (pi_range1 (by rfl) T.n_range (pa_cons pe_int pa_nil)) (blkOk_by (own := [("_law_turn", 5)]) (N := N_law) (sc := defScope s_law) (by decide +kernel)) (fun _ _ _ _ _ => pg_name (i := 5) sc_law.nd rfl (Or.inl rfl)) (fun _ _ _ _ _ => pts_nil) (fun _ _ _ _ _ => (pe_f c_law_drawn hr (by decide) (by rfl) (pa_cons (pv 2) pa_nil)))) pa_nil)) (by rfl))
      (pss_cons (ps_setLc (i := 6) (own := [("_law_one", 7)]) (g := gName 7) (by rfl) sc_law.nd rfl rfl (sw_true rfl rfl rfl (by decide +kernel)) (pi_list (pv 3)) (blkOk_by (own := [("_law_one", 7)]) (N := N_law) (sc := defScope s_law) (by decide +kernel)) (fun _ _ _ _ _ => pg_name (i := 7) sc_law.nd rfl (Or.inl rfl)) (fun _ _ _ _ _ => pts_nil) (fun _ _ _ _ _ => (pe_callTy (call_dictPK (K := K) rfl rfl) (by rfl) T.n_dict (by decide +kernel) (pa_cons (pe_revLK (K := K) rfl (LiI.pe_listItems rfl (pv 7) (by rfl) T.n_list (by decide +kernel))) pa_nil))))
      (pss_cons (ps_set (i := 8) sc_law.nd rfl (Or.inl rfl) (pe_make M GI hrI (by rfl) gP bI .nil pass0 (pa_cons (pe_ix ix_list (pv 6) pe_int (fun _ _ => rfl)) (pa_cons (pe_ix ix_list (pv 6) pe_int (fun _ _ => rfl)) (pa_cons (pe_ix ix_list (pv 6) pe_int (fun _ _ => rfl)) pa_nil)))))
      (pss_cons (ps_for PassesOwn.never rfl (pi_list (pe_op op_cat (pv 6) (pe_lst (pa_cons (pe_pr pr_answers hr (by decide) (pv 8)) (pa_cons (pe_pr pr_fails hr (by decide) (pv 8)) (pa_cons (pe_pr pr_stops hr (by decide) (pv 8)) pa_nil)))))) (pg_name (i := 7) sc_law.nd rfl (Or.inl rfl)) (pss_one (ps_expr (pe_dclear (pv 7)))))
      (pss_cons (ps_if (pt_cmpR (op_neLD hu) (pe_lst (pa_cons (pe_pr pr_answers hr (by decide) (pv 8)) (pa_cons (pe_pr pr_fails hr (by decide) (pv 8)) (pa_cons (pe_pr pr_stops hr (by decide) (pv 8)) pa_nil)))) (pv 3) (nomark _)) (pss_one (ps_ret pe_bl)) pss_nil)
      (pss_cons (ps_set (i := 9) sc_law.nd rfl (Or.inl rfl) (pe_op op_cat (pe_listVals rfl (pe_ix ix_list (pv 3) pe_int (fun _ _ => rfl)) (by rfl) T.n_list (by decide +kernel)) (pe_listVals rfl (pe_ix ix_list (pv 3) pe_int (fun _ _ => rfl)) (by rfl) T.n_list (by decide +kernel))))
      (pss_cons (ps_if (pt_cmpR op_ne (pe_m0 m_greatest hr (by decide) (pv 8)) (pe_ifExp (pt_cmpR (op_neD hu) (pv 9) (pe_lst pa_nil) (nomark _)) (pe_callB (cr_max rfl) (by rfl) T.n_max (by decide +kernel) (pa_cons (pv 9) pa_nil)) pe_non) (nomark _)) (pss_one (ps_ret pe_bl)) pss_nil)
      (pss_cons (ps_if (pt_cmpR op_ne (pe_cmpR (op_eqO GE OC bE pass0 hrE) (pv 8) (pe_make M GI hrI (by rfl) gP bI .nil pass0 (pa_cons (pe_ix ix_list (pv 4) pe_int (fun _ _ => rfl)) (pa_cons (pe_ix ix_list (pv 4) pe_int (fun _ _ => rfl)) (pa_cons (pe_ix ix_list (pv 4) pe_int (fun _ _ => rfl)) pa_nil)))) (nomark _)) (pe_cmpR (op_eqLD hu) (pv 3) (pv 4) (nomark _)) (nomark _)) (pss_one (ps_ret pe_bl)) pss_nil)
      (pss_cons (ps_if (pt_cmpR (op_neO GE OC bE pass0 hrN) (pv 8) (pe_make M GI hrI (by rfl) gP bI .nil pass0 (pa_cons (pe_ix ix_list (pv 3) pe_int (fun _ _ => rfl)) (pa_cons (pe_ix ix_list (pv 3) pe_int (fun _ _ => rfl)) (pa_cons (pe_ix ix_list (pv 3) pe_int (fun _ _ => rfl)) pa_nil)))) (nomark _)) (pss_one (ps_ret pe_bl)) pss_nil)
      (pss_cons (ps_for PassesOwn.never rfl (pi_range1 (by rfl) T.n_range (pa_cons pe_int pa_nil)) (pg_name (i := 10) sc_law.nd rfl (Or.inl rfl)) (pss_cons (ps_setLc (i := 11) (own := [("_law_one", 7)]) (g := gName 7) (by rfl) sc_law.nd rfl rfl (sw_true rfl rfl rfl (by decide +kernel)) (pi_list (pv 3)) (blkOk_by (own := [("_law_one", 7)]) (N := N_law) (sc := defScope s_law) (by decide +kernel)) (fun _ _ _ _ _ => pg_name (i := 7) sc_law.nd rfl (Or.inl rfl)) (fun _ _ _ _ _ => pts_nil) (fun _ _ _ _ _ => (pe_callTy call_dictD (by rfl) T.n_dict (by decide +kernel) (pa_cons (pv 7) pa_nil))))
      (pss_cons (ps_asg pe_int (pg_sub (pe_ix ix_list (pv 11) (pv 10) (fun _ _ => rfl)) pe_int (set_dict (Nat.lt_of_le_of_lt (Nat.add_le_add_left (by decide : 1 ≤ 64) _) hu))))
      (pss_cons (ps_if (pt_cmpR (op_eqO GE OC bE pass0 hrE) (pv 8) (pe_makeK0 M GI hrI (by rfl) gP bK pass0 (pk_cons (pe_ix ix_list (pv 11) pe_int (fun _ _ => rfl)) (pk_cons (pe_ix ix_list (pv 11) pe_int (fun _ _ => rfl)) (pk_cons (pe_ix ix_list (pv 11) pe_int (fun _ _ => rfl)) pk_nil)))) (nomark _)) (pss_one (ps_ret pe_bl)) pss_nil)
      (pss_one (ps_if (pt_not (pt_cmpR (op_neO GE OC bE pass0 hrN) (pv 8) (pv 3) (nomark _))) (pss_one (ps_ret pe_bl)) pss_nil))))))
      (pss_cons (ps_set (i := 12) sc_law.nd rfl (Or.inl rfl) (pe_lst (pa_cons pe_non (pa_cons pe_int (pa_cons (pe_lst pa_nil) (pa_cons (pe_lst (pa_cons (pe_tup (pa_cons pe_int (pa_cons pe_int pa_nil))) pa_nil)) (pa_cons (pe_disp (pps_cons (pe_un un_neg pe_int) pe_int pps_nil) rfl rfl (fun z => nomatch z) (by decide)) (pa_cons (pe_oddTrue pe_bl pe_int) (pa_cons (pe_disp (pps_cons pe_str pe_int pps_nil) rfl rfl (fun z => nomatch z) (by decide)) (pa_cons (pe_oddNone pe_non pe_int) (pa_cons (pe_disp (pps_cons pe_int pe_non pps_nil) rfl rfl (fun z => nomatch z) (by decide)) (pa_cons (pe_disp (pps_cons pe_int pe_bl pps_nil) rfl rfl (fun z => nomatch z) (by decide)) (pa_cons (pe_disp (pps_cons pe_int pe_str pps_nil) rfl rfl (fun z => nomatch z) (by decide)) (pa_cons (pe_oddT hu (pe_tup (pa_cons pe_int pa_nil)) pe_int) pa_nil))))))))))))))
      (pss_one (ps_for PassesOwn.never rfl (pi_list (pv 12)) (pg_name (i := 13) sc_law.nd rfl (Or.inl rfl)) (pss_cons (ps_set (i := 10) sc_law.nd rfl (Or.inl rfl) (pe_f c_law_draw hr (by decide) (by rfl) (pa_cons (pv 2) (pa_cons pe_int pa_nil))))
      (pss_one (ps_if (pt_cmpR op_ne (pe_fG c_law_told hg hr (by decide) (by rfl) (pa_cons (pe_op op_cat (pe_op op_cat (pe_slice sl_list (pv 3) po_none (po_some (pv 10))) (pe_lst (pa_cons (pv 13) pa_nil))) (pe_lst (pa_cons pe_non (pa_cons pe_non pa_nil)))) pa_nil)) (pe_callB (call_reprX (P := P) (w := w) (K := K) hg hu rfl rfl rfl) (by rfl) T.n_repr (by decide +kernel) (pa_cons (pv 13) pa_nil)) (nomark _)) (pss_one (ps_ret pe_bl)) pss_nil))))))))))))))))))
      (pss_one (ps_ret pe_bl))), ?_⟩
    walk_at "rd"
    refine g_for (g_irng ?_)
    walk_at "rd"
    refine ⟨a, _, rfl, .inl hS, ?_⟩
    walk_at "rd"
    refine ⟨_, _, rfl, ?_⟩
    walk_at "rd"
    refine ⟨_, _, rfl, ?_⟩
    walk_at "rd"
    have hN : ∀ n : Int, (if (if (8 : Int) < n then 8 else n) > 1 then (if (8 : Int) < n then 8 else n) else 1) ≤ 8 ∧ (1 : Int) ≤ (if (if (8 : Int) < n then 8 else n) > 1 then (if (8 : Int) < n then 8 else n) else 1) := fun n => by
      split <;> split <;> omega
    obtain ⟨hN1, hN2⟩ := hN ((ns.map V.int).length : Int)
    refine ⟨_, rfl, Int.le_trans (by decide) hN2, Int.lt_of_le_of_lt hN1 (by decide), ?_⟩
    generalize (if (if (8 : Int) < ((ns.map V.int).length : Int) then 8 else ((ns.map V.int).length : Int)) > 1 then (if (8 : Int) < ((ns.map V.int).length : Int) then 8 else ((ns.map V.int).length : Int)) else 1) = N at hN1 hN2 ⊢
    unfold ForW
    refine for_it walk_range (fun i σ H' => StL a σ ∧ Same H H') ⟨⟨_, _, _, _, _, _, _, _, _, _, _, _, _, rfl⟩, Same.refl _⟩ (fun _ _ _ _ _ => True.intro) ?_ ?_
    · rintro i x σ H0 H0' hi ⟨⟨x1, x2, x3, x4, x5, x6, x7, x8, x9, x10, x11, x12, x13, rfl⟩, S0⟩ ⟨rfl, rfl⟩
      walk_at "rd"
      refine ⟨a, _, ns, rfl, sqL_ext S0 hS, by omega, by omega, fun p H1 np S1 pl1 => ?_⟩
      walk_at "rd"
      refine g_par ?_
      walk_at "rd"
      refine lc_drawn pl1 fun L1 d0 d1 d2 k0 k1 k2 H2 S2 pl2 nL1 L1p h1 dr0 dr1 dr2 => ?_
      walk_at "rd"
      refine lc_drawn pl2 fun L2 e0 e1 e2 j0 j1 j2 H3 S3 pl3 nL2 L2p h2 er0 er1 er2 => ?_
      have h1 := h1.sx L1p pl2 S3
      walk_at "rd"
      refine ⟨_, _, rfl, ?_⟩
      walk_at "rd"
      refine lc_of3 (ch := List.reverse) h1 dr0.g dr1.g dr2.g step_handed fun M b0 b1 b2 H4 S4 nM n0 n1 n2 b01 b02 b12 hh => ?_
      walk_at "rd"
      refine g_ixL (SqL.of hh.l) (v := .ref b0) (atI_nat (j := 0) rfl) ?_
      walk_at "rd"
      refine g_ixL (SqL.of hh.l) (v := .ref b1) (atI_nat (j := 1) rfl) ?_
      walk_at "rd"
      refine g_ixL (SqL.of hh.l) (v := .ref b2) (atI_nat (j := 2) rfl) ?_
      walk_at "rd"
      refine mk_go (Q := fun v H2 => gName 8 v _ H2 _) hh.a hh.b hh.c dr0.g.rev dr1.g.rev dr2.g.rev fun x dx da df ds H5 S5 R nx nda ndf nds => ?_
      walk_at "rd"
      refine g_for (g_ilist ?_)
      walk_at "rd"
      refine pr_go R lk1 R.a fun c0 H6 nc0 S6 hc0 => ?_
      have R6 := R.ext S6
      walk_at "rd"
      refine pr_go R6 lk2 R6.f fun c1 H7 nc1 S7 hc1 => ?_
      have R7 := R6.ext S7
      walk_at "rd"
      refine pr_go R7 lk3 R7.s fun c2 H8 nc2 S8 hc2 => ?_
      walk_at "rd"
      refine lst_go ?hl fun L5 H9 nL5 S9 hL5 => ?_
      case hl => exact Nat.le_of_ble_eq_true rfl
      have S59 : Same H5 H9 := Same.trans S6 (Same.trans S7 (Same.trans S8 S9))
      have S49 : Same H4 H9 := Same.trans S5 S59
      refine cat_go' (S49 _ _ hh.l) hL5 (by show 3 + 3 ≤ 10000; decide) fun L6 H10 nL6 S10 hL6 => ?_
      refine ⟨L6, rfl, ⟨_, SqL.of hL6⟩, ?_⟩
      have hd9 : ∀ u ∈ [b0, b1, b2, c0, c1, c2], ∃ k : KL, H9 u = some (.dK k) := fun u hu => by
        simp only [List.mem_cons, List.not_mem_nil, or_false] at hu
        rcases hu with rfl | rfl | rfl | rfl | rfl | rfl
        · exact ⟨_, S49 _ _ hh.a⟩
        · exact ⟨_, S49 _ _ hh.b⟩
        · exact ⟨_, S49 _ _ hh.c⟩
        · exact ⟨_, S9 _ _ (S8 _ _ (S7 _ _ hc0))⟩
        · exact ⟨_, S9 _ _ (S8 _ _ hc1)⟩
        · exact ⟨_, S9 _ _ hc2⟩
      have nc05 : H5 c0 = none := nc0
      have nc15 : H5 c1 = none := none_of_same S6 nc1
      have nc25 : H5 c2 = none := none_of_same (Same.trans S6 S7) nc2
      have n3 : ∀ u ∈ [b0, b1, b2, c0, c1, c2], H3 u = none := fun u hu => by
        simp only [List.mem_cons, List.not_mem_nil, or_false] at hu
        rcases hu with rfl | rfl | rfl | rfl | rfl | rfl
        · exact n0
        · exact n1
        · exact n2
        · exact none_of_same (Same.trans S4 S5) nc05
        · exact none_of_same (Same.trans S4 S5) nc15
        · exact none_of_same (Same.trans S4 S5) nc25
      have off : ∀ u, H4 u = none → (∃ o, H5 u = some o) → u ∉ [b0, b1, b2, c0, c1, c2] := fun u h4 ⟨o, h5⟩ hu => by
        simp only [List.mem_cons, List.not_mem_nil, or_false] at hu
        rcases hu with rfl | rfl | rfl | rfl | rfl | rfl
        · rw [hh.a] at h4; cases h4
        · rw [hh.b] at h4; cases h4
        · rw [hh.c] at h4; cases h4
        · rw [nc05] at h5; cases h5
        · rw [nc15] at h5; cases h5
        · rw [nc25] at h5; cases h5
      refine clr_for (as := [b0, b1, b2, c0, c1, c2]) hL6 (fun hu => ?nL) (fun u hu => ?hd) fun y7 H11 e11 => ?_
      case nL =>
        obtain ⟨k', hk'⟩ := hd9 _ hu
        rw [hk'] at nL6
        cases nL6
      case hd =>
        obtain ⟨k', hk'⟩ := hd9 u hu
        exact ⟨k', S10 _ _ hk'⟩
      have S3b : Same H3 H11 := fun b o hb => e11 b o (fun m => by rw [n3 b m] at hb; cases hb) (S10 _ _ (S49 _ _ (S4 _ _ hb)))
      have Rb : RA C H11 x dx da df ds k0.reverse k1.reverse k2.reverse := ⟨e11 _ _ (off _ nx ⟨_, R.x⟩) (S10 _ _ (S59 _ _ R.x)), e11 _ _ (off _ nda ⟨_, R.a⟩) (S10 _ _ (S59 _ _ R.a)), e11 _ _ (off _ ndf ⟨_, R.f⟩) (S10 _ _ (S59 _ _ R.f)), e11 _ _ (off _ nds ⟨_, R.s⟩) (S10 _ _ (S59 _ _ R.s))⟩
      have h1b := h1.ext S3b
      have h2b := h2.ext S3b
      have plb := pl3.ext S3b
      have S03 : Same H0' H3 := fun b o hb => by
        have hb1 := S1 _ _ hb
        have bp : b ≠ p := fun z => by rw [z, np] at hb; cases hb
        exact S3 _ _ bp (S2 _ _ bp hb1)
      have S0b : Same H H11 := Same.trans S0 (Same.trans S03 S3b)
      clear n3 off hd9 nc05 nc15 nc25 e11 S49 S59 R R6 R7 hL6 hL5 hc0 hc1 hc2 nc0 nc1 nc2 S6 S7 S8 S9 S10 hh n0 n1 n2 nM nx nda ndf nds S5 S4 S3b S03 h1 h2 pl3 pl2 pl1 nL6 nL5 nL2 nL1 S3 S2
      walk_at "rd"
      have eq0 : dEqs [k0.reverse, k1.reverse, k2.reverse] [k0, k1, k2] = true := by
        rw [dEqs3, dEq_back dr0.g.nd, dEq_back dr1.g.nd, dEq_back dr2.g.nd]
        rfl
      refine pr_go Rb lk1 Rb.a fun c0 H12 _ S12 hc0 => ?_
      have R12 := Rb.ext S12
      walk_at "rd"
      refine pr_go R12 lk2 R12.f fun c1 H13 _ S13 hc1 => ?_
      have R13 := R12.ext S13
      walk_at "rd"
      refine pr_go R13 lk3 R13.s fun c2 H14 _ S14 hc2 => ?_
      walk_at "rd"
      refine lst_go ?hl fun l H15 _ S15 hl => ?_
      case hl => exact Nat.le_of_ble_eq_true rfl
      walk_at "rd"
      have SF : Same H11 H15 := Same.trans S12 (Same.trans S13 (Same.trans S14 S15))
      have hF := h1b.ext SF
      refine ⟨l, L1, [c0, c1, c2], [d0, d1, d2], _, _, rfl, rfl, SqL.of hl, SqL.of hF.l, .cons ⟨S15 _ _ (S14 _ _ (S13 _ _ hc0)), dr0.g.rev.ints⟩ (.cons ⟨S15 _ _ (S14 _ _ hc1), dr1.g.rev.ints⟩ (.cons ⟨S15 _ _ hc2, dr2.g.rev.ints⟩ .nil)),
        .cons ⟨hF.a, dr0.g.ints⟩ (.cons ⟨hF.b, dr1.g.ints⟩ (.cons ⟨hF.c, dr2.g.ints⟩ .nil)), rfl, ?_⟩
      rw [eq0]
      refine ⟨_, rfl, ?_⟩
      show (if false = true then _ else _)
      walk_at "rd"
      have Rc := Rb.ext SF
      have h2c := h2b.ext SF
      have plc := plb.ext SF
      have S0c := Same.trans S0b SF
      clear R12 R13 hc0 hc1 hc2 hl S12 S13 S14 S15 Rb h1b h2b plb S0b SF
      refine g_lvals ?_
      walk_at "rd"
      refine g_ixL (SqL.of hF.l) (v := .ref d0) (atI_nat (j := 0) rfl) ?_
      refine ⟨d0, k0, rfl, hF.a, fun l1 nl1 => ?_⟩
      have S16 := same_new (o := .lst (k0.map (·.2))) nl1
      have hl1 : (upd H15 l1 (.lst (k0.map (·.2)))) l1 = some (.lst (k0.map (·.2))) := upd_same
      generalize upd H15 l1 (.lst (k0.map (·.2))) = H16 at S16 hl1 ⊢
      refine g_lvals ?_
      walk_at "rd"
      refine g_ixL (SqL.of (S16 _ _ hF.l)) (v := .ref d1) (atI_nat (j := 1) rfl) ?_
      refine ⟨d1, k1, rfl, S16 _ _ hF.b, fun l2 nl2 => ?_⟩
      have S17 := same_new (o := .lst (k1.map (·.2))) nl2
      have hl2 : (upd H16 l2 (.lst (k1.map (·.2)))) l2 = some (.lst (k1.map (·.2))) := upd_same
      generalize upd H16 l2 (.lst (k1.map (·.2))) = H17 at S17 hl2 ⊢
      refine cat_go' (S17 _ _ hl1) hl2 (by rw [List.length_map, List.length_map]; have := dr0.g.len; have := dr1.g.len; omega) fun l3 H18 _ S18 hl3 => ?_
      have e3 : k0.map (·.2) ++ k1.map (·.2) = (ivs k0 ++ ivs k1).map V.int := by rw [List.map_append, ivs_eq dr0.g.ints, ivs_eq dr1.g.ints]
      rw [e3] at hl3
      refine g_name ?_
      dsimp only
      refine g_seq ?_
      refine g_ifS ?_
      refine g_test ?_
      have SF := Same.trans S16 (Same.trans S17 S18)
      refine great_cmp (Rc.ext SF) dr0.g dr1.g hl3 fun H19 S19 => ?_
      have SF := Same.trans SF S19
      have hG := hF.ext SF
      have Rd := Rc.ext SF
      have h2d := h2c.ext SF
      have pld := plc.ext SF
      have S0d := Same.trans S0c SF
      clear hl1 hl2 hl3 e3 S16 S17 S18 S19 SF hF Rc h2c plc S0c
      refine ⟨_, rfl, ?_⟩
      show (if false = true then _ else _)
      walk_at "rd"
      refine g_ixL (SqL.of h2d.l) (v := .ref e0) (atI_nat (j := 0) rfl) ?_
      walk_at "rd"
      refine g_ixL (SqL.of h2d.l) (v := .ref e1) (atI_nat (j := 1) rfl) ?_
      walk_at "rd"
      refine g_ixL (SqL.of h2d.l) (v := .ref e2) (atI_nat (j := 2) rfl) ?_
      walk_at "rd"
      refine mk_go (Q := fun v H2 => rCmpO C (spEq K C) E0 _ false _ v H2 _) h2d.a h2d.b h2d.c er0.g er1.g er2.g fun y dy ya yf ys H20 S20 Ry _ _ _ _ => ?_
      refine cmp_rows (Rd.ext S20) Ry dr0.g.rev dr1.g.rev dr2.g.rev er0.g er1.g er2.g fun H21 S21 => ?_
      walk_at "rd"
      have SF := Same.trans S20 S21
      have hH := hG.ext SF
      have h2e := h2d.ext SF
      refine ⟨L1, L2, [d0, d1, d2], [e0, e1, e2], _, _, rfl, rfl, SqL.of hH.l, SqL.of h2e.l, .cons ⟨hH.a, dr0.g.ints⟩ (.cons ⟨hH.b, dr1.g.ints⟩ (.cons ⟨hH.c, dr2.g.ints⟩ .nil)), .cons ⟨h2e.a, er0.g.ints⟩ (.cons ⟨h2e.b, er1.g.ints⟩ (.cons ⟨h2e.c, er2.g.ints⟩ .nil)), rfl, ?_⟩
      have e4 : dEqs [k0.reverse, k1.reverse, k2.reverse] [j0, j1, j2] = dEqs [k0, k1, k2] [j0, j1, j2] := by rw [dEqs3, dEqs3, dEq_rev, dEq_rev, dEq_rev]
      rw [e4]
      refine ⟨rfl, ?_⟩
      rw [decide_eq_true (Eq.refl _)]
      refine ⟨_, rfl, ?_⟩
      show (if false = true then _ else _)
      walk_at "rd"
      have Re := Rd.ext SF
      have ple := pld.ext SF
      have S0e := Same.trans S0d SF
      clear Ry S20 S21 SF hG Rd h2d pld S0d h2e e4
      refine g_ixL (SqL.of hH.l) (v := .ref d0) (atI_nat (j := 0) rfl) ?_
      walk_at "rd"
      refine g_ixL (SqL.of hH.l) (v := .ref d1) (atI_nat (j := 1) rfl) ?_
      walk_at "rd"
      refine g_ixL (SqL.of hH.l) (v := .ref d2) (atI_nat (j := 2) rfl) ?_
      walk_at "rd"
      refine mk_go (Q := fun v H2 => rCmpO C (spEq K C) E0 _ true _ v H2 _) hH.a hH.b hH.c dr0.g dr1.g dr2.g fun y dy ya yf ys H22 S22 Ry _ _ _ _ => ?_
      refine cmp_rows (Re.ext S22) Ry dr0.g.rev dr1.g.rev dr2.g.rev dr0.g dr1.g dr2.g fun H23 S23 => ?_
      rw [eq0]
      refine ⟨_, rfl, ?_⟩
      show (if false = true then _ else _)
      walk_at "rd"
      have SF := Same.trans S22 S23
      have hI := hH.ext SF
      have Rf := Re.ext SF
      have plf := ple.ext SF
      have S0f := Same.trans S0e SF
      clear Ry S22 S23 SF hH Re ple S0e
      refine g_for (g_irng ?_)
      walk_at "rd"
      refine ⟨3, rfl, by decide, by decide, ?_⟩
      unfold ForW
      refine for_it walk_range (fun i σ H' => StI a p L1 x σ ∧ Same H23 H') ⟨⟨_, _, _, _, _, _, _, _, _, _, rfl⟩, Same.refl _⟩ (fun _ _ _ _ _ => True.intro) ?_ ?_
      · rintro n z σ H24 H24' hn ⟨⟨x1, x4, x5, x6, x7, x9, x10, x11, x12, x13, rfl⟩, S24⟩ ⟨rfl, rfl⟩
        have hJ := hI.ext S24
        walk_at "rd"
        refine lc_of3 (ch := fun k => k) hJ dr0.g dr1.g dr2.g step_bent fun B b0 b1 b2 H25 S25 nB n0 n1 n2 b01 b02 b12 hb => ?_
        obtain ⟨b, kb, m0, m1, m2, hat, hkb, hlen, hm, gm0, gm1, gm2, ebt, hbb⟩ := put_bent hn hb b01 b02 b12 dr0 dr1 dr2
        walk_at "rd"
        refine g_ixL (SqL.of hb.l) (v := .ref b) (by rw [Int.zero_add]; exact hat) ?_
        walk_at "rd"
        refine ⟨b, _, rfl, .inl ⟨kb, .inl 40, hkb, rfl, hlen, rfl⟩, ?_⟩
        walk_at "rd"
        have nb : H24' b = none := by
          rcases hbb with rfl | rfl | rfl
          · exact n0
          · exact n1
          · exact n2
        have S26 : Same H24' (upd H25 b (.dK (putK kb (.inl 40) (.int 1)))) := fun u o hu => by
          rw [upd_ne (fun z => by rw [z, nb] at hu; cases hu)]
          exact S25 _ _ hu
        generalize upd H25 b (.dK (putK kb (.inl 40) (.int 1))) = H26 at hm S26 ⊢
        refine g_ixL (SqL.of hm.l) (v := .ref b2) (atI_nat (j := 2) rfl) ?_
        walk_at "rd"
        refine g_ixL (SqL.of hm.l) (v := .ref b1) (atI_nat (j := 1) rfl) ?_
        walk_at "rd"
        refine g_ixL (SqL.of hm.l) (v := .ref b0) (atI_nat (j := 0) rfl) ?_
        walk_at "rd"
        refine ⟨rfl, rfl, mk_go (Q := fun v H2 => rCmpO C (spEq K C) E0 _ false _ v H2 _) hm.a hm.b hm.c gm0 gm1 gm2 fun y dy ya yf ys H27 S27 Ry _ _ _ _ => ?_⟩
        refine cmp_rows ((Rf.ext (Same.trans S24 S26)).ext S27) Ry dr0.g.rev dr1.g.rev dr2.g.rev gm0 gm1 gm2 fun H28 S28 => ?_
        rw [ebt]
        refine ⟨_, rfl, ?_⟩
        show (if false = true then _ else _)
        walk_at "rd"
        have SX := Same.trans (Same.trans S24 S26) (Same.trans S27 S28)
        refine cmp_lst (Rf.ext SX) (hI.ext SX).l ?_
        refine ⟨_, rfl, ?_⟩
        show (if false = true then _ else _)
        walk_at "rd"
        exact ⟨⟨_, _, _, _, _, _, _, _, _, _, rfl⟩, SX⟩
      · rintro σ H24 ⟨⟨x1, x4, x5, x6, x7, x9, x10, x11, x12, x13, rfl⟩, S24⟩
        have plg := plf.ext S24
        have hK := hI.ext S24
        have S0g := Same.trans S0f S24
        clear plf hI S0f S24 Rf
        walk_at "rd"
        refine lst_go ?hl fun t1 H25 nt1 S25 ht1 => ?_
        case hl => exact Nat.zero_le _
        walk_at "rd"
        refine tup_go ?hl fun u1 H26 _ S26 hu1 => ?_
        case hl => exact Nat.le_of_ble_eq_true rfl
        walk_at "rd"
        refine lst_go ?hl fun t2 H27 nt2 S27 ht2 => ?_
        case hl => exact Nat.le_of_ble_eq_true rfl
        walk_at "rd"
        refine d1_go (k := .inl (-1)) (v := .int 2) (fun H' R r => ⟨1, rfl, r⟩) (fun H' R r => r) fun t3 H28 _ S28 ht3 => ?_
        walk_at "rd"
        refine odd_go (fun H' R r => r) (fun H' R r => r) fun t4 H29 _ S29 ht4 => ?_
        walk_at "rd"
        refine d1_go (k := .inr "1") (v := .int 2) (fun H' R r => r) (fun H' R r => r) fun t5 H30 _ S30 ht5 => ?_
        walk_at "rd"
        refine odd_go (fun H' R r => r) (fun H' R r => r) fun t6 H31 _ S31 ht6 => ?_
        walk_at "rd"
        refine d1_go (k := .inl 1) (v := .non) (fun H' R r => r) (fun H' R r => r) fun t7 H32 _ S32 ht7 => ?_
        walk_at "rd"
        refine d1_go (k := .inl 1) (v := .bl true) (fun H' R r => r) (fun H' R r => r) fun t8 H33 _ S33 ht8 => ?_
        walk_at "rd"
        refine d1_go (k := .inl 2) (v := .str "5") (fun H' R r => r) (fun H' R r => r) fun t9 H34 _ S34 ht9 => ?_
        walk_at "rd"
        refine oddT_go fun t10 H35 _ S35 ht10 => ?_
        walk_at "rd"
        refine lst_go ?hl fun Bd H36 nBd S36 hBd => ?_
        case hl => exact Nat.le_of_ble_eq_true rfl
        have c1 := Same.trans S35 S36
        have c2 := Same.trans S34 c1
        have c3 := Same.trans S33 c2
        have c4 := Same.trans S32 c3
        have c5 := Same.trans S31 c4
        have c6 := Same.trans S30 c5
        have c7 := Same.trans S29 c6
        have c8 := Same.trans S28 c7
        have c9 := Same.trans S27 c8
        have c10 := Same.trans S26 c9
        have SZ := Same.trans S25 c10
        have pl36 := plg.ext SZ
        have hNN := hK.ext SZ
        have notp : ∀ {H1 : Hp} {t : Addr}, Same _ H1 → H1 t = none → t ≠ p := fun {H1 t} e nt z => by
          obtain ⟨c, y, q1, _⟩ := plg.ext e
          rw [z, q1] at nt
          cases nt
        have pt1 := notp (Same.refl _) nt1
        have pt2 := notp (Same.trans S25 S26) nt2
        have pBd : Bd ≠ p := fun z => by
          obtain ⟨c, y, q1, _⟩ := plg.ext (Same.trans S25 (Same.trans S26 (Same.trans S27 (Same.trans S28 (Same.trans S29 (Same.trans S30 (Same.trans S31 (Same.trans S32 (Same.trans S33 (Same.trans S34 S35))))))))))
          rw [z, q1] at nBd
          cases nBd
        have f1 := c10 _ _ ht1
        have fu := c9 _ _ hu1
        have f2 := c8 _ _ ht2
        have f3 := c7 _ _ ht3
        have f4 := c6 _ _ ht4
        have f5 := c5 _ _ ht5
        have f6 := c4 _ _ ht6
        have f7 := c3 _ _ ht7
        have f8 := c2 _ _ ht8
        have f9 := c1 _ _ ht9
        have f10 := S36 _ _ ht10
        have bad : ∀ H', Sx p H36 H' → ∀ v ∈ [V.non, .int 5, .ref t1, .ref t2, .ref t3, .ref t4, .ref t5, .ref t6, .ref t7, .ref t8, .ref t9, .ref t10], BadV P w K H' v := fun H' e =>
          have g : ∀ {t : Addr} {o : HO}, (∀ xs, o ≠ .lst xs) → H36 t = some o → H' t = some o := fun n h => e _ _ (pl36.not h n) h
          bad_all (e _ _ pt1 f1) (g (by intro _ k; cases k) fu) (e _ _ pt2 f2) (g (by intro _ k; cases k) f3) (g (by intro _ k; cases k) f4) (g (by intro _ k; cases k) f5) (g (by intro _ k; cases k) f6) (g (by intro _ k; cases k) f7) (g (by intro _ k; cases k) f8) (g (by intro _ k; cases k) f9) (g (by intro _ k; cases k) f10)
        clear c1 c2 c3 c4 c5 c6 c7 c8 c9 c10 f1 fu f2 f3 f4 f5 f6 f7 f8 f9 f10 notp S25 S26 S27 S28 S29 S30 S31 S32 S33 S34 S35 S36 ht1 hu1 ht2 ht3 ht4 ht5 ht6 ht7 ht8 ht9 ht10 plg hK
        walk_at "rd"
        dsimp only
        refine g_for (g_ilist ?_)
        walk_at "rd"
        refine ⟨Bd, rfl, ⟨_, SqL.of hBd⟩, ?_⟩
        unfold ForW
        refine for_list (K := K) (a := Bd) (xs := [V.non, .int 5, .ref t1, .ref t2, .ref t3, .ref t4, .ref t5, .ref t6, .ref t7, .ref t8, .ref t9, .ref t10]) (fun i σ H' => StI a p L1 x σ ∧ PoolAt H' p ∧ Sx p H36 H') ⟨⟨_, _, _, _, _, _, _, _, _, _, rfl⟩, pl36, Sx.refl _⟩ (fun i σ H' _ ⟨_, _, e⟩ => SqL.of (e _ _ pBd hBd)) ?_ ?_
        · rintro n v σ H40 hv ⟨⟨x1, x4, x5, x6, x7, x9, x10, x11, x12, x13, rfl⟩, pl40, S40⟩
          walk_at "rd"
          refine ⟨p, 3, rfl, pl40, by decide, by decide, fun r H41 r0 r1 pl41 S41 => ?_⟩
          obtain ⟨m, rfl⟩ := Int.eq_ofNat_of_zero_le r0
          have hm : m < 3 := by omega
          have S41' := S40.trans S41
          obtain ⟨z, bz⟩ := bad _ S41' v (List.mem_of_getElem? hv)
          have hO := hNN.sx L1p pl36 S41'
          walk_at "rd"
          refine g_sl ?_
          walk_at "rd"
          refine g_nopart (g_part ?_)
          walk_at "rd"
          refine ⟨_, rfl, ?_⟩
          refine sl_go (SqL.of hO.l) fun s1 H42 S42 hs1 => ?_
          walk_at "rd"
          refine lst_go ?hl fun s2 H43 _ S43 hs2 => ?_
          case hl => exact Nat.le_of_ble_eq_true rfl
          walk_at "rd"
          have cl := cut_len (x := V.ref d0) (y := V.ref d1) (z := V.ref d2) m hm
          refine cat_go' (S43 _ _ hs1) hs2 (by show _ + 1 ≤ 10000; omega) fun s3 H44 _ S44 hs3 => ?_
          walk_at "rd"
          refine lst_go ?hl fun s4 H45 _ S45 hs4 => ?_
          case hl => exact Nat.le_of_ble_eq_true rfl
          walk_at "rd"
          refine cat_go' (S45 _ _ hs3) hs4 (by rw [List.length_append]; show _ + 1 + 2 ≤ 10000; omega) fun s5 H46 _ S46 hs5 => ?_
          walk_at "rd"
          have SY := Same.trans S42 (Same.trans S43 (Same.trans S44 (Same.trans S45 S46)))
          refine told_bad hm hs5 (hO.ext SY) dr0.g dr1.g dr2.g ⟨bz.1.ext SY, bz.2.ext SY⟩ fun H47 S47 => ?_
          walk_at "rd"
          refine ⟨v, z, rfl, (bz.2.ext SY).ext S47, ?_⟩
          walk_at "rd"
          rw [decide_eq_true (Eq.refl _)]
          show (if false = true then _ else _)
          walk_at "rd"
          exact ⟨⟨_, _, _, _, _, _, _, _, _, _, rfl⟩, pl41.ext (Same.trans SY S47), S41'.trans (Same.sx (Same.trans SY S47))⟩
        · rintro σ H40 ⟨⟨x1, x4, x5, x6, x7, x9, x10, x11, x12, x13, rfl⟩, pl40, S40⟩
          walk_at "rd"
          refine ⟨⟨_, _, _, _, _, _, _, _, _, _, _, _, _, rfl⟩, fun b o hb => ?_⟩
          have bp : b ≠ p := fun z => by
            have q := S0 _ _ hb
            rw [z, np] at q
            cases q
          exact S40 _ _ bp (SZ _ _ (S0g _ _ hb))
    · rintro σ H' ⟨st, S⟩
      walk_at "rd"
      exact k _
end
end K2

namespace K2
open PySem PySem.Spec PyProof.Rows L2 Mc Mx
theorem kit_same {K : PySem.W.Frag} {C : Addr} : PySem.W.kitOne K (.ref C) (.ref C) = some true := if_pos (by simp)
theorem kit_off {K : PySem.W.Frag} {C : Addr} {n : String} {l : List Value} (hd : PySem.W.hasDictIn K C = true) (ty : PySem.W.typeIn K (.ref C) = some (.type "type")) (e : fastBuiltinMro n = some l) (hl : l.contains (.ref C) = false) : PySem.W.kitOne K (.type n) (.ref C) = some false := by
  obtain ⟨cd, hc, _⟩ := PySem.W.any_some hd
  have q : PySem.W.subIn K (.type n) (.ref C) = some false := by
    show (fastBuiltinMro n).map (·.contains (.ref C)) = some false
    rw [e, Option.map_some, hl]
  have a : (Value.type n == Value.ref C) = false := by simp
  show (if (Value.type n == Value.ref C) = true then some true else (if ((PySem.W.clsIn K C).isSome && PySem.W.typeIn K (.ref C) == some (.type "type")) = true then PySem.W.subIn K (.type n) (.ref C) else none)) = some false
  rw [a, if_neg Bool.false_ne_true, hc, ty, q]
  simp
theorem exm_is {K : PySem.W.Frag} {A B : Addr} {b : Bool} (be : PySem.W.subIn K (.ref B) (.type "BaseException") = some true) (ty : PySem.W.typeIn K (.ref B) = some (.type "type")) (hd : PySem.W.hasDictIn K B = true) (s : PySem.W.subIn K (.ref A) (.ref B) = some b) : PySem.W.exmOne K (.ref A) (.ref B) = some b := by
  obtain ⟨cd, hc, _⟩ := PySem.W.any_some hd
  unfold PySem.W.exmOne
  rw [be]
  show (if ((PySem.W.clsIn K B).isSome && PySem.W.typeIn K (.ref B) == some (.type "type")) = true then PySem.W.subIn K (.ref A) (.ref B) else none) = some b
  rw [hc, ty, s]
  simp
theorem vals_app : ∀ {vs ws : List V} {us xs : List Value}, Vals vs us → Vals ws xs → Vals (vs ++ ws) (us ++ xs)
  | _, _, _, _, .nil, h => h
  | _, _, _, _, .cons r t, h => .cons r (vals_app t h)
theorem kb_rows {K : PySem.W.Frag} {f : Addr} {fd : FuncData} (F : Fun K "__init__" "Rows.__init__" s_Rowsinit f fd) : KBn K fd psR 1 ["stops", "fails", "answers"] kbG kbV := by
  obtain ⟨oc, od, kV, doc, pm, an, cdv, ct, osl, rfl, lk, hcd⟩ := F.ex
  refine ⟨fun s us ws X l1 l2 => ?_, fun r1 r2 => vals_app r1 (r2.reverse)⟩
  match us, ws, l1, l2 with
  | [_], [_, _, _], _, _ => exact .of_eq rfl
theorem all_mk {l : PySem.W.OpenLaw} {w : World} {K : PySem.W.Frag} {h : Heap} {mg : Str → Option Value} {fa : Addr} {fg0 : Addr} {odg0 ang0 : Option Addr} {slg0 : Array (Option Value)} {ocg0 dcg0 pmg0 cdg0 ctg0 kVg0 : Value} {fg1 : Addr} {odg1 ang1 : Option Addr} {slg1 : Array (Option Value)} {ocg1 dcg1 pmg1 cdg1 ctg1 kVg1 : Value} {fg2 : Addr} {odg2 ang2 : Option Addr} {slg2 : Array (Option Value)} {ocg2 dcg2 pmg2 cdg2 ctg2 kVg2 : Value} {fg3 : Addr} {odg3 ang3 : Option Addr} {slg3 : Array (Option Value)} {ocg3 dcg3 pmg3 cdg3 ctg3 kVg3 : Value} {fg4 : Addr} {odg4 ang4 : Option Addr} {slg4 : Array (Option Value)} {ocg4 dcg4 pmg4 cdg4 ctg4 kVg4 : Value} {fg5 : Addr} {odg5 ang5 : Option Addr} {slg5 : Array (Option Value)} {ocg5 dcg5 pmg5 cdg5 ctg5 kVg5 : Value} {fg6 : Addr} {odg6 ang6 : Option Addr} {slg6 : Array (Option Value)} {ocg6 dcg6 pmg6 cdg6 ctg6 kVg6 : Value} {fL : Addr} {odL anL : Option Addr} {slL : Array (Option Value)} {ocL dcL pmL cdL ctL kVL : Value} {C : Addr} {fI : Addr} {odI anI : Option Addr} {slI : Array (Option Value)} {ocI dcI pmI cdI ctI kVI : Value} {fE : Addr} {odE anE : Option Addr} {slE : Array (Option Value)} {ocE dcE pmE cdE ctE kVE : Value} {fS : Addr} {odS anS : Option Addr} {slS : Array (Option Value)} {ocS dcS pmS cdS ctS kVS : Value} {fM : Addr} {odM anM : Option Addr} {slM : Array (Option Value)} {ocM dcM pmM cdM ctM kVM : Value} {p_answers : Addr} {r_answers : List Value} {fpanswers : Addr} {odpanswers anpanswers : Option Addr} {slpanswers : Array (Option Value)} {ocpanswers dcpanswers pmpanswers cdpanswers ctpanswers kVpanswers : Value} {p_fails : Addr} {r_fails : List Value} {fpfails : Addr} {odpfails anpfails : Option Addr} {slpfails : Array (Option Value)} {ocpfails dcpfails pmpfails cdpfails ctpfails kVpfails : Value} {p_stops : Addr} {r_stops : List Value} {fpstops : Addr} {odpstops anpstops : Option Addr} {slpstops : Array (Option Value)} {ocpstops dcpstops pmpstops cdpstops ctpstops kVpstops : Value} {CR : Addr} {nmR qnR : Str} {NR : Addr} {bsR bmR : List Value} {snR : List Str} {subR : List Value} {abR : Bool} {colR : Option Bool} {ddR : Option Addr} {k0R k1R k2R k3R k5R : Option Value} {fR cR ccR : Addr} {odR anR cddR cldR : Option Addr} {oslR ccsR cslR : Array (Option Value)} {ocR kVR dcR pmR ctR cclR clR : Value} {vsR : Array Value} {flR : Str} {tfR : Tok}
    (X : K.In h) (G : h.Ns mainGlobals mg) (hfa : mg "law" = some (.ref fa))
    (ag0 : PySem.W.nsIn K mainGlobals "is_integer" = some (some (.ref fg0)))
    (lg0 : K.lookup fg0 = some ⟨ocg0, odg0, .func (PySem.W.fnOf "is_integer" "is_integer" (defArgs s_is_integer) (defBody s_is_integer) (defScope s_is_integer) .none kVg0 dcg0 pmg0 ang0 cdg0 ctg0), slg0⟩)
    (cg0 : PySem.W.codeIn K cdg0 "is_integer" = true)
    (kg0 : PySem.W.keepIn K (.ref fg0) = true)
    (ag1 : PySem.W.nsIn K mainGlobals "is_count" = some (some (.ref fg1)))
    (lg1 : K.lookup fg1 = some ⟨ocg1, odg1, .func (PySem.W.fnOf "is_count" "is_count" (defArgs s_is_count) (defBody s_is_count) (defScope s_is_count) .none kVg1 dcg1 pmg1 ang1 cdg1 ctg1), slg1⟩)
    (cg1 : PySem.W.codeIn K cdg1 "is_count" = true)
    (kg1 : PySem.W.keepIn K (.ref fg1) = true)
    (ag2 : PySem.W.nsIn K mainGlobals "_is_row" = some (some (.ref fg2)))
    (lg2 : K.lookup fg2 = some ⟨ocg2, odg2, .func (PySem.W.fnOf "_is_row" "_is_row" (defArgs s_is_row) (defBody s_is_row) (defScope s_is_row) .none kVg2 dcg2 pmg2 ang2 cdg2 ctg2), slg2⟩)
    (cg2 : PySem.W.codeIn K cdg2 "_is_row" = true)
    (kg2 : PySem.W.keepIn K (.ref fg2) = true)
    (ag3 : PySem.W.nsIn K mainGlobals "_law_pool" = some (some (.ref fg3)))
    (lg3 : K.lookup fg3 = some ⟨ocg3, odg3, .func (PySem.W.fnOf "_law_pool" "_law_pool" (defArgs s_law_pool) (defBody s_law_pool) (defScope s_law_pool) .none kVg3 dcg3 pmg3 ang3 cdg3 ctg3), slg3⟩)
    (cg3 : PySem.W.codeIn K cdg3 "_law_pool" = true)
    (kg3 : PySem.W.keepIn K (.ref fg3) = true)
    (ag4 : PySem.W.nsIn K mainGlobals "_law_draw" = some (some (.ref fg4)))
    (lg4 : K.lookup fg4 = some ⟨ocg4, odg4, .func (PySem.W.fnOf "_law_draw" "_law_draw" (defArgs s_law_draw) (defBody s_law_draw) (defScope s_law_draw) .none kVg4 dcg4 pmg4 ang4 cdg4 ctg4), slg4⟩)
    (cg4 : PySem.W.codeIn K cdg4 "_law_draw" = true)
    (kg4 : PySem.W.keepIn K (.ref fg4) = true)
    (ag5 : PySem.W.nsIn K mainGlobals "_law_told" = some (some (.ref fg5)))
    (lg5 : K.lookup fg5 = some ⟨ocg5, odg5, .func (PySem.W.fnOf "_law_told" "_law_told" (defArgs s_law_told) (defBody s_law_told) (defScope s_law_told) .none kVg5 dcg5 pmg5 ang5 cdg5 ctg5), slg5⟩)
    (cg5 : PySem.W.codeIn K cdg5 "_law_told" = true)
    (kg5 : PySem.W.keepIn K (.ref fg5) = true)
    (ag6 : PySem.W.nsIn K mainGlobals "_law_drawn" = some (some (.ref fg6)))
    (lg6 : K.lookup fg6 = some ⟨ocg6, odg6, .func (PySem.W.fnOf "_law_drawn" "_law_drawn" (defArgs s_law_drawn) (defBody s_law_drawn) (defScope s_law_drawn) .none kVg6 dcg6 pmg6 ang6 cdg6 ctg6), slg6⟩)
    (cg6 : PySem.W.codeIn K cdg6 "_law_drawn" = true)
    (kg6 : PySem.W.keepIn K (.ref fg6) = true)
    (aL : PySem.W.nsIn K mainGlobals "law" = some (some (.ref fL)))
    (lL : K.lookup fL = some ⟨ocL, odL, .func (PySem.W.fnOf "law" "law" (defArgs s_law) (defBody s_law) (defScope s_law) .none kVL dcL pmL anL cdL ctL), slL⟩)
    (cL : PySem.W.codeIn K cdL "law" = true)
    (kL : PySem.W.keepIn K (.ref fL) = true)
    (z_isinstance : PySem.W.nsIn K mainGlobals "isinstance" = some none)
    (z_int : PySem.W.nsIn K mainGlobals "int" = some none)
    (z_bool : PySem.W.nsIn K mainGlobals "bool" = some none)
    (z_len : PySem.W.nsIn K mainGlobals "len" = some none)
    (z_all : PySem.W.nsIn K mainGlobals "all" = some none)
    (z_range : PySem.W.nsIn K mainGlobals "range" = some none)
    (z_repr : PySem.W.nsIn K mainGlobals "repr" = some none)
    (z_max : PySem.W.nsIn K mainGlobals "max" = some none)
    (z_min : PySem.W.nsIn K mainGlobals "min" = some none)
    (z_list : PySem.W.nsIn K mainGlobals "list" = some none)
    (z_dict : PySem.W.nsIn K mainGlobals "dict" = some none)
    (z_super : PySem.W.nsIn K mainGlobals "super" = some none)
    (aC : PySem.W.nsIn K mainGlobals "Rows" = some (some (.ref C)))
    (aI : PySem.W.findIn K (.ref C) "__init__" = some (some (.ref fI)))
    (lI : K.lookup fI = some ⟨ocI, odI, .func (PySem.W.fnOf "__init__" "Rows.__init__" (defArgs s_Rowsinit) (defBody s_Rowsinit) (defScope s_Rowsinit) .none kVI dcI pmI anI cdI ctI), slI⟩)
    (cI : PySem.W.codeIn K cdI "Rows.__init__" = true)
    (kI : PySem.W.keepIn K (.ref fI) = true)
    (iI : PySem.W.isFn K (.ref fI) = true)
    (aE : PySem.W.findIn K (.ref C) "__eq__" = some (some (.ref fE)))
    (lE : K.lookup fE = some ⟨ocE, odE, .func (PySem.W.fnOf "__eq__" "Rows.__eq__" (defArgs s_Rowseq) (defBody s_Rowseq) (defScope s_Rowseq) .none kVE dcE pmE anE cdE ctE), slE⟩)
    (cE : PySem.W.codeIn K cdE "Rows.__eq__" = true)
    (kE : PySem.W.keepIn K (.ref fE) = true)
    (iE : PySem.W.isFn K (.ref fE) = true)
    (aS : PySem.W.findIn K (.ref C) "_rows" = some (some (.ref fS)))
    (lS : K.lookup fS = some ⟨ocS, odS, .func (PySem.W.fnOf "_rows" "Rows._rows" (defArgs s_Rows_rows) (defBody s_Rows_rows) (defScope s_Rows_rows) .none kVS dcS pmS anS cdS ctS), slS⟩)
    (cS : PySem.W.codeIn K cdS "Rows._rows" = true)
    (kS : PySem.W.keepIn K (.ref fS) = true)
    (iS : PySem.W.isFn K (.ref fS) = true)
    (aM : PySem.W.findIn K (.ref C) "greatest" = some (some (.ref fM)))
    (lM : K.lookup fM = some ⟨ocM, odM, .func (PySem.W.fnOf "greatest" "Rows.greatest" (defArgs s_Rows_greatest) (defBody s_Rows_greatest) (defScope s_Rows_greatest) .none kVM dcM pmM anM cdM ctM), slM⟩)
    (cM : PySem.W.codeIn K cdM "Rows.greatest" = true)
    (kM : PySem.W.keepIn K (.ref fM) = true)
    (iM : PySem.W.isFn K (.ref fM) = true)
    (pg : PySem.W.plainGet K C Str.empty = true)
    (hd : PySem.W.hasDictIn K C = true)
    (po : PySem.W.plainOver K C = true)
    (sa : PySem.W.findIn K (.ref C) "__setattr__" = some (some (.builtin "object.__setattr__")))
    (mk : PySem.W.makesIn K C = true)
    (kc : PySem.W.keepIn K (.ref C) = true)
    (n1 : PySem.W.findIn K (.ref C) "_answers" = some none)
    (n2 : PySem.W.findIn K (.ref C) "_fails" = some none)
    (n3 : PySem.W.findIn K (.ref C) "_stops" = some none)
    (ne : PySem.W.findIn K (.ref C) "__ne__" = some (some (.builtin "object.__ne__")))
    (ob : PySem.W.mroIn K C (.type "object") = some true)
    (ha : PySem.W.findIn K (.ref C) "__class__" = some (some (.builtin "object.__class__")))
    (hn : PySem.W.specialIn K (.builtin "object.__class__") "__get__" = some (some (.builtin "getset_descriptor.__get__")))
    (htk : PySem.W.takesIn K (.builtin "object.__class__") = some true)
    (ty : PySem.W.typeIn K (.ref C) = some (.type "type"))
    (p1_answers : PySem.W.findIn K (.ref C) "answers" = some (some (.ref p_answers)))
    (p2_answers : PySem.W.specialIn K (.ref p_answers) "__get__" = some (some (.builtin "property.__get__")))
    (p3_answers : PySem.W.takesIn K (.ref p_answers) = some true)
    (apanswers : PySem.W.recIn K p_answers "property" = some ((.ref fpanswers) :: r_answers))
    (lpanswers : K.lookup fpanswers = some ⟨ocpanswers, odpanswers, .func (PySem.W.fnOf "answers" "Rows.answers" (defArgs s_Rows_answers) (defBody s_Rows_answers) (defScope s_Rows_answers) .none kVpanswers dcpanswers pmpanswers anpanswers cdpanswers ctpanswers), slpanswers⟩)
    (cpanswers : PySem.W.codeIn K cdpanswers "Rows.answers" = true)
    (kpanswers : PySem.W.keepIn K (.ref fpanswers) = true)
    (p1_fails : PySem.W.findIn K (.ref C) "fails" = some (some (.ref p_fails)))
    (p2_fails : PySem.W.specialIn K (.ref p_fails) "__get__" = some (some (.builtin "property.__get__")))
    (p3_fails : PySem.W.takesIn K (.ref p_fails) = some true)
    (apfails : PySem.W.recIn K p_fails "property" = some ((.ref fpfails) :: r_fails))
    (lpfails : K.lookup fpfails = some ⟨ocpfails, odpfails, .func (PySem.W.fnOf "fails" "Rows.fails" (defArgs s_Rows_fails) (defBody s_Rows_fails) (defScope s_Rows_fails) .none kVpfails dcpfails pmpfails anpfails cdpfails ctpfails), slpfails⟩)
    (cpfails : PySem.W.codeIn K cdpfails "Rows.fails" = true)
    (kpfails : PySem.W.keepIn K (.ref fpfails) = true)
    (p1_stops : PySem.W.findIn K (.ref C) "stops" = some (some (.ref p_stops)))
    (p2_stops : PySem.W.specialIn K (.ref p_stops) "__get__" = some (some (.builtin "property.__get__")))
    (p3_stops : PySem.W.takesIn K (.ref p_stops) = some true)
    (apstops : PySem.W.recIn K p_stops "property" = some ((.ref fpstops) :: r_stops))
    (lpstops : K.lookup fpstops = some ⟨ocpstops, odpstops, .func (PySem.W.fnOf "stops" "Rows.stops" (defArgs s_Rows_stops) (defBody s_Rows_stops) (defScope s_Rows_stops) .none kVpstops dcpstops pmpstops anpstops cdpstops ctpstops), slpstops⟩)
    (cpstops : PySem.W.codeIn K cdpstops "Rows.stops" = true)
    (kpstops : PySem.W.keepIn K (.ref fpstops) = true)
    (tp : PySem.W.nsIn K cStatics "thirdparty.any" = some none)
    (top : (l.prog.main.scope.names.lookup ("super" : Str)).isSome = false)
    (gR : PySem.W.nsIn K mainGlobals "InvalidRows" = some (some (.ref CR)))
    (xR : K.lookup CR = some (excClassObj nmR qnR CR NR bsR bmR true snR subR abR colR ddR k0R k1R k2R k3R k5R "ValueError.__new__"))
    (rvR : PySem.HandSPX.refsVE bmR = true)
    (saR : PySem.W.findIn K (.ref CR) "__setattr__" = some (some (.builtin "object.__setattr__")))
    (beR : PySem.W.subIn K (.ref CR) (.type "BaseException") = some true)
    (tyR : PySem.W.typeIn K (.ref CR) = some (.type "type"))
    (kpR : PySem.W.keepIn K (.ref CR) = true)
    (suR : PySem.W.ks_superIn K CR CR "__init__" = some (some (.builtin "ValueError.__init__")))
    (veR : PySem.W.subIn K (.ref CR) (.type "ValueError") = some true)
    (gaR : PySem.W.findIn K (.ref CR) "__getattribute__" = some (some (.builtin "BaseException.__getattribute__")))
    (ggR : PySem.W.findIn K (.ref CR) "__getattr__" = some none)
    (hdR : PySem.W.hasDictIn K CR = true)
    (nfR : PySem.W.findIn K (.ref CR) "value" = some none)
    (iR : PySem.W.findIn K (.ref CR) "__init__" = some (some (.ref fR)))
    (lR : K.lookup fR = some ⟨ocR, odR, .func (PySem.W.ksFn "__init__" "InvalidRows.__init__" (defArgs s_InvalidRowsinit) (defBody s_InvalidRowsinit) (defScope s_InvalidRowsinit) .none kVR dcR pmR anR (.ref cR) ctR ccR), oslR⟩)
    (tR : PySem.W.typeIn K (.ref fR) = some (.type "function"))
    (cdR : PySem.W.codeIn K (.ref cR) "InvalidRows.__init__" = true)
    (lcR : K.lookup cR = some ⟨cclR, cddR, .fields vsR, ccsR⟩)
    (v2R : vsR[2]? = some (.str flR tfR))
    (fiR : ((l.prog.main.file : Str) == flR) = true)
    (llR : K.lookup ccR = some ⟨clR, cldR, .cell (some (.ref CR)), cslR⟩)
    (subRR : PySem.W.subIn K (.ref CR) (.ref CR) = some true)
    : ∃ fd : FuncData, (∀ (s : Shared) (v : Value), BindsTo s fd ⟨[v], []⟩ [("_law_script", v)]) ∧ ∀ base : Heap, K.In base → base.Ns mainGlobals mg → Mc.FnG l.prog w K mg base CX0 8 fa fd ["_law_script"] (spLaw K) := by
  have Dg0 : Mc.Def K mg "is_integer" s_is_integer ["value"] := ⟨fg0, _, fun_mk (st := s_is_integer) lg0 cg0 kg0, PySem.W.mg_of X G ag0, (fun_mk (st := s_is_integer) lg0 cg0 kg0).binds (ps := ["value"]) fun _ _ _ _ _ _ us hl => match us, hl with | [_], _ => rfl⟩
  have Dg1 : Mc.Def K mg "is_count" s_is_count ["value"] := ⟨fg1, _, fun_mk (st := s_is_count) lg1 cg1 kg1, PySem.W.mg_of X G ag1, (fun_mk (st := s_is_count) lg1 cg1 kg1).binds (ps := ["value"]) fun _ _ _ _ _ _ us hl => match us, hl with | [_], _ => rfl⟩
  have Dg2 : Mc.Def K mg "_is_row" s_is_row ["value"] := ⟨fg2, _, fun_mk (st := s_is_row) lg2 cg2 kg2, PySem.W.mg_of X G ag2, (fun_mk (st := s_is_row) lg2 cg2 kg2).binds (ps := ["value"]) fun _ _ _ _ _ _ us hl => match us, hl with | [_], _ => rfl⟩
  have Dg3 : Mc.Def K mg "_law_pool" s_law_pool ["_law_script", "_law_k"] := ⟨fg3, _, fun_mk (st := s_law_pool) lg3 cg3 kg3, PySem.W.mg_of X G ag3, (fun_mk (st := s_law_pool) lg3 cg3 kg3).binds (ps := ["_law_script", "_law_k"]) fun _ _ _ _ _ _ us hl => match us, hl with | [_, _], _ => rfl⟩
  have Dg4 : Mc.Def K mg "_law_draw" s_law_draw ["_law_pool_here", "_law_many"] := ⟨fg4, _, fun_mk (st := s_law_draw) lg4 cg4 kg4, PySem.W.mg_of X G ag4, (fun_mk (st := s_law_draw) lg4 cg4 kg4).binds (ps := ["_law_pool_here", "_law_many"]) fun _ _ _ _ _ _ us hl => match us, hl with | [_, _], _ => rfl⟩
  have Dg5 : Mc.Def K mg "_law_told" s_law_told ["_law_some"] := ⟨fg5, _, fun_mk (st := s_law_told) lg5 cg5 kg5, PySem.W.mg_of X G ag5, (fun_mk (st := s_law_told) lg5 cg5 kg5).binds (ps := ["_law_some"]) fun _ _ _ _ _ _ us hl => match us, hl with | [_], _ => rfl⟩
  have Dg6 : Mc.Def K mg "_law_drawn" s_law_drawn ["_law_pool_here"] := ⟨fg6, _, fun_mk (st := s_law_drawn) lg6 cg6 kg6, PySem.W.mg_of X G ag6, (fun_mk (st := s_law_drawn) lg6 cg6 kg6).binds (ps := ["_law_pool_here"]) fun _ _ _ _ _ _ us hl => match us, hl with | [_], _ => rfl⟩
  have T : Txt K mg := ⟨PySem.W.mg_none_of X G z_isinstance, PySem.W.mg_none_of X G z_int, PySem.W.mg_none_of X G z_bool, PySem.W.mg_none_of X G z_len, PySem.W.mg_none_of X G z_all, PySem.W.mg_none_of X G z_range, PySem.W.mg_none_of X G z_repr, PySem.W.mg_none_of X G z_max, PySem.W.mg_none_of X G z_min, PySem.W.mg_none_of X G z_list, PySem.W.mg_none_of X G z_dict⟩
  have scR : Mx.SupC l.prog K mg CR := ⟨⟨⟨_, _, _, _, _, _, _, _, _, _, _, _, _, _, _, xR, rvR⟩, saR, beR, tyR, kpR⟩, suR, veR, tp, PySem.W.mg_none_of X G z_super, top⟩
  have sdR : Mx.SupD l.prog K "__init__" "InvalidRows.__init__" (defArgs s_InvalidRowsinit) (defBody s_InvalidRowsinit) (defScope s_InvalidRowsinit) CR fR _ cR ccR := ⟨_, _, _, _, _, _, _, _, _, _, _, _, _, _, _, _, _, _, rfl, lR, cdR, lcR, v2R, fiR, llR⟩
  have xfR : XfC K CR := ⟨gaR, ggR, beR, hdR⟩
  have glR := PySem.W.mg_of X G gR
  have cl : Cls K C := ⟨pg, hd, po, sa⟩
  have TC : CTxt K C := ⟨cl, n1, n2, n3⟩
  have gP := PySem.W.mg_of X G aC
  have IC : ICls K C := ⟨ha, hn, htk, ob, kit_same, fun n hn => by
    simp only [List.mem_cons, List.not_mem_nil, or_false] at hn
    rcases hn with rfl | rfl | rfl | rfl | rfl | rfl | rfl
    · exact kit_off (l := [.type "NoneType", .type "object"]) hd ty (by decide +kernel) (by simp)
    · exact kit_off (l := [.type "bool", .type "int", .type "object"]) hd ty (by decide +kernel) (by simp)
    · exact kit_off (l := [.type "int", .type "object"]) hd ty (by decide +kernel) (by simp)
    · exact kit_off (l := [.type "str", .type "object"]) hd ty (by decide +kernel) (by simp)
    · exact kit_off (l := [.type "list", .type "object"]) hd ty (by decide +kernel) (by simp)
    · exact kit_off (l := [.type "tuple", .type "object"]) hd ty (by decide +kernel) (by simp)
    · exact kit_off (l := [.type "dict", .type "object"]) hd ty (by decide +kernel) (by simp)⟩
  have M : Mk K C fI := ⟨mk, aI, iI, kc⟩
  have FI := fun_mk (st := s_Rowsinit) lI cI kI
  have FE := fun_mk (st := s_Rowseq) lE cE kE
  have FS := fun_mk (st := s_Rows_rows) lS cS kS
  have FM := fun_mk (st := s_Rows_greatest) lM cM kM
  have bI := FI.binds (ps := psR) fun _ _ _ _ _ _ us hl => match us, hl with | [_, _, _, _], _ => rfl
  have bK := kb_rows FI
  have bE := FE.binds (ps := ["self", "other"]) fun _ _ _ _ _ _ us hl => match us, hl with | [_, _], _ => rfl
  have bS := FS.binds (ps := ["self"]) fun _ _ _ _ _ _ us hl => match us, hl with | [_], _ => rfl
  have bM := FM.binds (ps := ["self"]) fun _ _ _ _ _ _ us hl => match us, hl with | [_], _ => rfl
  have F_answers := fun_mk (st := s_Rows_answers) lpanswers cpanswers kpanswers
  have b_answers := F_answers.binds (ps := ["self"]) fun _ _ _ _ _ _ us hl => match us, hl with | [_], _ => rfl
  have F_fails := fun_mk (st := s_Rows_fails) lpfails cpfails kpfails
  have b_fails := F_fails.binds (ps := ["self"]) fun _ _ _ _ _ _ us hl => match us, hl with | [_], _ => rfl
  have F_stops := fun_mk (st := s_Rows_stops) lpstops cpstops kpstops
  have b_stops := F_stops.binds (ps := ["self"]) fun _ _ _ _ _ _ us hl => match us, hl with | [_], _ => rfl
  have ef := hfa.symm.trans (PySem.W.mg_of X G aL)
  cases ef
  refine ⟨PySem.W.fnOf "law" "law" (defArgs s_law) (defBody s_law) (defScope s_law) .none kVL dcL pmL anL cdL ctL, fun s v => .of_eq rfl, fun base _ _ => ?_⟩
  · have c_int := ok_is_integer (P := l.prog) (w := w) (base := base) T Dg0
    have c_cnt := ok_is_count T Dg1 c_int
    have c_row := ok_is_row T Dg2 c_int c_cnt
    have ER : Mx.ExK l.prog w K mg base "InvalidRows" CR fR _ ["self", "value"] (Mx.spEx CR "value") := ⟨iR, tR, ok_InvalidRows sdR scR nfR, .all (fun us hl => match us, hl with | [_, _], _ => rfl), glR⟩
    have G0 := ok_rows FI T TC c_row
    have GX := Mx.fn_or G0 (ok_bad FI T TC c_row scR ER)
    have m_rows := ok_rl (P := l.prog) (w := w) (mg := mg) (base := base) FS TC ⟨aS, iS, kS⟩ bS
    have GE := ok_eq FE T TC IC gP m_rows
    have m_great := ok_greatest (P := l.prog) (w := w) (mg := mg) (base := base) FM T TC ⟨aM, iM, kM⟩ bM
    have pr_answers := ok_answers (P := l.prog) (w := w) (mg := mg) (base := base) F_answers T TC ⟨p1_answers, p2_answers, p3_answers, ⟨_, apanswers⟩⟩ b_answers
    have pr_fails := ok_fails (P := l.prog) (w := w) (mg := mg) (base := base) F_fails T TC ⟨p1_fails, p2_fails, p3_fails, ⟨_, apfails⟩⟩ b_fails
    have pr_stops := ok_stops (P := l.prog) (w := w) (mg := mg) (base := base) F_stops T TC ⟨p1_stops, p2_stops, p3_stops, ⟨_, apstops⟩⟩ b_stops
    have c_pool := ok_pool (P := l.prog) (w := w) (base := base) T Dg3
    have c_draw := ok_draw (P := l.prog) (w := w) (base := base) T Dg4
    have c_drawn := ok_drawn T Dg6 c_draw
    have c_told := ok_told Dg5 T M gP bI GX ER xfR nfR (exm_is beR tyR hdR subRR)
    have FL := fun_mk (st := s_law) lL cL kL
    exact ok_law FL T TC M gP bI bK G0 GE ⟨aE, iE, ne, ob⟩ bE pr_answers pr_fails pr_stops m_great c_told c_pool c_draw c_drawn
end K2
open PySem PySem.W PyProof.Rows in
set_option maxRecDepth 100000 in
set_option maxHeartbeats 0 in
theorem PySem.Challenge.cw_mostcalls_k16_rows_holds : PySem.Challenge.rw_mostcalls_k16_rows.Holds := by
  w_on; o_law; k_head; (case hw => w_witness2)
  k_fill
  refine Mc.walk_run (l := PySem.Challenge.rw_mostcalls_k16_rows) (n := 63) (k := 8) (sp := fun K => K2.spLaw K) (x := "_law_script") rfl (by decide) rfl ⟨rfl, by decide, by decide⟩ (fun w h Y => PySem.W.kIn_of Y) ?F (fun K H a ns h1 _ h3 => ⟨a, ns, rfl, h3, h1, fun _ => rfl⟩)
  case F =>
    intro w mg fa h KX G hmg
    refine' K2.all_mk KX G hmg ?ag0 ?lg0 ?cg0 ?kg0 ?ag1 ?lg1 ?cg1 ?kg1 ?ag2 ?lg2 ?cg2 ?kg2 ?ag3 ?lg3 ?cg3 ?kg3 ?ag4 ?lg4 ?cg4 ?kg4 ?ag5 ?lg5 ?cg5 ?kg5 ?ag6 ?lg6 ?cg6 ?kg6 ?aL ?lL ?cL ?kL ?z_isinstance ?z_int ?z_bool ?z_len ?z_all ?z_range ?z_repr ?z_max ?z_min ?z_list ?z_dict ?z_super ?aC ?aI ?lI ?cI ?kI ?iI ?aE ?lE ?cE ?kE ?iE ?aS ?lS ?cS ?kS ?iS ?aM ?lM ?cM ?kM ?iM ?pg ?hd ?po ?sa ?mk ?kc ?n1 ?n2 ?n3 ?ne ?ob ?ha ?hn ?htk ?ty ?p1_answers ?p2_answers ?p3_answers ?apanswers ?lpanswers ?cpanswers ?kpanswers ?p1_fails ?p2_fails ?p3_fails ?apfails ?lpfails ?cpfails ?kpfails ?p1_stops ?p2_stops ?p3_stops ?apstops ?lpstops ?cpstops ?kpstops ?tp ?top ?gR ?xR ?rvR ?saR ?beR ?tyR ?kpR ?suR ?veR ?gaR ?ggR ?hdR ?nfR ?iR ?lR ?tR ?cdR ?lcR ?v2R ?fiR ?llR ?subRR
    (case ag0 => k_is)
    (case lg0 => k_is)
    (case cg0 => k_is)
    (case kg0 => k_is)
    (case ag1 => k_is)
    (case lg1 => k_is)
    (case cg1 => k_is)
    (case kg1 => k_is)
    (case ag2 => k_is)
    (case lg2 => k_is)
    (case cg2 => k_is)
    (case kg2 => k_is)
    (case ag3 => k_is)
    (case lg3 => k_is)
    (case cg3 => k_is)
    (case kg3 => k_is)
    (case ag4 => k_is)
    (case lg4 => k_is)
    (case cg4 => k_is)
    (case kg4 => k_is)
    (case ag5 => k_is)
    (case lg5 => k_is)
    (case cg5 => k_is)
    (case kg5 => k_is)
    (case ag6 => k_is)
    (case lg6 => k_is)
    (case cg6 => k_is)
    (case kg6 => k_is)
    (case aL => k_is)
    (case lL => k_is)
    (case cL => k_is)
    (case kL => k_is)
    (case z_isinstance => k_is)
    (case z_int => k_is)
    (case z_bool => k_is)
    (case z_len => k_is)
    (case z_all => k_is)
    (case z_range => k_is)
    (case z_repr => k_is)
    (case z_max => k_is)
    (case z_min => k_is)
    (case z_list => k_is)
    (case z_dict => k_is)
    (case z_super => k_is)
    (case aC => k_is)
    (case aI => k_is)
    (case lI => k_is)
    (case cI => k_is)
    (case kI => k_is)
    (case iI => k_is)
    (case aE => k_is)
    (case lE => k_is)
    (case cE => k_is)
    (case kE => k_is)
    (case iE => k_is)
    (case aS => k_is)
    (case lS => k_is)
    (case cS => k_is)
    (case kS => k_is)
    (case iS => k_is)
    (case aM => k_is)
    (case lM => k_is)
    (case cM => k_is)
    (case kM => k_is)
    (case iM => k_is)
    (case pg => k_is)
    (case hd => k_is)
    (case po => k_is)
    (case sa => k_is)
    (case mk => k_is)
    (case kc => k_is)
    (case n1 => k_is)
    (case n2 => k_is)
    (case n3 => k_is)
    (case ne => k_is)
    (case ob => k_is)
    (case ha => k_is)
    (case hn => k_is)
    (case htk => k_is)
    (case ty => k_is)
    (case p1_answers => k_is)
    (case p2_answers => k_is)
    (case p3_answers => k_is)
    (case apanswers => k_is)
    (case lpanswers => k_is)
    (case cpanswers => k_is)
    (case kpanswers => k_is)
    (case p1_fails => k_is)
    (case p2_fails => k_is)
    (case p3_fails => k_is)
    (case apfails => k_is)
    (case lpfails => k_is)
    (case cpfails => k_is)
    (case kpfails => k_is)
    (case p1_stops => k_is)
    (case p2_stops => k_is)
    (case p3_stops => k_is)
    (case apstops => k_is)
    (case lpstops => k_is)
    (case cpstops => k_is)
    (case kpstops => k_is)
    (case tp => k_is)
    (case top => first | rfl | decide +kernel)
    (case gR => k_is)
    (case xR => k_is)
    (case rvR => first | decide +kernel | rfl)
    (case saR => k_is)
    (case beR => k_is)
    (case tyR => k_is)
    (case kpR => k_is)
    (case suR => first | ks_is | k_is | kernel_rfl)
    (case veR => k_is)
    (case gaR => k_is)
    (case ggR => k_is)
    (case hdR => k_is)
    (case nfR => k_is)
    (case iR => k_is)
    (case lR => k_is)
    (case tR => k_is)
    (case cdR => k_is)
    (case lcR => k_is)
    (case v2R => first | rfl | decide +kernel)
    (case fiR => first | rfl | decide +kernel)
    (case llR => k_is)
    (case subRR => k_is)
