import PyProof.Rows.All
import Wide.All
import OpenK.AllK
import Wide.FinOn
import HandS.ForMost
import HandS.EndBits
import HandS.MakeKwOnly
import HandS.Property
import HandS.IsInst
import HandS.TupMul
import PyProof.ReprRoads
import HandS.Walk
import PySem.Challenge.RW_mostcalls_k02_policies
set_option Elab.async false
set_option maxRecDepth 100000
set_option linter.all false
set_option maxHeartbeats 4000000
namespace Mc
open PySem PySem.Spec PyProof.Rows L2

/-! ### repr of data -/
def rRepr (K : PySem.W.Frag) : List V → Hp → VK → Prop := fun xs H Q =>
  ∃ (a : Addr) (d : PyData), xs = [.ref a] ∧ Dp K H (.ref a) d ∧ d.showable = true ∧ d.hasDict = false ∧ d.depth ≤ 40 ∧ d.shown.length ≤ sizeLine ∧ Q (.str d.shown) H

theorem call_repr {X : Cx} (hg : X.A.guards = some []) (hu : X.A.units + 64 < cLine) : CallR X (.builtin "repr") (rRepr X.K) := by
  intro pins s σ H xs us Q I r h
  obtain ⟨a, d, rfl, hd, hs, hx, hdp, hz, q⟩ := h
  cases r with
  | cons ru rn =>
    cases rn
    cases ru
    obtain ⟨as, R⟩ := Dp.reads I d _ _ hd rfl
    exact repr_of_reads' R hs (fun e => by rw [hx] at e; cases e) hg (by omega) (fun b o e => e)
      (fun h' u tk hk => ⟨.str d.shown, H, I.kept hk, ⟨u, rfl⟩, q⟩) hz

/-! ### a def that is run where no repr is under way -/
structure FnG (P : Program) (w : World) (K : PySem.W.Frag) (mg : Str → Option Value) (base : Heap) (CX : CXT) (k : Nat) (f : Addr) (fd : FuncData) (ps : List Str) (sp : Sp) : Prop where
  len : ∀ vs H Q E, sp vs H Q E → vs.length = ps.length
  run : ∀ (A : Around) (outer : List Env) (s : Shared) (H : Hp) (args : Args) (us : List Value) (vs : List V) (Q : VK) (E : XK),
    A.guards = some [] → Room k A → Env0 P w K mg base A outer s H → BindsTo s fd args (ps.zip us) → Vals vs us → sp vs H Q E →
    codeAny (model P w) A (.call (.ref f) args) (CR CX outer P w H s Q E) s

theorem fnG_of {CX : CXT} {P : Program} {w : World} {K : PySem.W.Frag} {mg : Str → Option Value} {base : Heap} {k : Nat} {f : Addr} {x qual : Str} {st : Stmt} {fd : FuncData}
    {N ps : List Str} {sp : Sp} (F : Fun K x qual st f fd) (S : FnScope N ps (defScope st)) (len : ∀ vs H Q E, sp vs H Q E → vs.length = ps.length)
    (hbody : ∀ (cdv : Value) (A : Around) (outer : List Env) (s : Shared) (H : Hp) (vs : List V) (Q : VK) (E : XK), A.guards = some [] →
      Room k (A.deeper (envOfC qual (defScope st) s.heap.objs.size f cdv)) → sp vs H Q E →
      ∃ t, PSs (cxOf CX P w K mg base N qual (defScope st) f cdv A outer s H E).nox (defBody st) t ∧ t { nx := fun _ H' => Q .non H', rt := Q } (start N vs) H) :
    FnG P w K mg base CX (k + 1) f fd ps sp := by
  obtain ⟨oc, od, kV, doc, pm, an, cdv, ct, osl, rfl, lk, hcd⟩ := F.ex
  constructor
  · exact len
  intro A outer s H args us vs Q E hg room env bind rel want
  have inh : K.In s.heap := env.mod.kin.keeps fun b o e => (env.bs b o e).1
  have nol : s.heap.NoLimit := env.mod.nolimit.keeps fun b o e => (env.bs b o e).1
  have kinds : ∀ y ∈ ps.zip us, (defScope st).names.lookup y.1 = some .local ∨
      ((defScope st).names.lookup y.1 = some .cell ∧ ((cellsFrom (s.heap.objs.size + 1) (defScope st).names []).lookup y.1).isSome = true) := by
    rintro ⟨n, v⟩ hy
    have hn := (List.of_mem_zip hy).1
    rcases S.par n hn with q | q
    · exact Or.inl q
    · exact Or.inr ⟨q, PySem.W.cellsFrom_some _ _ _ (Or.inl q)⟩
  have go := hbody cdv A outer s H vs Q E hg (room.deeper _) want
  obtain ⟨t, ht0, hq⟩ := go
  have ht := ht0.nox
  refine codeAny_call_function room.depth (inh _ _ lk) rfl S.co S.gen rfl (PySem.W.codeRec_of inh hcd) (bind _ _ _ _ ?_)
  refine wpAny_newFunctionEnv_cells S.kind kinds fun en hen s1 inc => ?_
  subst hen
  refine ⟨nol.keeps inc.toInCall.keep, codeAny_func ?_⟩
  have J := inv_start (CX := CX) (E := E) S room.hd env (len _ _ _ _ want) rel inc
  have R := ht.run [] s1 (start N vs) H _ J hq
  refine wpAny_mono R ?_ (fun _ _ z => z)
  intro fl s' z
  cases fl with
  | next => obtain ⟨σ', H', J', q⟩ := z; exact ⟨V.non, H', J'.os, J'.bare, J'.base, J'.hok, rfl, q⟩
  | ret u => obtain ⟨v, σ', H', J', rv, q⟩ := z; exact ⟨v, H', J'.os, J'.bare, J'.base, J'.hok, rv, q⟩
  | brk => obtain ⟨_, _, _, q⟩ := z; exact False.elim q
  | cont => obtain ⟨_, _, _, q⟩ := z; exact False.elim q

/-! ### the law, run by the claim's caller -/
theorem law_run {P : Program} {w : World} {K : PySem.W.Frag} {mg mb : Str → Option Value} {k : Nat} {fa a : Addr} {fd : FuncData} {x : Str} {sp : Sp} {s1 : Shared} {vs : List Value} {ns : List Int}
    (inK : K.In s1.heap) (gl : s1.heap.Ns mainGlobals mg) (bl : s1.heap.Ns builtinsNs mb) (bb : ∀ y : Str, y ≠ "__name__" → mb y = bootBuiltins y) (nl : s1.heap.NoLimit) (ge : s1.gens = #[])
    (obj : s1.heap.get? a = some { cls := .type "list", data := .seq vs.toArray }) (hIn : IntsAre vs ns) (len : ns.length ≤ sizeLine) (room : Room k callerA)
    (F : ∀ base : Heap, K.In base → base.Ns mainGlobals mg → FnG P w K mg base CX0 k fa fd [x] sp) (bnd : ∀ (s : Shared) (u : Value), BindsTo s fd ⟨[u], []⟩ [(x, u)])
    (pr : ∀ H : Hp, Only H → SqL K H a (ns.map V.int) → sp [.ref a] H (fun v _ => v = .bl true) E0) :
    codeAny (model P w) callerA (.call (.ref fa) ⟨[.ref a], []⟩) (fun r s' => r = .ok (.ret (.bool true)) ∧ OldK s1.heap s'.heap ∧ s'.os = s1.os ∧ AllBare s'.gens) s1 := by
  have rel := vals_ints hIn
  have lv := hIn.length
  have main : ∀ H : Hp, Only H → SqL K H a (ns.map V.int) → HOk P w H s1.heap → (∀ b, H b ≠ none → b = a) → (H a ≠ none → K.lookup a = none) →
      codeAny (model P w) callerA (.call (.ref fa) ⟨[.ref a], []⟩) (fun r s' => r = .ok (.ret (.bool true)) ∧ OldK s1.heap s'.heap ∧ s'.os = s1.os ∧ AllBare s'.gens) s1 := by
    intro H onl sq hok onlyA freeK
    have noD : ∀ {b : Addr} {o : Obj} {es : Array DictEntry} {n : Nat}, s1.heap.get? b = some o → o.data = .dict es n → H b = none := by
      intro b o es n e d
      rcases hq : H b with _ | u
      · rfl
      · have eb : b = a := onlyA b (by rw [hq]; intro z; cases z)
        rw [eb, obj] at e
        cases e
        exact Data.noConfusion d
    have keepNs : ∀ {b : Addr} {m : Str → Option Value}, s1.heap.Ns b m → (hidT s1.heap H).Ns b m := by
      rintro b m ⟨o, es, n, e, d, r⟩
      exact ⟨o, es, n, hidT_get e (noD e d), d, r⟩
    have inB : K.In (hidT s1.heap H) := by
      intro b o e
      refine hidT_get (inK b o e) ?_
      rcases hq : H b with _ | u
      · rfl
      · have nn : H b ≠ none := by rw [hq]; intro z; cases z
        have eb := onlyA b nn
        rw [eb] at nn e
        rw [freeK nn] at e
        cases e
    obtain ⟨mc, c1, c2⟩ := nl
    have md : Mod K mg (hidT s1.heap H) := ⟨inB, keepNs gl, ⟨mb, keepNs bl, bb⟩, ⟨mc, keepNs c1, c2⟩⟩
    have env : Env0 P w K mg (hidT s1.heap H) callerA [] s1 H :=
      ⟨rfl, md, fun b o e => of_hidT e, Nat.le_of_eq (hidT_size _ _), trivial, (fun b hb => (List.not_mem_nil (show b ∈ ([] : List Addr) from hb)).elim), hok, AllBare.of_eq ge⟩
    have R := (F _ inB (keepNs gl)).run callerA [] s1 H ⟨[.ref a], []⟩ [.ref a] [.ref a] (fun v _ => v = .bl true) E0 rfl room env (bnd s1 (.ref a)) (.cons rfl .nil) (pr H onl sq)
    refine codeAny_mono R ?_
    intro r s' z
    match r, z with
    | .ok (.ret u), z =>
      obtain ⟨v, H', eo, br, un, hok', rv, ev⟩ := z
      subst ev
      cases rv
      refine ⟨rfl, OldK.of_keep ?_, eo, br⟩
      intro b o e
      rcases hq : H b with _ | u
      · exact un.keep b o e hq (fun z => (List.not_mem_nil (show b ∈ ([] : List Addr) from z)).elim) (fun z => (List.not_mem_nil z).elim)
      · rcases onl b with q | ⟨ob, xs, q⟩
        · rw [hq] at q
          cases q
        · have f1 := (hok b _ q).1
          have f2 := (hok' b _ (un.frzs b ob _ q)).1
          rw [e] at f1
          cases f1
          exact f2
  rcases hk : K.lookup a with _ | o
  · let H : Hp := fun b => if b = a then some (.frz { cls := .type "list", data := .seq vs.toArray } (.lst (ns.map V.int))) else none
    have at_a : H a = some (.frz { cls := .type "list", data := .seq vs.toArray } (.lst (ns.map V.int))) := if_pos rfl
    have off : ∀ b, b ≠ a → H b = none := fun b hb => if_neg hb
    refine main H (fun b => ?_) (.inl (.inr ⟨_, at_a⟩)) (fun b u z => ?_) (fun b z => ?_) (fun _ => hk)
    · by_cases hb : b = a
      · subst hb
        exact Or.inr ⟨_, _, at_a⟩
      · exact Or.inl (off b hb)
    · by_cases hb : b = a
      · subst hb
        rw [at_a] at z
        cases z
        exact ⟨obj, by rw [List.length_map]; exact len, vs, _, rel, obj⟩
      · rw [off b hb] at z
        cases z
    · by_cases hb : b = a
      · exact hb
      · exact absurd (off b hb) z
  · have e := inK a o hk
    rw [obj] at e
    cases e
    refine main (fun _ => none) (fun _ => Or.inl rfl) (Or.inr ⟨_, vs.toArray, _, hk, rfl, rfl, rfl, ?_, by simpa using rel⟩) (fun b u z => nomatch z) (fun b z => absurd rfl z) (fun z => absurd rfl z)
    rw [List.size_toArray, lv]
    exact len

theorem walk_run {l : PySem.W.OpenLaw} {n k : Nat} {q : Program} {loose : List Str} {XP : (Str → Option Value) → Heap → Prop} {YP : World → Heap → Prop} {d : DefRec} {K : Params → PySem.W.Frag} {sp : PySem.W.Frag → Sp} {x : Str}
    (hn : l.most = some n) (hn2 : n ≤ sizeLine) (hdf : d.params.defaults = []) (room : Room k callerA) (hY : ∀ (w : World) (h : Heap), YP w h → (K w.params).In h)
    (F : ∀ (w : World) (mg : Str → Option Value) (fa : Addr) (h : Heap), (K w.params).In h → h.Ns mainGlobals mg → mg d.name = some (.ref fa) →
      ∃ fd : FuncData, (∀ (s : Shared) (u : Value), BindsTo s fd ⟨[u], []⟩ [(x, u)]) ∧
        ∀ base : Heap, (K w.params).In base → base.Ns mainGlobals mg → FnG l.prog w (K w.params) mg base CX0 k fa fd [x] (sp (K w.params)))
    (pr : ∀ (K : PySem.W.Frag) (H : Hp) (a : Addr) (ns : List Int), ns.length ≤ n → (∀ z ∈ ns, Builtin.Int.intBits z ≤ 1048576) → SqL K H a (ns.map V.int) → sp K [.ref a] H (fun v _ => v = .bl true) E0) :
    PySem.W.WalkO q loose XP YP l.row.toRowW d [] (fun f vs => PySem.call f vs) := by
  refine Att.attach_callB hn hdf ?_
  intro w s0 s1 mg mb fa o pm cd doc a vs ns G Y ho hd hcd hmg hobj hints hlen hbits hg
  obtain ⟨fd, hb, hF⟩ := F w mg fa _ (hY w _ Y) G.T.g hmg
  exact law_run (hY w _ Y) G.T.g G.T.b G.T.builtins G.T.nolimit hg hobj hints (Nat.le_trans hlen hn2) room hF hb (fun H _ hS => pr _ H a ns hlen hbits hS)
end Mc

namespace Mc
open PySem PySem.Spec PyProof.Rows L2

/-! ### == and != of an instance with the text's own `__eq__` -/
/-- the other side's type -/
inductive RT (H : Hp) : V → Value → Prop where
  | non : RT H .non (.type "NoneType")
  | int (i : Int) : RT H (.int i) (.type "int")
  | bl (b : Bool) : RT H (.bl b) (.type "bool")
  | str (z : Str) : RT H (.str z) (.type "str")
  | lst {a : Addr} {xs : List V} (e : H a = some (.lst xs)) : RT H (.ref a) (.type "list")
  | dK {a : Addr} {xs : List (Key × V)} (e : H a = some (.dK xs)) : RT H (.ref a) (.type "dict")
  | ins {a C dx : Addr} {fs : List (Str × V)} (e : H a = some (.ins C dx fs)) : RT H (.ref a) (.ref C)

theorem typ_at {M : Model} {h : Heap} {y : Addr} {o : Obj} {c : Value} (ho : h.get? y = some o) (hc : o.cls = c) : PySem.W.Looks M h (typeOf (.ref y)) c :=
  hc ▸ (PySem.W.Looks.ld ho).andThen .now

theorem RT.looks {X : Cx} {pins : List (Addr × Obj)} {σ : L2.St} {H : Hp} {s : Shared} {M : Model} {y : V} {u t : Value} (I : Inv X pins σ H s) (r : RT H y t) (ru : RelV y u) : PySem.W.Looks M s.heap (typeOf u) t := by
  cases r with
  | non => cases (show u = Value.none from ru); exact PySem.W.Looks.of_pure rfl
  | int i => obtain ⟨k, q⟩ := (show ∃ k, u = Value.int i k from ru); cases q; exact PySem.W.Looks.of_pure rfl
  | bl b => cases (show u = Value.bool b from ru); exact PySem.W.Looks.of_pure rfl
  | str z => obtain ⟨k, q⟩ := (show ∃ k, u = Value.str z k from ru); cases q; exact PySem.W.Looks.of_pure rfl
  | @lst a xs e =>
    cases (show u = Value.ref a from ru)
    obtain ⟨_, _, n, _, h1⟩ := (show ObjOk X.prog X.w H s.heap a (.lst xs) from I.hok a _ e)
    exact typ_at h1 rfl
  | @dK a xs e =>
    cases (show u = Value.ref a from ru)
    obtain ⟨_, _, vs, _, o, es, ep, h1, h2, _⟩ := (show ObjOk X.prog X.w H s.heap a (.dK xs) from I.hok a _ e)
    exact typ_at h1 h2.1
  | @ins a C dx fs e =>
    cases (show u = Value.ref a from ru)
    obtain ⟨mA, J, _⟩ := ins_get I.hok e
    obtain ⟨od, J, _⟩ := J.look
    exact J.type

theorem nf_ins {K : PySem.W.Frag} {C : Addr} : PySem.W.notFirst K C (.ref C) = true := by simp [PySem.W.notFirst]
theorem nf_ty {K : PySem.W.Frag} {C : Addr} {n : String} {l : List Value} (e : fastBuiltinMro n = some l) (hl : l.contains (.ref C) = false) : PySem.W.notFirst K C (.type n) = true := by
  have q : PySem.W.subIn K (.type n) (.ref C) = some false := by
    show (fastBuiltinMro n).map (·.contains (.ref C)) = some false
    rw [e, Option.map_some, hl]
  simp [PySem.W.notFirst, q]
theorem nf_none {K : PySem.W.Frag} {C : Addr} : PySem.W.notFirst K C (.type "NoneType") = true := nf_ty (l := [.type "NoneType", .type "object"]) (by decide +kernel) (by simp)
theorem nf_int {K : PySem.W.Frag} {C : Addr} : PySem.W.notFirst K C (.type "int") = true := nf_ty (l := [.type "int", .type "object"]) (by decide +kernel) (by simp)
theorem nf_list {K : PySem.W.Frag} {C : Addr} : PySem.W.notFirst K C (.type "list") = true := nf_ty (l := [.type "list", .type "object"]) (by decide +kernel) (by simp)

section
variable {prog : Program} {w : World} {A : Around} {E : Value → Shared → Prop} {s : Shared} {K : PySem.W.Frag} {x C L f : Addr} {h0 : Heap} {m : Str → Option Value} {ox : Obj} {od : Option Obj} {b tb : Value}
open PySem.W
theorem bound_ne {M : Model} {args : List Value} {Q : Option Value → Shared → Prop} (X : K.In s.heap) (I : InstAt s.heap x ox C od) (hs : findIn K (.ref C) "__ne__" = some (some (.builtin "object.__ne__")))
    (h : wpAny M A (call (.builtin "object.__ne__") (.ref x :: args)) (fun v => Q (some v)) E s) : wpAny M A (callSpecialIfBound? (.ref x) "__ne__" args) Q E s := by
  have all : wpAny M A (call (.builtin "object.__ne__") ([.ref x] ++ args) >>= fun v => pure (some v)) Q E s :=
    wpAny_bind (wpAny_mono h (fun v s' q => wpAny_pure q) (fun _ _ q => q))
  simp only [callSpecialIfBound?, bindSpecialIfBound?]
  refine wpAny_holding (wpAny_bind (wpAny_bind (wpAny_bind (I.type.here ((looks_findIn X hs).here ?_)))))
  refine wpAny_bind (wpAny_askSetting (wpAny_ite ?_))
  split
  · exact wpAny_bind (wpAny_of_eq (F.cmp_object.ne.bind _) (wpAny_pure (by exact all)))
  · exact wpAny_tryCatch (wpAny_bind (wpAny_of_eq (F.cmp_object.ne.bind _) (wpAny_pure (by exact all))))

theorem ne_body (hu : A.units < cLine) (X : K.In s.heap) (I : InstAt s.heap x ox C od) (he : findIn K (.ref C) "__eq__" = some (some (.ref f))) (hf : isFn K (.ref f) = true) {Q : Fin → Shared → Prop}
    (h : wpAny (model prog w) A (call (.ref f) [.ref x, b]) (fun v s' => ∃ r, v = .bool r ∧ Q (.done (.ret (.bool (!r)))) s') E s) :
    wpAny (model prog w) A (Builtin.«object.__ne__» ⟨[.ref x, b], []⟩) Q E s := by
  unfold Builtin.«object.__ne__»
  repeat (first
    | with_reducible refine wpAny_cRoomFor hu ?_
    | (refine wpAny_bind (m := callSpecialIfBound? (.ref x) (Str.ofString "__eq__") [b]) (ifBound_K X I he hf (wpAny_mono h (fun v s' q => ?_) fun _ _ e => e)); obtain ⟨r, rfl, q⟩ := q)
    | exact q
    | exact wpAny_pure q
    | (refine wpAny_bind (m := truthy (.bool _)) (wpAny_truthy_bool ?_))
    | wp_step)

theorem ne_K (hu : A.units + 1 < cLine) (Fm : Fr h0 L s.heap m) (X0 : K.In h0) (I : InstAt s.heap x ox C od) (hb : Looks (model prog w) s.heap (typeOf b) tb) (hn : notFirst K C tb = true)
    (hs : findIn K (.ref C) "__ne__" = some (some (.builtin "object.__ne__"))) (he : findIn K (.ref C) "__eq__" = some (some (.ref f))) (hf : isFn K (.ref f) = true) (hm : mroIn K C (.type "object") = some true)
    {Q : Value → Shared → Prop} (h : wpAny (model prog w) A.in1 (call (.ref f) [.ref x, b]) (fun v s' => ∃ r, v = .bool r ∧ Q (.bool (!r)) s') E s) :
    wpAny (model prog w) A (richCompare .NotEq (.ref x) b) Q E s := by
  have X := X0.keeps Fm.keep
  have one : wpAny (model prog w) A (tryCompare (.ref x) (cmpInfo .NotEq).2.1 b) (fun r s' => ∃ v, r = some v ∧ Q v s') E s := by
    unfold tryCompare
    refine wpAny_bind (bound_ne X I hs (wpAny_call (codeAny_call_builtin F.cmp_object.ne.plain F.cmpEntry_ne (check_slot F.cmpKind_ne F.cmpSplit_ne (I.type.andThen (looks_mroIn X hm)) (F.cmpArgs_ne _ _) ?_))))
    refine ne_body (A := A.in1) (by show A.units + 1 < cLine; exact hu) X I he hf (wpAny_mono h (fun v s' q => ?_) fun _ _ e => e)
    obtain ⟨r, rfl, q⟩ := q
    first | exact ⟨r, rfl, wpAny_pure ⟨_, rfl, q⟩⟩ | exact ⟨r, rfl, ⟨_, rfl, q⟩⟩ | exact ⟨r, rfl, wpAny_pure (wpAny_pure ⟨_, rfl, q⟩)⟩
  unfold richCompare
  simp only [oneThing_ref]
  refine wpAny_holding (wpAny_bind (wpAny_cRoomFor (Nat.lt_of_succ_lt hu) ?_))
  refine wpAny_bind (I.type.here (wpAny_bind (hb.here ?_)))
  have fin : wpAny (model prog w) A (tryCompare (.ref x) (cmpInfo .NotEq).2.1 b) (fun r s' => ∃ v, r = some v ∧ Q v s') E s := one
  split
  · rename_i q
    have e : subIn K tb (.ref C) = some false := by
      rcases Bool.or_eq_true_iff.mp hn with e | e
      · rw [beq_iff_eq.mp e] at q
        simp at q
      · exact beq_iff_eq.mp e
    refine wpAny_bind ((looks_subIn X e).here ?_)
    simp only [Bool.false_eq_true, if_false]
    refine wpAny_bind (wpAny_mono one ?_ fun _ _ e => e)
    rintro r s' ⟨v, rfl, hq⟩
    exact wpAny_pure hq
  · refine wpAny_bind (wpAny_pure ?_)
    simp only [Bool.false_eq_true, if_false]
    refine wpAny_bind (wpAny_mono one ?_ fun _ _ e => e)
    rintro r s' ⟨v, rfl, hq⟩
    exact wpAny_pure hq
end

section
variable {X : Cx} {CX : CXT} {k : Nat} {C f : Addr} {fd : FuncData} {ps : List Str} {sp : Sp} {E : XK}
/-- the way a def is run from within, at another place that has the same frames -/
theorem run_in {A : Around} {pins : List (Addr × Obj)} {σ : L2.St} {H : Hp} {s : Shared} {Q : VK} {us : List Value} {vs : List V} (fr : A.frames = X.A.frames) (G : FnOk X.prog X.w X.K X.mg X.base CX k f fd ps sp) (hr : Room k A)
    (hb : Binds X.K fd ps []) (hx : Passes CX X E) (I : Inv X pins σ H s) (r : Vals vs us) (h : sp vs H Q E) : wpAny (model X.prog X.w) A (call (.ref f) us) (EP X pins σ Q) X.xe s := by
  have e0 : Env0 X.prog X.w X.K X.mg X.base A X.stack s H := by
    have e := I.env0
    exact ⟨fr.trans e.frames, e.mod, e.bs, e.bsz, e.funs, e.frf, e.hok, e.bare⟩
  have hl : (us ++ ([] : List Value)).length = ps.length := by
    rw [List.append_nil, ← r.length]
    exact G.len _ _ _ _ h
  have bd := hb s us I.kIn hl
  rw [List.append_nil] at bd
  refine wpAny_call (codeAny_mono (G.run A X.stack s H ⟨us, []⟩ us vs Q E hr e0 bd r h) ?_)
  intro z s' hz
  match z, hz with
  | .error e, hz => exact hx pins σ H s e s' I hz
  | .ok (.ret u), hz => exact I.after hz

def rCmpO (C : Addr) (sp : Sp) (E : XK) (K : PySem.W.Frag) (neg : Bool) : R2 := fun x y H Q => ∃ (a dx : Addr) (fs : List (Str × V)) (t : Value), x = .ref a ∧ H a = some (.ins C dx fs) ∧ RT H y t ∧ PySem.W.notFirst K C t = true ∧
  sp [x, y] H (fun v H' => ∃ b, v = .bl b ∧ Q (.bl (if neg then !b else b)) H') E

structure OwnCmp (K : PySem.W.Frag) (C f : Addr) : Prop where
  eq : PySem.W.findIn K (.ref C) "__eq__" = some (some (.ref f))
  fn : PySem.W.isFn K (.ref f) = true
  ne : PySem.W.findIn K (.ref C) "__ne__" = some (some (.builtin "object.__ne__"))
  ob : PySem.W.mroIn K C (.type "object") = some true

theorem op_eqO (G : FnOk X.prog X.w X.K X.mg X.base CX k f fd ps sp) (O : OwnCmp X.K C f) (hb : Binds X.K fd ps []) (hx : Passes CX X E) (hr : Room k X.A) : OpR X (compareOp .Eq) (rCmpO C sp E X.K false) := by
  intro pins s σ H x y u v Q I rx ry h
  obtain ⟨a, dx, fs, t, rfl, ha, rt, nf, q⟩ := h
  cases rx
  obtain ⟨mA, J, _⟩ := ins_get I.hok ha
  obtain ⟨od, J, _⟩ := J.look
  obtain ⟨m, hF⟩ := I.fr
  show wpAny (model X.prog X.w) X.A (richCompare .Eq (.ref a) v) (EP X pins σ Q) X.xe s
  refine PySem.W.cmp_K (op := .Eq) (tb := t) hr.units0 hF I.ok.mod.kin J (rt.looks I ry) nf O.eq O.fn ?_
  refine thn (run_in rfl G hr hb hx I (.cons (show RelV (.ref a) (.ref a) from rfl) (.cons ry .nil)) q) ?_
  rintro w s' ⟨z, H', I', rz, b, rfl, q'⟩
  cases rz
  exact ⟨.bl b, H', I', rfl, q'⟩

theorem op_neO (G : FnOk X.prog X.w X.K X.mg X.base CX k f fd ps sp) (O : OwnCmp X.K C f) (hb : Binds X.K fd ps []) (hx : Passes CX X E) (hr : Room (k + 1) X.A) : OpR X (compareOp .NotEq) (rCmpO C sp E X.K true) := by
  intro pins s σ H x y u v Q I rx ry h
  obtain ⟨a, dx, fs, t, rfl, ha, rt, nf, q⟩ := h
  cases rx
  obtain ⟨mA, J, _⟩ := ins_get I.hok ha
  obtain ⟨od, J, _⟩ := J.look
  obtain ⟨m, hF⟩ := I.fr
  show wpAny (model X.prog X.w) X.A (richCompare .NotEq (.ref a) v) (EP X pins σ Q) X.xe s
  refine ne_K (tb := t) (by have := hr.units; omega) hF I.ok.mod.kin J (rt.looks I ry) nf O.ne O.eq O.fn O.ob ?_
  refine thn (run_in (A := X.A.in1) rfl G hr.in1 hb hx I (.cons (show RelV (.ref a) (.ref a) from rfl) (.cons ry .nil)) q) ?_
  rintro w s' ⟨z, H', I', rz, b, rfl, q'⟩
  cases rz
  exact ⟨b, rfl, .bl (!b), H', I', rfl, q'⟩
end
end Mc

namespace Mc
open PySem PySem.Spec PyProof.Rows L2
open AutoSeq1 (wpAny_loadPart')

/-! ### a tuple times nought or one -/
theorem mul_nought (l : Addr) (y : Value) (n : Nat) (dd : Option Addr) (sl : Array (Option Value)) (u : Tok) :
    Meets (Builtin.«tuple.__mul__» ⟨[.ref l, .int 0 u], []⟩) (fun _ R s => s.heap.get? l = some { cls := .type "tuple", dict := dd, data := .seq #[y] n, slots := sl } ∧
      R (.ok (.ret (Value.ref s.heap.objs.size))) { s with heap := s.heap.push { cls := Value.type "tuple", data := Data.seq #[] }, toks := s.toks }) := by
  refine .of_wp ?_
  rintro prog w A R ⟨hp, g, d, tk, os⟩ ⟨hl, h⟩
  have f1 := AutoSeq1.idx_int
  wp_walk using wpAny_loadPart' hl
  exact ⟨_, rfl, h⟩
theorem mul_single (l : Addr) (y : Value) (n : Nat) (dd : Option Addr) (sl : Array (Option Value)) (u : Tok) :
    Meets (Builtin.«tuple.__mul__» ⟨[.ref l, .int 1 u], []⟩) (fun _ R s => s.heap.get? l = some { cls := .type "tuple", dict := dd, data := .seq #[y] n, slots := sl } ∧
      R (.ok (.ret (Value.ref l))) s) := by
  refine .of_wp ?_
  rintro prog w A R ⟨hp, g, d, tk, os⟩ ⟨hl, h⟩
  have f1 := AutoSeq1.idx_int
  wp_walk using wpAny_loadPart' hl
  exact ⟨_, rfl, h⟩

/-- (v,) * k, k of 0, 1, 2 -/
def rRepS (K : PySem.W.Frag) : R2 := fun x y H Q => ∃ (l : Addr) (k : Int) (v : V), x = .ref l ∧ y = .int k ∧ SqT K H l [v] ∧ 0 ≤ k ∧ k ≤ 1000 ∧
  (k = 1 → Q (.ref l) H) ∧ (k ≠ 1 → ∀ p, H p = none → Q (.ref p) (upd H p (.tup (List.replicate k.toNat v))))

theorem op_repS {X : Cx} : OpR X (binaryOp .Mult) (rRepS X.K) := by
  intro pins s σ H x y v u Q I rx ry h
  obtain ⟨l, k, z, rfl, rfl, hT, k0, k1, q1, q2⟩ := h
  by_cases hk : 2 ≤ k
  · refine op_repT pins s σ H (.ref l) (.int k) v u Q I rx ry ⟨l, k, [z], rfl, rfl, hT, by simp, hk, k1, (by show 1 ≤ 1000; decide), fun p hp => ?_⟩
    have e : (List.replicate k.toNat [z]).flatten = List.replicate k.toNat z := by
      generalize k.toNat = n
      induction n with
      | zero => rfl
      | succ n ih => rw [List.replicate_succ, List.flatten_cons, ih, List.replicate_succ]; rfl
    rw [e]
    exact q2 (by omega) p hp
  · cases rx
    obtain ⟨t, rfl⟩ := ry
    obtain ⟨its, r, ⟨⟨cls, dd, data, sl⟩, ho, hc, n, hd⟩, hs⟩ := I.tuple hT
    simp only at hc hd
    subst hc hd
    match its, r with
    | [y], .cons ry .nil =>
      have hk' : k = 0 ∨ k = 1 := by omega
      rcases hk' with rfl | rfl
      · refine wpAny_binaryOp_repeat_ref (T := "tuple") (U := "int") (by decide) ⟨_, ho, rfl⟩ (fun s' => typeIs_int s' 0 t) noFill_tuple_mul F.fills_int_mul F.slot_int_rmul repeat_tuple F.slot_int_index.lookup
          (call_meets F.slot_int_rmul (typeIs_int s 0 t) F.entry_int_rmul (F.args_int_rmul_2 _ _) (int_rmul_tuple 0 t l #[y] n dd sl)
            ⟨ho, rfl, ⟨_, ho, rfl⟩, call_meets F.slot_tuple_mul ⟨_, ho, rfl⟩ F.entry_tuple_mul (F.args_tuple_mul_2 _ _) (mul_nought l y n dd sl t) ⟨ho, ?_⟩⟩)
        refine ⟨.ref s.heap.objs.size, _, I.laid (t' := s.toks) (o := .tup []) (fun b ob q => Heap.get?_push_of_some _ q) (Nat.le_refl _) ?_, rfl, q2 (by decide) _ (I.hok.fresh (Nat.le_refl _))⟩
        exact ⟨Nat.zero_le _, _, .nil, IsTup.new _ _⟩
      · refine wpAny_binaryOp_repeat_ref (T := "tuple") (U := "int") (by decide) ⟨_, ho, rfl⟩ (fun s' => typeIs_int s' 1 t) noFill_tuple_mul F.fills_int_mul F.slot_int_rmul repeat_tuple F.slot_int_index.lookup
          (call_meets F.slot_int_rmul (typeIs_int s 1 t) F.entry_int_rmul (F.args_int_rmul_2 _ _) (int_rmul_tuple 1 t l #[y] n dd sl)
            ⟨ho, rfl, ⟨_, ho, rfl⟩, call_meets F.slot_tuple_mul ⟨_, ho, rfl⟩ F.entry_tuple_mul (F.args_tuple_mul_2 _ _) (mul_single l y n dd sl t) ⟨ho, ?_⟩⟩)
        exact ⟨.ref l, H, I, rfl, q1 rfl⟩
end Mc

namespace Mc
open PySem PySem.Spec PyProof.Rows L2

/-- a new tuple, a new list -/
abbrev TupG (Q : VK) (xs : List V) (H1 : Hp) : Prop := xs.length ≤ sizeLine ∧ ∀ p, H1 p = none → Q (.ref p) (upd H1 p (.tup xs))
abbrev LstG (Q : VK) (xs : List V) (H1 : Hp) : Prop := xs.length ≤ sizeLine ∧ ∀ p, H1 p = none → Q (.ref p) (upd H1 p (.lst xs))
section
variable {σ : L2.St} {H : Hp} {Q : VK} {QB : Bool → Hp → Prop} {QA : List V → Hp → Prop} {QS : L2.St → Hp → Prop} {D : Ends} {ta tb te : TE} {tt tu : TT} {t u : TS} {tr tk : TA} {r : R2} {v x y : V} {i : Nat} {K : PySem.W.Frag}
theorem g_var (h : σ[i]? = some (some v)) (q : Q v H) : tVar i σ H Q := ⟨v, h, q⟩
theorem g_c (q : Q v H) : tC v σ H Q := q
theorem g_op (q : ta σ H fun x H1 => tb σ H1 fun y H2 => r x y H2 Q) : tOp r ta tb σ H Q := q
theorem g_un {r : V → Hp → VK → Prop} (q : ta σ H fun x H1 => r x H1 Q) : tUn r ta σ H Q := q
theorem g_test (q : te σ H fun x H' => ∃ k, x = .bl k ∧ QB k H') : tTest te σ H QB := q
theorem g_B (q : te σ H fun x H' => ∃ k, x = .bl k ∧ QB k H') : tB te σ H QB := q
theorem g_bl {b : Bool} (q : QB b H) : ∃ k, V.bl b = .bl k ∧ QB k H := ⟨b, rfl, q⟩
theorem g_blV {b : Bool} {P : Bool → Prop} (q : P b) : ∃ k, V.bl b = .bl k ∧ P k := ⟨b, rfl, q⟩
theorem g_ifS (q : tt σ H fun b H1 => if b = true then t D σ H1 else u D σ H1) : tIfS tt t u D σ H := q
theorem g_if (q : tt σ H fun c H1 => if c = true then ta σ H1 Q else tb σ H1 Q) : tIf tt ta tb σ H Q := q
theorem g_not (q : tt σ H fun c H1 => QB (!c) H1) : tNot tt σ H QB := q
theorem g_and (q : tt σ H fun c H1 => if c = true then tu σ H1 QB else QB false H1) : tAnd tt tu σ H QB := q
theorem g_or (q : tt σ H fun c H1 => if c = true then QB true H1 else tu σ H1 QB) : tOr tt tu σ H QB := q
theorem g_notV (q : ta σ H fun x H1 => ∃ c, x = .bl c ∧ Q (.bl (!c)) H1) : tNotV ta σ H Q := q
theorem g_andV (q : ta σ H fun x H1 => ∃ c, x = .bl c ∧ if c = true then tb σ H1 Q else Q (.bl false) H1) : tAndV ta tb σ H Q := q
theorem g_orV (q : ta σ H fun x H1 => ∃ c, x = .bl c ∧ if c = true then Q (.bl true) H1 else tb σ H1 Q) : tOrV ta tb σ H Q := q
theorem g_seq (q : t { D with nx := u D } σ H) : tSeq t u D σ H := q
theorem g_next (q : D.nx σ H) : tNext D σ H := q
theorem g_asg {g : TG} (q : te σ H fun x H1 => g x σ H1 D.nx) : tAsg te g D σ H := q
theorem g_name (q : QS (σ.set i (some v)) H) : gName i v σ H QS := q
theorem g_drop (q : te σ H fun _ H1 => D.nx σ H1) : tDrop te D σ H := q
theorem g_ret (q : te σ H D.rt) : tRet te D σ H := q
theorem g_retN (q : D.rt .non H) : tRetN D σ H := q
theorem g_brk (q : D.bk σ H) : tBreak D σ H := q
theorem g_cont (q : D.ct σ H) : tCont D σ H := q
theorem g_call {sp : Sp} {dvs : List V} {E : XK} (q : tr σ H fun vs H1 => sp (vs ++ dvs) H1 Q E) : tCall sp dvs E tr σ H Q := q
theorem g_cb {r : List V → Hp → VK → Prop} (q : tr σ H fun vs H1 => r vs H1 Q) : tCB r tr σ H Q := q
theorem g_nil (q : QA [] H) : tNil σ H QA := q
theorem g_cons (q : te σ H fun x H1 => tr σ H1 fun xs H2 => QA (x :: xs) H2) : tCons te tr σ H QA := q
theorem g_tup (q : tr σ H fun xs H1 => TupG Q xs H1) : tTup tr σ H Q := q
theorem g_lst (q : tr σ H fun xs H1 => LstG Q xs H1) : tLst tr σ H Q := q
theorem g_prop {C : Addr} {sp : Sp} {dvs : List V} {E : XK} (q : ta σ H fun x H1 => ∃ a dx fs, x = .ref a ∧ H1 a = some (.ins C dx fs) ∧ sp (.ref a :: dvs) H1 Q E) : tProp C sp dvs E ta σ H Q := q
theorem g_fld {f : Str} (q : ta σ H fun x H1 => ∃ a C dx fs v, x = .ref a ∧ H1 a = some (.ins C dx fs) ∧ Cls K C ∧ NoAttr K C f ∧ fs.lookup f = some v ∧ Q v H1) : tFld K ta f σ H Q := q
theorem g_meth {C : Addr} {m : Str} {sp : Sp} {dvs : List V} {E : XK} (q : ta σ H fun x H1 => ∃ a dx fs, x = .ref a ∧ H1 a = some (.ins C dx fs) ∧ fs.lookup m = none ∧
  tr σ H1 fun vs H2 => sp (x :: (vs ++ dvs)) H2 Q E) : tMeth C m sp dvs E ta tr σ H Q := q
theorem g_eq {x y : V} (h : scal x y = true) (q : Q (.bl (decide (x = y))) H) : rEq x y H Q := ⟨h, q⟩
theorem g_ne {x y : V} (h : scal x y = true) (q : Q (.bl (!decide (x = y))) H) : rNe x y H Q := ⟨h, q⟩
theorem g_I0 {g : Int → Int → V} {a b : Int} (q : Q (g a b) H) : rI0 g (.int a) (.int b) H Q := ⟨a, b, rfl, rfl, q⟩
theorem g_I {C : Int → Int → Prop} {g : Int → Int → V} {a b : Int} (h : C a b) (q : Q (g a b) H) : rI C g (.int a) (.int b) H Q := ⟨a, b, rfl, rfl, h, q⟩
theorem g_iteT {A B : Prop} (h : A) : if true = true then A else B := by rw [if_pos rfl]; exact h
theorem g_iteF {A B : Prop} (h : B) : if false = true then A else B := by rw [if_neg Bool.false_ne_true]; exact h
theorem g_add {a b : Int} (q : Q (.int (a + b)) H) : rAdd (.int a) (.int b) H Q := ⟨a, b, rfl, rfl, q⟩
theorem g_sub {a b : Int} (q : Q (.int (a - b)) H) : rSub (.int a) (.int b) H Q := ⟨a, b, rfl, rfl, q⟩
theorem g_lc {r : List V → Hp → VK → Prop} (q : tr σ H fun vs H1 => r vs H1 Q) : tCB r tr σ H Q := q
theorem g_bm {T : String} {r : V → List V → Hp → VK → Prop} (q : te σ H fun x H1 => tyV K T x H1 ∧ tr σ H1 fun xs H2 => r x xs H2 Q) : tBM K T r te tr σ H Q := q
theorem g_ixL {p : Addr} {xs : List V} {k : Int} (h : SqL K H p xs) (e : atI xs k = some v) (q : Q v H) : rIxL K (.ref p) (.int k) H Q := ⟨p, xs, k, v, rfl, rfl, h, e, q⟩
theorem g_ixT {p : Addr} {xs : List V} {k : Int} (h : SqT K H p xs) (e : atI xs k = some v) (q : Q v H) : rIxT K (.ref p) (.int k) H Q := ⟨p, xs, k, v, rfl, rfl, h, e, q⟩
end

/-- one step of a reading -/
local macro_rules | `(tactic| walk_at "rd1") => `(tactic| first
  | with_reducible refine g_seq ?_
  | with_reducible refine g_asg ?_
  | with_reducible refine g_name ?_
  | with_reducible refine g_c ?_
  | with_reducible refine g_op ?_
  | with_reducible refine g_ifS ?_
  | with_reducible refine g_if ?_
  | with_reducible refine g_test ?_
  | with_reducible refine g_B ?_
  | with_reducible refine g_bl ?_
  | with_reducible refine g_blV ?_
  | with_reducible refine g_not ?_
  | with_reducible refine g_and ?_
  | with_reducible refine g_or ?_
  | with_reducible refine g_notV ?_
  | with_reducible refine g_andV ?_
  | with_reducible refine g_orV ?_
  | with_reducible refine g_ret ?_
  | with_reducible refine g_drop ?_
  | with_reducible refine g_next ?_
  | with_reducible refine g_retN ?_
  | with_reducible refine g_call ?_
  | with_reducible refine g_cb ?_
  | with_reducible refine g_cons ?_
  | with_reducible refine g_nil ?_
  | with_reducible refine g_tup ?_
  | with_reducible refine g_lst ?_
  | with_reducible refine g_prop ?_
  | with_reducible refine g_fld ?_
  | with_reducible refine g_meth ?_
  | with_reducible refine g_un ?_
  | with_reducible refine g_bm ?_
  | with_reducible refine g_iteT ?_
  | with_reducible refine g_iteF ?_
  | with_reducible refine g_I0 ?_
  | with_reducible refine g_add ?_
  | with_reducible refine g_sub ?_
  | ((with_reducible refine' g_var ?hv ?_); (case hv => rfl))
  | ((with_reducible refine g_eq ?hv ?_); (case hv => rfl))
  | ((with_reducible refine g_ne ?hv ?_); (case hv => rfl)))
local macro_rules | `(tactic| walk_at "rd") => `(tactic| repeat (walk_at "rd1"))

example {X : Cx} {Q : VK} {H : Hp} (q : Q (.int 5) H) : (tSeq (tAsg (tOp rAdd (tC (.int 2)) (tC (.int 3))) (gName 0)) (tRet (tVar 0))) { nx := fun _ _ => False, rt := Q } [none] H := by
  walk_at "rd"
  exact q
end Mc

namespace Mc
open PySem PySem.Spec PyProof.Rows L2

/-! ### defs and their calls -/
structure Def (K : PySem.W.Frag) (mg : Str → Option Value) (x : Str) (st : Stmt) (ps : List Str) : Prop where
  ex : ∃ (f : Addr) (fd : FuncData), Fun K x x st f fd ∧ mg x = some (.ref f) ∧ Binds K fd ps []
structure Cal (P : Program) (w : World) (K : PySem.W.Frag) (mg : Str → Option Value) (base : Heap) (k : Nat) (x : Str) (sp : Sp) : Prop where
  ex : ∃ (f : Addr) (fd : FuncData) (ps : List Str), FnOk P w K mg base CX0 k f fd ps sp ∧ mg x = some (.ref f) ∧ PySem.W.keepIn K (.ref f) = true ∧ Binds K fd ps []
section
variable {P : Program} {w : World} {K : PySem.W.Frag} {mg : Str → Option Value} {base : Heap}
theorem cal_of {x : Str} {st : Stmt} {N ps : List Str} {k : Nat} {sp : Sp} (D : Def K mg x st ps) (S : FnScope N ps (defScope st)) (len : ∀ vs H Q E, sp vs H Q E → vs.length = ps.length)
    (hbody : ∀ (f : Addr) (cdv : Value) (A : Around) (outer : List Env) (s : Shared) (H : Hp) (vs : List V) (Q : VK) (E : XK), Room k (A.deeper (envOfC x (defScope st) s.heap.objs.size f cdv)) → sp vs H Q E →
      ∃ t, PSs (cxOf CX0 P w K mg base N x (defScope st) f cdv A outer s H E).nox (defBody st) t ∧ t { nx := fun _ H' => Q .non H', rt := Q } (start N vs) H) : Cal P w K mg base (k + 1) x sp := by
  obtain ⟨f, fd, F, hm, b⟩ := D.ex
  exact ⟨f, fd, ps, F.ok S len (hbody f), hm, F.kp, b⟩
end
section
variable {X : Cx} {k j : Nat} {x : Str} {sp : Sp} {p pos : Pos} {e : Expr} {es : List Expr} {t : TA}
theorem pe_f (c : Cal X.prog X.w X.K X.mg X.base k x sp) (hr : Room j X.A) (hk : k ≤ j) (hg : Gl X x) (ha : PA X (e :: es) t)
    (hdb : (x == ("__debug__" : Str)) = false := by decide) (he : starEach (e :: es) X.env = (false, eval e X.env) :: starEach es X.env := by rfl) (hpl : (backTo pos (starEach es X.env)).any (·.1) = false := by rfl) :
    PE X (.Call (.Name x p) (e :: es) [] pos) (tCall sp [] E0 t) := by
  obtain ⟨f, fd, ps, G, hm, kp, b⟩ := c.ex
  exact pe_call G (hr.mono hk) hg hm kp b .nil pass0 ha hdb he hpl
theorem pe_gx {v : V} (hg : Gl X x) (h : ∃ u, X.mg x = some u ∧ RelV v u) (hd : (x == ("__debug__" : Str)) = false := by decide) : PE X (.Name x pos) (tC v) :=
  h.elim fun u hu => pe_glob hg hu.1 hu.2 hd
theorem pe_ty (n : String) (hg : Gl X x) (hm : X.mg x = none) (hv : bootBuiltins x = some (.type n)) (hn : x ≠ "__name__" := by decide) (hd : (x == ("__debug__" : Str)) = false := by decide) : PE X (.Name x pos) (tC (.ty n)) :=
  pe_bltn (v := .ty n) (u := .type n) hg hm hv rfl hn hd
end

/-! ### kinds of values -/
inductive TyB (K : PySem.W.Frag) (H : Hp) : V → String → Prop where
  | non : TyB K H .non "NoneType"
  | bl (b : Bool) : TyB K H (.bl b) "bool"
  | int (i : Int) : TyB K H (.int i) "int"
  | str (z : Str) : TyB K H (.str z) "str"
  | lst {a : Addr} {xs : List V} (e : H a = some (.lst xs)) : TyB K H (.ref a) "list"
  | tup {a : Addr} {xs : List V} (e : H a = some (.tup xs)) : TyB K H (.ref a) "tuple"
  | dK {a : Addr} {xs : List (Key × V)} (e : H a = some (.dK xs)) : TyB K H (.ref a) "dict"
  | kTup {a : Addr} {o : Obj} (e : K.lookup a = some o) (c : o.cls = .type "tuple") : TyB K H (.ref a) "tuple"
theorem TyB.x {K : PySem.W.Frag} {H : Hp} {v : V} {n : String} (h : TyB K H v n) : TyX K H v (.type n) := by
  cases h with
  | non => exact .base .non
  | bl b => exact .base (.bl b)
  | int i => exact .base (.int i)
  | str z => exact .base (.str z)
  | lst e => exact .base (.lst e)
  | tup e => exact .base (.tup e)
  | dK e => exact .base (.dK e)
  | kTup e c => exact .kTuple e c
theorem g_isi {K : PySem.W.Frag} {H : Hp} {Q : VK} {v : V} {n m : String} {b : Bool} (h : TyB K H v n) (e : kitB n m = some b) (q : Q (.bl b) H) : rIsi K [v, .ty m] H Q :=
  ⟨v, .ty m, .type n, .type m, b, rfl, .ty m, h.x, kit_ty e, q⟩
theorem g_chain {σ : L2.St} {H : Hp} {Q : VK} {r r' : R2} {ta tb tc : TE} (q : ta σ H fun x H1 => tb σ H1 fun y H2 => r x y H2 fun z H3 => ∃ k, z = .bl k ∧ (if k = true then tc σ H3 fun w' H4 => r' y w' H4 Q else Q (.bl false) H3)) : tChain r r' ta tb tc σ H Q := q
theorem g_sfld {K : PySem.W.Frag} {σ : L2.St} {H : Hp} {D : Ends} {ta tv : TE} {f : Str} (q : tv σ H fun y H1 => ta σ H1 fun x H2 => ∃ a C dx fs, x = .ref a ∧ H2 a = some (.ins C dx fs) ∧ Cls K C ∧ NoAttr K C f ∧ fs.length < 1000 ∧ D.nx σ (upd H2 a (.ins C dx (putF f y fs)))) : sFld K ta tv f D σ H := q
theorem g_gsub {σ : L2.St} {H : Hp} {Q : L2.St → Hp → Prop} {to ti : TE} {t : TSet} {v : V} (q : to σ H fun o H1 => ti σ H1 fun i H2 => t o i v H2 fun H3 => Q σ H3) : gSub to ti t v σ H Q := q
theorem g_make {σ : L2.St} {H : Hp} {Q : VK} {C : Addr} {sp : Sp} {dvs : List V} {E : XK} {t : TA} (q : t σ H fun vs H1 => ∀ x dx, H1 x = none → H1 dx = none → dx ≠ x →
  sp (.ref x :: (vs ++ dvs)) (upd (upd H1 dx (.own x)) x (.ins C dx [])) (fun v H2 => v = .non ∧ Q (.ref x) H2) E) : tMake C sp dvs E t σ H Q := q
theorem g_makeK {σ : L2.St} {H : Hp} {Q : VK} {C : Addr} {n m : Nat} {sp : Sp} {gV : List V → List V → List V} {E : XK} {t tk : TA} (q : t σ H fun vs H1 => tk σ H1 fun zs H2 => vs.length = n ∧ zs.length = m ∧ ∀ x dx, H2 x = none → H2 dx = none → dx ≠ x →
  sp (gV (.ref x :: vs) zs) (upd (upd H2 dx (.own x)) x (.ins C dx [])) (fun v H3 => v = .non ∧ Q (.ref x) H3) E) : tMakeK C n m sp gV E t tk σ H Q := q
theorem g_yes {σ : L2.St} {H : Hp} {Q : Bool → Hp → Prop} (q : Q true H) : tYes σ H Q := q
theorem g_ite {c : Bool} {A B : Prop} (h1 : c = true → A) (h2 : c = false → B) : if c = true then A else B := by
  cases c
  · exact g_iteF (h2 rfl)
  · exact g_iteT (h1 rfl)
theorem kb_int {n : String} (h : n ∈ ["NoneType", "bool", "int", "str", "list", "tuple", "dict"]) : kitB n "int" = some (n == "int" || n == "bool") := by
  simp only [List.mem_cons, List.not_mem_nil, or_false] at h
  rcases h with rfl | rfl | rfl | rfl | rfl | rfl | rfl <;> decide +kernel
theorem kb_bool {n : String} (h : n ∈ ["NoneType", "bool", "int", "str", "list", "tuple", "dict"]) : kitB n "bool" = some (n == "bool") := by
  simp only [List.mem_cons, List.not_mem_nil, or_false] at h
  rcases h with rfl | rfl | rfl | rfl | rfl | rfl | rfl <;> decide +kernel
theorem kb_str {n : String} (h : n ∈ ["NoneType", "bool", "int", "str", "list", "tuple", "dict"]) : kitB n "str" = some (n == "str") := by
  simp only [List.mem_cons, List.not_mem_nil, or_false] at h
  rcases h with rfl | rfl | rfl | rfl | rfl | rfl | rfl <;> decide +kernel
theorem kb_tuple {n : String} (h : n ∈ ["NoneType", "bool", "int", "str", "list", "tuple", "dict"]) : kitB n "tuple" = some (n == "tuple") := by
  simp only [List.mem_cons, List.not_mem_nil, or_false] at h
  rcases h with rfl | rfl | rfl | rfl | rfl | rfl | rfl <;> decide +kernel
theorem TyB.mem {K : PySem.W.Frag} {H : Hp} {v : V} {n : String} (h : TyB K H v n) : n ∈ ["NoneType", "bool", "int", "str", "list", "tuple", "dict"] := by
  cases h <;> decide

def isI : V → Bool
  | .int _ => true
  | _ => false
def btw (v : V) (a b : Int) : Bool := match v with
  | .int i => decide (a ≤ i) && decide (i ≤ b)
  | _ => false

local macro_rules | `(tactic| walk_at "rd1") => `(tactic| first
  | with_reducible refine g_seq ?_
  | with_reducible refine g_asg ?_
  | with_reducible refine g_name ?_
  | with_reducible refine g_c ?_
  | with_reducible refine g_op ?_
  | with_reducible refine g_ifS ?_
  | with_reducible refine g_if ?_
  | with_reducible refine g_test ?_
  | with_reducible refine g_B ?_
  | with_reducible refine g_bl ?_
  | with_reducible refine g_blV ?_
  | with_reducible refine g_not ?_
  | with_reducible refine g_and ?_
  | with_reducible refine g_or ?_
  | with_reducible refine g_notV ?_
  | with_reducible refine g_andV ?_
  | with_reducible refine g_orV ?_
  | with_reducible refine g_ret ?_
  | with_reducible refine g_drop ?_
  | with_reducible refine g_next ?_
  | with_reducible refine g_retN ?_
  | with_reducible refine g_call ?_
  | with_reducible refine g_cb ?_
  | with_reducible refine g_cons ?_
  | with_reducible refine g_nil ?_
  | with_reducible refine g_tup ?_
  | with_reducible refine g_lst ?_
  | with_reducible refine g_prop ?_
  | with_reducible refine g_fld ?_
  | with_reducible refine g_meth ?_
  | with_reducible refine g_chain ?_
  | with_reducible refine g_yes ?_
  | with_reducible refine g_make ?_
  | with_reducible refine g_makeK ?_
  | with_reducible refine g_gsub ?_
  | with_reducible refine g_sfld ?_
  | with_reducible refine g_un ?_
  | with_reducible refine g_bm ?_
  | with_reducible refine g_iteT ?_
  | with_reducible refine g_iteF ?_
  | with_reducible refine g_I0 ?_
  | with_reducible refine g_add ?_
  | with_reducible refine g_sub ?_
  | ((with_reducible refine' g_var ?hv ?_); (case hv => rfl))
  | ((with_reducible refine g_eq ?hv ?_); (case hv => rfl))
  | ((with_reducible refine g_ne ?hv ?_); (case hv => rfl)))
local macro_rules | `(tactic| walk_at "rd") => `(tactic| repeat (walk_at "rd1"))

/-! ### is_integer, is_between -/
def spIsInt (K : PySem.W.Frag) : Sp := fun vs H Q _ => ∃ v n, vs = [v] ∧ TyB K H v n ∧ Q (.bl (isI v)) H
def spBtw (K : PySem.W.Frag) : Sp := fun vs H Q _ => ∃ v n a b, vs = [v, .int a, .int b] ∧ TyB K H v n ∧ Q (.bl (btw v a b)) H
end Mc

namespace K2
open PySem PySem.Spec PyProof.Rows L2 Mc
def top (i : Nat) : Stmt := PySem.Challenge.pw_mostcalls_k02_policies.main.body.getD i (.Pass ⟨0, 0, 0, 0⟩)
abbrev s_is_integer : Stmt := top 2
abbrev N_is_integer : List Str := ["value"]
theorem sc_is_integer : FnScope N_is_integer ["value"] (defScope s_is_integer) := ⟨rfl, rfl, rfl, by decide +kernel, rfl, by decide +kernel, by decide +kernel⟩
abbrev s_is_between : Stmt := top 3
abbrev N_is_between : List Str := ["value", "least", "most"]
theorem sc_is_between : FnScope N_is_between ["value", "least", "most"] (defScope s_is_between) := ⟨rfl, rfl, rfl, by decide +kernel, rfl, by decide +kernel, by decide +kernel⟩
abbrev s_is_name : Stmt := top 4
abbrev N_is_name : List Str := ["value", "sign"]
theorem sc_is_name : FnScope N_is_name ["value"] (defScope s_is_name) := ⟨rfl, rfl, rfl, by decide +kernel, rfl, by decide +kernel, by decide +kernel⟩
abbrev s_Policyinit : Stmt := inClass (top 12) 0
abbrev N_Policyinit : List Str := ["self", "name", "limit", "tries", "pauses", "early", "lossy", "ending", "field"]
theorem sc_Policyinit : FnScope N_Policyinit ["self", "name", "limit", "tries", "pauses", "early", "lossy", "ending"] (defScope s_Policyinit) := ⟨rfl, rfl, rfl, by decide +kernel, rfl, by decide +kernel, by decide +kernel⟩
abbrev s_Policy_name : Stmt := inClass (top 12) 1
abbrev N_Policy_name : List Str := ["self"]
theorem sc_Policy_name : FnScope N_Policy_name ["self"] (defScope s_Policy_name) := ⟨rfl, rfl, rfl, by decide +kernel, rfl, by decide +kernel, by decide +kernel⟩
abbrev s_Policy_limit : Stmt := inClass (top 12) 2
abbrev N_Policy_limit : List Str := ["self"]
theorem sc_Policy_limit : FnScope N_Policy_limit ["self"] (defScope s_Policy_limit) := ⟨rfl, rfl, rfl, by decide +kernel, rfl, by decide +kernel, by decide +kernel⟩
abbrev s_Policy_tries : Stmt := inClass (top 12) 3
abbrev N_Policy_tries : List Str := ["self"]
theorem sc_Policy_tries : FnScope N_Policy_tries ["self"] (defScope s_Policy_tries) := ⟨rfl, rfl, rfl, by decide +kernel, rfl, by decide +kernel, by decide +kernel⟩
abbrev s_Policy_pauses : Stmt := inClass (top 12) 4
abbrev N_Policy_pauses : List Str := ["self"]
theorem sc_Policy_pauses : FnScope N_Policy_pauses ["self"] (defScope s_Policy_pauses) := ⟨rfl, rfl, rfl, by decide +kernel, rfl, by decide +kernel, by decide +kernel⟩
abbrev s_Policy_early : Stmt := inClass (top 12) 5
abbrev N_Policy_early : List Str := ["self"]
theorem sc_Policy_early : FnScope N_Policy_early ["self"] (defScope s_Policy_early) := ⟨rfl, rfl, rfl, by decide +kernel, rfl, by decide +kernel, by decide +kernel⟩
abbrev s_Policy_lossy : Stmt := inClass (top 12) 6
abbrev N_Policy_lossy : List Str := ["self"]
theorem sc_Policy_lossy : FnScope N_Policy_lossy ["self"] (defScope s_Policy_lossy) := ⟨rfl, rfl, rfl, by decide +kernel, rfl, by decide +kernel, by decide +kernel⟩
abbrev s_Policy_ending : Stmt := inClass (top 12) 7
abbrev N_Policy_ending : List Str := ["self"]
theorem sc_Policy_ending : FnScope N_Policy_ending ["self"] (defScope s_Policy_ending) := ⟨rfl, rfl, rfl, by decide +kernel, rfl, by decide +kernel, by decide +kernel⟩
abbrev s_Policyeq : Stmt := inClass (top 12) 8
abbrev N_Policyeq : List Str := ["self", "other"]
theorem sc_Policyeq : FnScope N_Policyeq ["self", "other"] (defScope s_Policyeq) := ⟨rfl, rfl, rfl, by decide +kernel, rfl, by decide +kernel, by decide +kernel⟩
abbrev s_Policy_fields : Stmt := inClass (top 12) 10
abbrev N_Policy_fields : List Str := ["self"]
theorem sc_Policy_fields : FnScope N_Policy_fields ["self"] (defScope s_Policy_fields) := ⟨rfl, rfl, rfl, by decide +kernel, rfl, by decide +kernel, by decide +kernel⟩
abbrev s_accepts : Stmt := top 13
abbrev N_accepts : List Str := ["field", "value"]
theorem sc_accepts : FnScope N_accepts ["field", "value"] (defScope s_accepts) := ⟨rfl, rfl, rfl, by decide +kernel, rfl, by decide +kernel, by decide +kernel⟩
abbrev s_wrong_field : Stmt := top 14
abbrev N_wrong_field : List Str := ["limit", "tries", "pauses", "early", "lossy", "ending"]
theorem sc_wrong_field : FnScope N_wrong_field ["limit", "tries", "pauses", "early", "lossy", "ending"] (defScope s_wrong_field) := ⟨rfl, rfl, rfl, by decide +kernel, rfl, by decide +kernel, by decide +kernel⟩
abbrev s_are_pauses : Stmt := top 15
abbrev N_are_pauses : List Str := ["value", "tries", "ticks"]
theorem sc_are_pauses : FnScope N_are_pauses ["value", "tries"] (defScope s_are_pauses) := ⟨rfl, rfl, rfl, by decide +kernel, rfl, by decide +kernel, by decide +kernel⟩
abbrev s_is_ending : Stmt := top 16
abbrev N_is_ending : List Str := ["value"]
theorem sc_is_ending : FnScope N_is_ending ["value"] (defScope s_is_ending) := ⟨rfl, rfl, rfl, by decide +kernel, rfl, by decide +kernel, by decide +kernel⟩
abbrev s_all_pauses : Stmt := top 17
abbrev N_all_pauses : List Str := ["tries", "pauses", "early"]
theorem sc_all_pauses : FnScope N_all_pauses ["tries", "pauses", "early"] (defScope s_all_pauses) := ⟨rfl, rfl, rfl, by decide +kernel, rfl, by decide +kernel, by decide +kernel⟩
abbrev s_law_pool : Stmt := top 19
abbrev N_law_pool : List Str := ["_law_script", "_law_k", "_law_cell", "_law_seed"]
theorem sc_law_pool : FnScope N_law_pool ["_law_script", "_law_k"] (defScope s_law_pool) := ⟨rfl, rfl, rfl, by decide +kernel, rfl, by decide +kernel, by decide +kernel⟩
abbrev s_law_draw : Stmt := top 20
abbrev N_law_draw : List Str := ["_law_pool_here", "_law_many", "_law_digit"]
theorem sc_law_draw : FnScope N_law_draw ["_law_pool_here", "_law_many"] (defScope s_law_draw) := ⟨rfl, rfl, rfl, by decide +kernel, rfl, by decide +kernel, by decide +kernel⟩
abbrev s_law_choose : Stmt := top 21
abbrev N_law_choose : List Str := ["_law_pool_here", "_law_items"]
theorem sc_law_choose : FnScope N_law_choose ["_law_pool_here", "_law_items"] (defScope s_law_choose) := ⟨rfl, rfl, rfl, by decide +kernel, rfl, by decide +kernel, by decide +kernel⟩
abbrev s_law_fields_of : Stmt := top 22
abbrev N_law_fields_of : List Str := ["_law_one"]
theorem sc_law_fields_of : FnScope N_law_fields_of ["_law_one"] (defScope s_law_fields_of) := ⟨rfl, rfl, rfl, by decide +kernel, rfl, by decide +kernel, by decide +kernel⟩
abbrev s_law_drawn : Stmt := top 23
abbrev N_law_drawn : List Str := ["_law_pool_here", "_law_row", "_law_is_early", "_law_turn"]
theorem sc_law_drawn : FnScope N_law_drawn ["_law_pool_here"] (defScope s_law_drawn) := ⟨rfl, rfl, rfl, by decide +kernel, rfl, by decide +kernel, by decide +kernel⟩
abbrev s_law_built : Stmt := top 24
abbrev N_law_built : List Str := ["_law_row", "_law_delays"]
theorem sc_law_built : FnScope N_law_built ["_law_row"] (defScope s_law_built) := ⟨rfl, rfl, rfl, by decide +kernel, rfl, by decide +kernel, by decide +kernel⟩
abbrev s_law : Stmt := top 25
abbrev N_law : List Str := ["_law_script", "_law_plain", "_law_k", "_law_pool_here", "_law_row", "_law_other", "_law_one", "_law_at", "_law_value", "_law_later"]
theorem sc_law : FnScope N_law ["_law_script"] (defScope s_law) := ⟨rfl, rfl, rfl, by decide +kernel, rfl, by decide +kernel, by decide +kernel⟩

def letters : Str := "abcdefghijklmnopqrstuvwxyz"
/-- what the top has left -/
structure Txt (K : PySem.W.Frag) (mg : Str → Option Value) : Prop where
  n_isinstance : mg "isinstance" = none
  n_int : mg "int" = none
  n_bool : mg "bool" = none
  n_str : mg "str" = none
  n_tuple : mg "tuple" = none
  n_len : mg "len" = none
  n_all : mg "all" = none
  n_range : mg "range" = none
  n_repr : mg "repr" = none
  n_max : mg "max" = none
  n_min : mg "min" = none
  g_LETTERS : ∃ u, mg "LETTERS" = some u ∧ RelV (.str letters) u
  g_MOST_LIMIT : ∃ u, mg "MOST_LIMIT" = some u ∧ RelV (.int 20) u
  g_MOST_TRIES : ∃ u, mg "MOST_TRIES" = some u ∧ RelV (.int 3) u
section
variable {P : Program} {w : World} {K : PySem.W.Frag} {mg : Str → Option Value} {base : Heap}
local macro_rules | `(tactic| walk_at "rd1") => `(tactic| first
  | with_reducible refine g_seq ?_
  | with_reducible refine g_asg ?_
  | with_reducible refine g_name ?_
  | with_reducible refine g_c ?_
  | with_reducible refine g_op ?_
  | with_reducible refine g_ifS ?_
  | with_reducible refine g_if ?_
  | with_reducible refine g_test ?_
  | with_reducible refine g_B ?_
  | with_reducible refine g_bl ?_
  | with_reducible refine g_blV ?_
  | with_reducible refine g_not ?_
  | with_reducible refine g_and ?_
  | with_reducible refine g_or ?_
  | with_reducible refine g_notV ?_
  | with_reducible refine g_andV ?_
  | with_reducible refine g_orV ?_
  | with_reducible refine g_ret ?_
  | with_reducible refine g_drop ?_
  | with_reducible refine g_next ?_
  | with_reducible refine g_retN ?_
  | with_reducible refine g_call ?_
  | with_reducible refine g_cb ?_
  | with_reducible refine g_cons ?_
  | with_reducible refine g_nil ?_
  | with_reducible refine g_tup ?_
  | with_reducible refine g_lst ?_
  | with_reducible refine g_prop ?_
  | with_reducible refine g_fld ?_
  | with_reducible refine g_meth ?_
  | with_reducible refine g_chain ?_
  | with_reducible refine g_yes ?_
  | with_reducible refine g_make ?_
  | with_reducible refine g_makeK ?_
  | with_reducible refine g_gsub ?_
  | with_reducible refine g_sfld ?_
  | with_reducible refine g_un ?_
  | with_reducible refine g_bm ?_
  | with_reducible refine g_iteT ?_
  | with_reducible refine g_iteF ?_
  | with_reducible refine g_I0 ?_
  | with_reducible refine g_add ?_
  | with_reducible refine g_sub ?_
  | ((with_reducible refine' g_var ?hv ?_); (case hv => rfl))
  | ((with_reducible refine g_eq ?hv ?_); (case hv => rfl))
  | ((with_reducible refine g_ne ?hv ?_); (case hv => rfl)))
local macro_rules | `(tactic| walk_at "rd") => `(tactic| repeat (walk_at "rd1"))

local macro_rules | `(tactic| walk_at "ty") => `(tactic| first | exact .non | exact .bl _ | exact .int _ | exact .str _ | exact .lst (by assumption) | exact .tup (by assumption) | exact .dK (by assumption) | exact .kTup (by assumption) (by assumption))
local macro_rules | `(tactic| walk_at "isiF") => `(tactic| refine g_isi (by walk_at "ty") (b := false) (by decide +kernel) ?_)
local macro_rules | `(tactic| walk_at "isiT") => `(tactic| refine g_isi (by walk_at "ty") (b := true) (by decide +kernel) ?_)

theorem ok_is_integer (T : Txt K mg) (D : Def K mg "is_integer" s_is_integer ["value"]) : Cal P w K mg base 1 "is_integer" (spIsInt K) := by
  refine cal_of D sc_is_integer (fun vs H Q E h => ?_) (fun f cdv A outer s H vs Q E hr h => ?_)
  · obtain ⟨v, n, rfl, _⟩ := h
    rfl
  · obtain ⟨v, n, rfl, ty, q⟩ := h
    refine ⟨_, (pss_one (ps_ret (pe_and (pe_callB call_isi (by rfl) T.n_isinstance (by decide +kernel) (pa_cons (pv 0) (pa_cons (pe_ty "int" (by rfl) T.n_int (by decide +kernel)) pa_nil))) (pe_one (pe_not (pe_callB call_isi (by rfl) T.n_isinstance (by decide +kernel) (pa_cons (pv 0) (pa_cons (pe_ty "bool" (by rfl) T.n_bool (by decide +kernel)) pa_nil)))))))), ?_⟩
    walk_at "rd"
    refine g_isi ty (kb_int ty.mem) ?_
    walk_at "rd"
    have e : ∀ b, Q (.bl b) H → b = isI v → Q (.bl (isI v)) H := fun b q e => e ▸ q
    cases ty with
    | int i => simp; walk_at "rd"; refine g_isi (.int i) (kb_bool (by decide)) ?_; walk_at "rd"; exact q
    | bl i => simp; walk_at "rd"; refine g_isi (.bl i) (kb_bool (by decide)) ?_; walk_at "rd"; exact q
    | non => simp; exact q
    | str z => simp; exact q
    | lst z => simp; exact q
    | tup z => simp; exact q
    | dK z => simp; exact q
    | kTup z c => simp; exact q
theorem ok_is_between (T : Txt K mg) (D : Def K mg "is_between" s_is_between ["value", "least", "most"]) (c_is_integer : Cal P w K mg base 1 "is_integer" (spIsInt K)) : Cal P w K mg base 2 "is_between" (spBtw K) := by
  refine cal_of D sc_is_between (fun vs H Q E h => ?_) (fun f cdv A outer s H vs Q E hr h => ?_)
  · obtain ⟨v, n, a, b, rfl, _⟩ := h
    rfl
  · obtain ⟨v, n, a, b, rfl, ty, q⟩ := h
    refine ⟨_, (pss_one (ps_ret (pe_and (pe_f c_is_integer hr (by decide) (by rfl) (pa_cons (pv 0) pa_nil)) (pe_one (pe_chain op_le op_le (pv 1) (pv 0) (pv 2)))))), ?_⟩
    walk_at "rd"
    refine ⟨v, n, rfl, ty, ?_⟩
    walk_at "rd"
    cases ty with
    | int i =>
      show (if true = true then _ else _)
      walk_at "rd"
      refine g_ite (fun e => ?_) (fun e => ?_)
      · walk_at "rd"
        have z : btw (.int i) a b = decide (i ≤ b) := by show (decide (a ≤ i) && decide (i ≤ b)) = _; rw [e]; rfl
        rw [z] at q
        exact q
      · have z : btw (.int i) a b = false := by show (decide (a ≤ i) && decide (i ≤ b)) = _; rw [e]; rfl
        rw [z] at q
        exact q
    | bl i => exact q
    | non => exact q
    | str z => exact q
    | lst z => exact q
    | tup z => exact q
    | dK z => exact q
    | kTup z c => exact q
end
end K2

namespace K2
open PySem PySem.Spec PyProof.Rows L2 Mc
section
variable {P : Program} {w : World} {K : PySem.W.Frag} {mg : Str → Option Value} {base : Heap}
local macro_rules | `(tactic| walk_at "rd1") => `(tactic| first
  | with_reducible refine g_seq ?_
  | with_reducible refine g_asg ?_
  | with_reducible refine g_name ?_
  | with_reducible refine g_c ?_
  | with_reducible refine g_op ?_
  | with_reducible refine g_ifS ?_
  | with_reducible refine g_if ?_
  | with_reducible refine g_test ?_
  | with_reducible refine g_B ?_
  | with_reducible refine g_bl ?_
  | with_reducible refine g_blV ?_
  | with_reducible refine g_not ?_
  | with_reducible refine g_and ?_
  | with_reducible refine g_or ?_
  | with_reducible refine g_notV ?_
  | with_reducible refine g_andV ?_
  | with_reducible refine g_orV ?_
  | with_reducible refine g_ret ?_
  | with_reducible refine g_drop ?_
  | with_reducible refine g_next ?_
  | with_reducible refine g_retN ?_
  | with_reducible refine g_call ?_
  | with_reducible refine g_cb ?_
  | with_reducible refine g_cons ?_
  | with_reducible refine g_nil ?_
  | with_reducible refine g_tup ?_
  | with_reducible refine g_lst ?_
  | with_reducible refine g_prop ?_
  | with_reducible refine g_fld ?_
  | with_reducible refine g_meth ?_
  | with_reducible refine g_chain ?_
  | with_reducible refine g_yes ?_
  | with_reducible refine g_make ?_
  | with_reducible refine g_makeK ?_
  | with_reducible refine g_gsub ?_
  | with_reducible refine g_sfld ?_
  | with_reducible refine g_un ?_
  | with_reducible refine g_bm ?_
  | with_reducible refine g_iteT ?_
  | with_reducible refine g_iteF ?_
  | with_reducible refine g_I0 ?_
  | with_reducible refine g_add ?_
  | with_reducible refine g_sub ?_
  | ((with_reducible refine' g_var ?hv ?_); (case hv => rfl))
  | ((with_reducible refine g_eq ?hv ?_); (case hv => rfl))
  | ((with_reducible refine g_ne ?hv ?_); (case hv => rfl)))
local macro_rules | `(tactic| walk_at "rd") => `(tactic| repeat (walk_at "rd1"))

local macro_rules | `(tactic| walk_at "ty") => `(tactic| first | exact .non | exact .bl _ | exact .int _ | exact .str _ | exact .lst (by assumption) | exact .tup (by assumption) | exact .dK (by assumption) | exact .kTup (by assumption) (by assumption))
local macro_rules | `(tactic| walk_at "isiF") => `(tactic| refine g_isi (by walk_at "ty") (b := false) (by decide +kernel) ?_)
local macro_rules | `(tactic| walk_at "isiT") => `(tactic| refine g_isi (by walk_at "ty") (b := true) (by decide +kernel) ?_)

def sgn (c : Nat) : Bool := decide (c ∈ letters.cps.toList)
def isNm (z : Str) : Bool := decide ((1 : Int) ≤ z.length) && (decide ((z.length : Int) ≤ 8) && z.cps.toList.all sgn)
def nmV : V → Bool
  | .str z => isNm z
  | _ => false
def spName (K : PySem.W.Frag) : Sp := fun vs H Q _ => ∃ v n, vs = [v] ∧ TyB K H v n ∧ (∀ z, v = .str z → z.length ≤ 1000) ∧ ∀ H', Same H H' → Q (.bl (nmV v)) H'
theorem same_new {H : Hp} {p : Addr} {o : HO} (h : H p = none) : Same H (upd H p o) := fun b u e => by rw [upd_ne (ne_of_none e h)]; exact e
theorem sz_le {n : Nat} (h : n ≤ 1000) : n ≤ sizeLine := Nat.le_trans h (by decide)
theorem take_map {α : Type} {xs : List α} {i : Nat} {x : α} (f : α → V) (h : xs[i]? = some x) : (xs.take i).map f ++ [f x] = (xs.take (i + 1)).map f := by
  rw [List.take_add_one, h, List.map_append]
  rfl
theorem all_id {α : Type} (xs : List α) (f : α → Bool) : ((xs.map f).all id) = xs.all f := by rw [List.all_map]; rfl

theorem ok_is_name (T : Txt K mg) (D : Def K mg "is_name" s_is_name ["value"]) : Cal P w K mg base 1 "is_name" (spName K) := by
  refine cal_of D sc_is_name (fun vs H Q E h => ?_) (fun f cdv A outer s H vs Q E hr h => ?_)
  · obtain ⟨v, n, rfl, _⟩ := h
    rfl
  · obtain ⟨v, n, rfl, ty, hz, q⟩ := h
    refine ⟨_, (pss_one (ps_ret (pe_and (pe_callB call_isi (by rfl) T.n_isinstance (by decide +kernel) (pa_cons (pv 0) (pa_cons (pe_ty "str" (by rfl) T.n_str (by decide +kernel)) pa_nil))) (pe_and (pe_chain op_le op_le pe_int (pe_callB call_len_str (by rfl) T.n_len (by decide +kernel) (pa_cons (pv 0) pa_nil)) pe_int) (pe_one (pe_callB (cr_all rfl) (by rfl) T.n_all (by decide +kernel) (pa_cons (pe_lc (own := [("sign", 1)]) (g := gName 1) (by rfl) sc_is_name.nd (pi_str (pv 0)) (blkOk_by (own := [("sign", 1)]) (N := N_is_name) (sc := defScope s_is_name) (by decide +kernel)) (fun _ _ _ _ _ => pg_name (i := 1) sc_is_name.nd rfl (Or.inl rfl)) (fun _ _ _ _ _ => pts_nil) (fun _ _ _ _ _ => (pe_cmpR op_in_sign (pv 1) (pe_gx rfl T.g_LETTERS) (by rfl)))) pa_nil))))))), ?_⟩
    walk_at "rd"
    have q0 := q H (Same.refl H)
    cases ty
    case str z =>
      have hl := hz z rfl
      refine g_isi (.str z) (b := true) (by decide +kernel) ?_
      walk_at "rd"
      refine ⟨z, rfl, sz_le hl, ?_⟩
      walk_at "rd"
      refine g_ite (fun e1 => ?_) (fun e1 => ?_)
      · walk_at "rd"
        refine g_ite (fun e2 => ?_) (fun e2 => ?_)
        · walk_at "rd"
          refine ⟨_, rfl, _, rfl, fun L hL => ?_⟩
          refine lc_it walk_str (fun i H' => H' = upd H L (.lst ((z.cps.toList.take i).map fun c => .bl (sgn c)))) rfl (fun _ _ _ _ => trivial) ?_ ?_
          · rintro i x H0 H1 hi rfl ⟨rfl, c, hc, rfl⟩
            walk_at "rd"
            refine ⟨rfl, ?_⟩
            walk_at "rd"
            refine ⟨c, letters, rfl, rfl, _, upd_same, ?_, ?_⟩
            · rw [List.length_map, List.length_take]
              exact small1000 (Nat.le_trans (Nat.min_le_right _ _) (by simpa [Str.length] using hl))
            · have hc' : z.cps.toList[i]? = some c := by rw [Array.getElem?_toList]; exact hc
              rw [upd_upd]
              exact congrArg (fun l => upd H L (.lst l)) (take_map (fun c => V.bl (sgn c)) hc')
          · rintro H1 rfl
            refine ⟨L, z.cps.toList.map sgn, rfl, SqL.of ?_, ?_⟩
            · rw [upd_same, List.take_of_length_le (by simp), List.map_map]
              rfl
            · have e : nmV (.str z) = ((z.cps.toList.map sgn).all id) := by
                show (decide ((1 : Int) ≤ z.length) && (decide ((z.length : Int) ≤ 8) && z.cps.toList.all sgn)) = _
                rw [e1, e2, all_id]
                rfl
              rw [← e]
              exact q _ (same_new hL)
        · have e : nmV (.str z) = false := by
            show (decide ((1 : Int) ≤ z.length) && (decide ((z.length : Int) ≤ 8) && z.cps.toList.all sgn)) = _
            rw [e1, e2]
            rfl
          rw [e] at q0
          exact q0
      · walk_at "rd"
        have e : nmV (.str z) = false := by
          show (decide ((1 : Int) ≤ z.length) && (decide ((z.length : Int) ≤ 8) && z.cps.toList.all sgn)) = _
          rw [e1]
          rfl
        rw [e] at q0
        exact q0
    all_goals (walk_at "isiF"; walk_at "rd"; exact q0)
end
end K2

namespace K2
open PySem PySem.Spec PyProof.Rows L2 Mc
section
variable {P : Program} {w : World} {K : PySem.W.Frag} {mg : Str → Option Value} {base : Heap}
local macro_rules | `(tactic| walk_at "rd1") => `(tactic| first
  | with_reducible refine g_seq ?_
  | with_reducible refine g_asg ?_
  | with_reducible refine g_name ?_
  | with_reducible refine g_c ?_
  | with_reducible refine g_op ?_
  | with_reducible refine g_ifS ?_
  | with_reducible refine g_if ?_
  | with_reducible refine g_test ?_
  | with_reducible refine g_B ?_
  | with_reducible refine g_bl ?_
  | with_reducible refine g_blV ?_
  | with_reducible refine g_not ?_
  | with_reducible refine g_and ?_
  | with_reducible refine g_or ?_
  | with_reducible refine g_notV ?_
  | with_reducible refine g_andV ?_
  | with_reducible refine g_orV ?_
  | with_reducible refine g_ret ?_
  | with_reducible refine g_drop ?_
  | with_reducible refine g_next ?_
  | with_reducible refine g_retN ?_
  | with_reducible refine g_call ?_
  | with_reducible refine g_cb ?_
  | with_reducible refine g_cons ?_
  | with_reducible refine g_nil ?_
  | with_reducible refine g_tup ?_
  | with_reducible refine g_lst ?_
  | with_reducible refine g_prop ?_
  | with_reducible refine g_fld ?_
  | with_reducible refine g_meth ?_
  | with_reducible refine g_chain ?_
  | with_reducible refine g_yes ?_
  | with_reducible refine g_make ?_
  | with_reducible refine g_makeK ?_
  | with_reducible refine g_gsub ?_
  | with_reducible refine g_sfld ?_
  | with_reducible refine g_un ?_
  | with_reducible refine g_bm ?_
  | with_reducible refine g_iteT ?_
  | with_reducible refine g_iteF ?_
  | with_reducible refine g_I0 ?_
  | with_reducible refine g_add ?_
  | with_reducible refine g_sub ?_
  | ((with_reducible refine' g_var ?hv ?_); (case hv => rfl))
  | ((with_reducible refine g_eq ?hv ?_); (case hv => rfl))
  | ((with_reducible refine g_ne ?hv ?_); (case hv => rfl)))
local macro_rules | `(tactic| walk_at "rd") => `(tactic| repeat (walk_at "rd1"))

local macro_rules | `(tactic| walk_at "ty") => `(tactic| first | exact .non | exact .bl _ | exact .int _ | exact .str _ | exact .lst (by assumption) | exact .tup (by assumption) | exact .dK (by assumption) | exact .kTup (by assumption) (by assumption))
local macro_rules | `(tactic| walk_at "isiF") => `(tactic| refine g_isi (by walk_at "ty") (b := false) (by decide +kernel) ?_)
local macro_rules | `(tactic| walk_at "isiT") => `(tactic| refine g_isi (by walk_at "ty") (b := true) (by decide +kernel) ?_)

/-- a tuple's value: its kind, its items -/
structure TupV (K : PySem.W.Frag) (H : Hp) (a : Addr) (xs : List V) : Prop where
  ty : TyB K H (.ref a) "tuple"
  sq : SqT K H a xs
theorem TyB.ext {H H' : Hp} {v : V} {n : String} (e : Same H H') (h : TyB K H v n) : TyB K H' v n := by
  cases h with
  | non => exact .non
  | bl b => exact .bl b
  | int i => exact .int i
  | str z => exact .str z
  | lst z => exact .lst (e _ _ z)
  | tup z => exact .tup (e _ _ z)
  | dK z => exact .dK (e _ _ z)
  | kTup z c => exact .kTup z c
theorem sqT_ext {H H' : Hp} {a : Addr} {xs : List V} (e : Same H H') (h : SqT K H a xs) : SqT K H' a xs := by
  rcases h with (h | ⟨o, h⟩) | h
  · exact .inl (.inl (e _ _ h))
  · exact .inl (.inr ⟨o, e _ _ h⟩)
  · exact .inr h
theorem TupV.ext {H H' : Hp} {a : Addr} {xs : List V} (e : Same H H') (h : TupV K H a xs) : TupV K H' a xs := ⟨TyB.ext e h.ty, sqT_ext e h.sq⟩
def Typed (K : PySem.W.Frag) (H : Hp) (xs : List V) : Prop := ∀ x ∈ xs, ∃ n, TyB K H x n

def arePz (xs : List V) (t : Int) : Bool := decide (V.int (xs.length : Int) = V.int (t - 1)) && xs.all fun x => btw x 0 8
def spAre (K : PySem.W.Frag) : Sp := fun vs H Q _ => ∃ v t, vs = [v, .int t] ∧
  ((∃ n, TyB K H v n ∧ n ≠ "tuple" ∧ Q (.bl false) H) ∨ (∃ a xs, v = .ref a ∧ TupV K H a xs ∧ Typed K H xs ∧ xs.length ≤ 1000 ∧ ∀ H', Same H H' → Q (.bl (arePz xs t)) H'))

theorem ok_are_pauses (T : Txt K mg) (D : Def K mg "_are_pauses" s_are_pauses ["value", "tries"]) (c_is_between : Cal P w K mg base 2 "is_between" (spBtw K)) : Cal P w K mg base 3 "_are_pauses" (spAre K) := by
  refine cal_of D sc_are_pauses (fun vs H Q E h => ?_) (fun f cdv A outer s H vs Q E hr h => ?_)
  · obtain ⟨v, t, rfl, _⟩ := h
    rfl
  · obtain ⟨v, t, rfl, h⟩ := h
    refine ⟨_, (pss_one (ps_ret (pe_and (pe_callB call_isi (by rfl) T.n_isinstance (by decide +kernel) (pa_cons (pv 0) (pa_cons (pe_ty "tuple" (by rfl) T.n_tuple (by decide +kernel)) pa_nil))) (pe_and (pe_cmpR op_eq (pe_callB call_len_seq (by rfl) T.n_len (by decide +kernel) (pa_cons (pv 0) pa_nil)) (pe_op op_sub (pv 1) pe_int) (nomark _)) (pe_one (pe_callB (cr_all rfl) (by rfl) T.n_all (by decide +kernel) (pa_cons (pe_lc (own := [("ticks", 2)]) (g := gName 2) (by rfl) sc_are_pauses.nd (pi_tup (pv 0)) (blkOk_by (own := [("ticks", 2)]) (N := N_are_pauses) (sc := defScope s_are_pauses) (by decide +kernel)) (fun _ _ _ _ _ => pg_name (i := 2) sc_are_pauses.nd rfl (Or.inl rfl)) (fun _ _ _ _ _ => pts_nil) (fun _ _ _ _ _ => (pe_f c_is_between hr (by decide) (by rfl) (pa_cons (pv 2) (pa_cons pe_int (pa_cons pe_int pa_nil)))))) pa_nil))))))), ?_⟩
    walk_at "rd"
    rcases h with ⟨n, ty, hn, q⟩ | ⟨a, xs, rfl, tv, typ, hl, q⟩
    · refine g_isi ty (kb_tuple ty.mem) ?_
      have e : (n == "tuple") = false := by simpa using hn
      rw [e]
      walk_at "rd"
      exact q
    · refine g_isi tv.ty (b := true) (by decide +kernel) ?_
      walk_at "rd"
      refine ⟨a, xs, rfl, .inr tv.sq, ?_⟩
      walk_at "rd"
      have e0 : arePz xs t = (decide (V.int (xs.length : Int) = V.int (t - 1)) && xs.all fun x => btw x 0 8) := rfl
      refine g_ite (fun e1 => ?_) (fun e1 => ?_)
      · walk_at "rd"
        refine ⟨_, rfl, _, rfl, ⟨_, tv.sq⟩, fun L hL => ?_⟩
        refine lc_tup (K := K) (a := a) (xs := xs) (fun i H' => H' = upd H L (.lst ((xs.take i).map fun x => .bl (btw x 0 8)))) rfl (fun i H' _ e => by subst e; exact sqT_ext (same_new hL) tv.sq) ?_ ?_
        · rintro i x H0 hx rfl
          walk_at "rd"
          refine ⟨rfl, ?_⟩
          walk_at "rd"
          obtain ⟨n, tx⟩ := typ x (List.mem_of_getElem? hx)
          refine ⟨x, n, 0, 8, rfl, TyB.ext (same_new hL) tx, _, upd_same, ?_, ?_⟩
          · rw [List.length_map, List.length_take]
            exact small1000 (Nat.le_trans (Nat.min_le_right _ _) hl)
          · rw [upd_upd]
            exact congrArg (fun l => upd H L (.lst l)) (take_map (fun x => V.bl (btw x 0 8)) hx)
        · rintro H1 rfl
          refine ⟨L, xs.map fun x => btw x 0 8, rfl, SqL.of ?_, ?_⟩
          · rw [upd_same, List.take_of_length_le (Nat.le_refl _), List.map_map]
            rfl
          · have e : arePz xs t = ((xs.map fun x => btw x 0 8).all id) := by rw [e0, e1, all_id]; rfl
            rw [← e]
            exact q _ (same_new hL)
      · walk_at "rd"
        have e : arePz xs t = false := by rw [e0, e1]; rfl
        have q0 := q H (Same.refl H)
        rw [e] at q0
        exact q0

def sStop : Str := "stop"
def sGo : Str := "go"
def sDeadline : Str := "deadline"
def endOk : List V → Bool
  | .str z :: r => if z = sStop then decide (r.length = 1) && r.all (fun x => btw x 0 20) else decide (r.length = 0) && inV (.str z) [.str sGo, .str sDeadline]
  | _ => false
def spEnd (K : PySem.W.Frag) : Sp := fun vs H Q _ => ∃ v, vs = [v] ∧
  ((∃ n, TyB K H v n ∧ n ≠ "tuple" ∧ Q (.bl false) H) ∨ (∃ a xs, v = .ref a ∧ TupV K H a xs ∧ Typed K H xs ∧ xs.length ≤ 1000 ∧ ∀ H', Same H H' → Q (.bl (endOk xs)) H'))
theorem ok_is_ending (T : Txt K mg) (D : Def K mg "_is_ending" s_is_ending ["value"]) (c_is_between : Cal P w K mg base 2 "is_between" (spBtw K)) : Cal P w K mg base 3 "_is_ending" (spEnd K) := by
  refine cal_of D sc_is_ending (fun vs H Q E h => ?_) (fun f cdv A outer s H vs Q E hr h => ?_)
  · obtain ⟨v, rfl, _⟩ := h
    rfl
  · obtain ⟨v, rfl, h⟩ := h
    refine ⟨_, (pss_cons (ps_if (PW.pt (pw_or (pt_not (pt_val (pe_callB call_isi (by rfl) T.n_isinstance (by decide +kernel) (pa_cons (pv 0) (pa_cons (pe_ty "tuple" (by rfl) T.n_tuple (by decide +kernel)) pa_nil))))) (pw_or (pt_cmpR op_eq (pe_callB call_len_seq (by rfl) T.n_len (by decide +kernel) (pa_cons (pv 0) pa_nil)) pe_int (nomark _)) (pw_or1 (pt_not (pt_val (pe_callB call_isi (by rfl) T.n_isinstance (by decide +kernel) (pa_cons (pe_ix ix_tup (pv 0) pe_int (fun _ _ => rfl)) (pa_cons (pe_ty "str" (by rfl) T.n_str (by decide +kernel)) pa_nil))))))))) (pss_one (ps_ret pe_bl)) pss_nil)
      (pss_cons (ps_if (pt_cmpR op_eq (pe_ix ix_tup (pv 0) pe_int (fun _ _ => rfl)) pe_str (nomark _)) (pss_one (ps_ret (pe_and (pe_cmpR op_eq (pe_callB call_len_seq (by rfl) T.n_len (by decide +kernel) (pa_cons (pv 0) pa_nil)) pe_int (nomark _)) (pe_one (pe_f c_is_between hr (by decide) (by rfl) (pa_cons (pe_ix ix_tup (pv 0) pe_int (fun _ _ => rfl)) (pa_cons pe_int (pa_cons pe_int pa_nil)))))))) pss_nil)
      (pss_one (ps_ret (pe_and (pe_cmpR op_eq (pe_callB call_len_seq (by rfl) T.n_len (by decide +kernel) (pa_cons (pv 0) pa_nil)) pe_int (nomark _)) (pe_one (pe_cmpR op_in_seq (pe_ix ix_tup (pv 0) pe_int (fun _ _ => rfl)) (pe_tup (pa_cons pe_str (pa_cons pe_str pa_nil))) (by rfl)))))))), ?_⟩
    walk_at "rd"
    rcases h with ⟨n, ty, hn, q⟩ | ⟨a, xs, rfl, tv, typ, hl, q⟩
    · refine g_isi ty (kb_tuple ty.mem) ?_
      have e : (n == "tuple") = false := by simpa using hn
      rw [e]
      walk_at "rd"
      exact q
    · refine g_isi tv.ty (b := true) (by decide +kernel) ?_
      walk_at "rd"
      show (if false = true then _ else _)
      walk_at "rd"
      refine ⟨a, xs, rfl, .inr tv.sq, ?_⟩
      walk_at "rd"
      have q0 := q H (Same.refl H)
      match xs, q, tv, typ, hl, q0 with
      | [], q, tv, typ, hl, q0 =>
        show (if true = true then _ else _)
        walk_at "rd"
        exact q0
      | x :: r, q, tv, typ, hl, q0 =>
        have e1 : decide (V.int (((x :: r).length : Nat) : Int) = V.int 0) = false := decide_eq_false (by intro z; injection z with z; simp at z; omega)
        rw [e1]
        walk_at "rd"
        refine g_ixT tv.sq (v := x) (atI_nat (j := 0) rfl) ?_
        walk_at "rd"
        obtain ⟨n, tx⟩ := typ x (List.mem_cons_self ..)
        refine g_isi tx (kb_str tx.mem) ?_
        walk_at "rd"
        cases tx
        case str z =>
          show (if false = true then _ else _)
          walk_at "rd"
          refine g_ixT tv.sq (v := .str z) (atI_nat (j := 0) rfl) ?_
          walk_at "rd"
          refine g_ite (fun e => ?_) (fun e => ?_)
          · have ez : z = sStop := by injection (of_decide_eq_true e)
            have eq : endOk (.str z :: r) = (decide (r.length = 1) && r.all (fun x => btw x 0 20)) := by
              show (if z = sStop then _ else _) = _
              rw [if_pos ez]
            walk_at "rd"
            refine ⟨a, _, rfl, .inr tv.sq, ?_⟩
            walk_at "rd"
            match r, q, tv, typ, eq, q0 with
            | [], q, tv, typ, eq, q0 =>
              show (if false = true then _ else _)
              walk_at "rd"
              rw [eq] at q0
              exact q0
            | [y], q, tv, typ, eq, q0 =>
              show (if true = true then _ else _)
              walk_at "rd"
              refine g_ixT tv.sq (v := y) (atI_nat (j := 1) rfl) ?_
              walk_at "rd"
              obtain ⟨m, ty⟩ := typ y (List.mem_cons_of_mem _ (List.mem_cons_self ..))
              refine ⟨y, m, 0, 20, rfl, ty, ?_⟩
              have e3 : endOk [.str z, y] = btw y 0 20 := by
                rw [eq]
                show (true && (btw y 0 20 && true)) = _
                rw [Bool.and_true]
                rfl
              rw [e3] at q0
              exact q0
            | y :: y2 :: r, q, tv, typ, eq, q0 =>
              have e4 : decide (V.int (((V.str z :: y :: y2 :: r).length : Nat) : Int) = V.int 2) = false := decide_eq_false (by intro k; injection k with k; simp at k; omega)
              rw [e4]
              walk_at "rd"
              have e5 : endOk (.str z :: y :: y2 :: r) = false := by
                rw [eq, decide_eq_false (by simp)]
                rfl
              rw [e5] at q0
              exact q0
          · have ez : z ≠ sStop := fun k => absurd e (by rw [k]; decide)
            have eq : endOk (.str z :: r) = (decide (r.length = 0) && inV (.str z) [.str sGo, .str sDeadline]) := by
              show (if z = sStop then _ else _) = _
              rw [if_neg ez]
            walk_at "rd"
            refine ⟨a, _, rfl, .inr tv.sq, ?_⟩
            walk_at "rd"
            refine g_ite (fun e6 => ?_) (fun e6 => ?_)
            · walk_at "rd"
              refine g_ixT tv.sq (v := .str z) (atI_nat (j := 0) rfl) ?_
              walk_at "rd"
              refine ⟨(by show 2 ≤ sizeLine; decide), fun p hp => ?_⟩
              refine ⟨p, _, rfl, .inr (SqT.of upd_same), rfl, rfl, ?_⟩
              have e7 : decide (r.length = 0) = true := by
                have k := of_decide_eq_true e6
                injection k with k
                simp at k
                exact decide_eq_true (by omega)
              rw [e7, Bool.true_and] at eq
              rw [eq] at q
              exact q _ (same_new hp)
            · have e7 : decide (r.length = 0) = false := decide_eq_false (fun k => absurd e6 (by simp [k]))
              rw [eq, e7] at q0
              walk_at "rd"
              exact q0
        all_goals
          show (if true = true then _ else _)
          walk_at "rd"
          exact q0
end
end K2

namespace K2
open PySem PySem.Spec PyProof.Rows L2 Mc
section
variable {P : Program} {w : World} {K : PySem.W.Frag} {mg : Str → Option Value} {base : Heap}
local macro_rules | `(tactic| walk_at "rd1") => `(tactic| first
  | with_reducible refine g_seq ?_
  | with_reducible refine g_asg ?_
  | with_reducible refine g_name ?_
  | with_reducible refine g_c ?_
  | with_reducible refine g_op ?_
  | with_reducible refine g_ifS ?_
  | with_reducible refine g_if ?_
  | with_reducible refine g_test ?_
  | with_reducible refine g_B ?_
  | with_reducible refine g_bl ?_
  | with_reducible refine g_blV ?_
  | with_reducible refine g_not ?_
  | with_reducible refine g_and ?_
  | with_reducible refine g_or ?_
  | with_reducible refine g_notV ?_
  | with_reducible refine g_andV ?_
  | with_reducible refine g_orV ?_
  | with_reducible refine g_ret ?_
  | with_reducible refine g_drop ?_
  | with_reducible refine g_next ?_
  | with_reducible refine g_retN ?_
  | with_reducible refine g_call ?_
  | with_reducible refine g_cb ?_
  | with_reducible refine g_cons ?_
  | with_reducible refine g_nil ?_
  | with_reducible refine g_tup ?_
  | with_reducible refine g_lst ?_
  | with_reducible refine g_prop ?_
  | with_reducible refine g_fld ?_
  | with_reducible refine g_meth ?_
  | with_reducible refine g_chain ?_
  | with_reducible refine g_yes ?_
  | with_reducible refine g_make ?_
  | with_reducible refine g_makeK ?_
  | with_reducible refine g_gsub ?_
  | with_reducible refine g_sfld ?_
  | with_reducible refine g_un ?_
  | with_reducible refine g_bm ?_
  | with_reducible refine g_iteT ?_
  | with_reducible refine g_iteF ?_
  | with_reducible refine g_I0 ?_
  | with_reducible refine g_add ?_
  | with_reducible refine g_sub ?_
  | ((with_reducible refine' g_var ?hv ?_); (case hv => rfl))
  | ((with_reducible refine g_eq ?hv ?_); (case hv => rfl))
  | ((with_reducible refine g_ne ?hv ?_); (case hv => rfl)))
local macro_rules | `(tactic| walk_at "rd") => `(tactic| repeat (walk_at "rd1"))

local macro_rules | `(tactic| walk_at "ty") => `(tactic| first | exact .non | exact .bl _ | exact .int _ | exact .str _ | exact .lst (by assumption) | exact .tup (by assumption) | exact .dK (by assumption) | exact .kTup (by assumption) (by assumption))
local macro_rules | `(tactic| walk_at "isiF") => `(tactic| refine g_isi (by walk_at "ty") (b := false) (by decide +kernel) ?_)
local macro_rules | `(tactic| walk_at "isiT") => `(tactic| refine g_isi (by walk_at "ty") (b := true) (by decide +kernel) ?_)

def spAll (K : PySem.W.Frag) : Sp := fun vs H Q _ => ∃ t p e, vs = [.int t, p, e] ∧ 1 ≤ t ∧ t ≤ 1000 ∧
  (e ≠ .non → ∀ q H', Same H H' → H' q = some (.tup []) → Q (.ref q) H') ∧
  (e = .non → p = .non → ∀ q H', Same H H' → H' q = some (.tup (List.replicate (t - 1).toNat (.int 0))) → Q (.ref q) H') ∧
  (e = .non → p ≠ .non → Q p H)
theorem ok_all_pauses (T : Txt K mg) (D : Def K mg "_all_pauses" s_all_pauses ["tries", "pauses", "early"]) : Cal P w K mg base 1 "_all_pauses" (spAll K) := by
  refine cal_of D sc_all_pauses (fun vs H Q E h => ?_) (fun f cdv A outer s H vs Q E hr h => ?_)
  · obtain ⟨t, p, e, rfl, _⟩ := h
    rfl
  · obtain ⟨t, p, e, rfl, t1, t2, q1, q2, q3⟩ := h
    refine ⟨_, (pss_cons (ps_if (pt_cmpR op_notN (pv 2) pe_non (nomark _)) (pss_one (ps_ret (pe_tup pa_nil))) pss_nil)
      (pss_cons (ps_if (pt_cmpR op_isN (pv 1) pe_non (nomark _)) (pss_one (ps_ret (pe_op op_repS (pe_tup (pa_cons pe_int pa_nil)) (pe_op op_sub (pv 0) pe_int)))) pss_nil)
      (pss_one (ps_ret (pv 1))))), ?_⟩
    walk_at "rd"
    refine ⟨rfl, ?_⟩
    walk_at "rd"
    by_cases he : e = .non
    · subst he
      show (if false = true then _ else _)
      walk_at "rd"
      refine ⟨rfl, ?_⟩
      walk_at "rd"
      by_cases hp : p = .non
      · subst hp
        show (if true = true then _ else _)
        walk_at "rd"
        refine ⟨(by show 1 ≤ sizeLine; decide), fun a ha => ?_⟩
        walk_at "rd"
        refine ⟨a, t - 1, .int 0, rfl, rfl, SqT.of upd_same, by omega, by omega, fun e => ?_, fun e b hb => ?_⟩
        · refine q2 rfl rfl _ _ (same_new ha) ?_
          rw [upd_same, e]
          rfl
        · refine q2 rfl rfl _ _ (Same.trans (same_new ha) (same_new hb)) ?_
          rw [upd_same]
      · rw [decide_eq_false hp]
        walk_at "rd"
        exact q3 rfl hp
    · rw [decide_eq_false he]
      show (if true = true then _ else _)
      walk_at "rd"
      refine ⟨(by show 0 ≤ sizeLine; decide), fun a ha => ?_⟩
      exact q1 he _ _ (same_new ha) upd_same

def isB : V → Bool
  | .bl _ => true
  | _ => false
def gt1 : V → Bool
  | .int i => decide (1 < i)
  | _ => false
def wfV (l t p e y : V) (pb gb : Bool) : V :=
  if btw l 1 20 then if btw t 1 3 then
    if !decide (p = .non) && !(decide (e = .non) && pb) then .str "pauses" else
    if !decide (e = .non) && !(gt1 t && btw e 1 20) then .str "early" else
    if isB y then (if gb then .non else .str "ending") else .str "lossy"
  else .str "tries" else .str "limit"
def SeqR (K : PySem.W.Frag) (H : Hp) (v : V) (f : List V → Bool) (b : Bool) : Prop :=
  (∃ n, TyB K H v n ∧ n ≠ "tuple" ∧ b = false) ∨ (∃ a xs, v = .ref a ∧ TupV K H a xs ∧ Typed K H xs ∧ xs.length ≤ 1000 ∧ b = f xs)
theorem Typed.ext {H H' : Hp} {xs : List V} (e : Same H H') (h : Typed K H xs) : Typed K H' xs := fun x hx => (h x hx).elim fun n t => ⟨n, TyB.ext e t⟩
theorem SeqR.ext {H H' : Hp} {v : V} {f : List V → Bool} {b : Bool} (e : Same H H') (h : SeqR K H v f b) : SeqR K H' v f b := by
  rcases h with ⟨n, t, hn, hb⟩ | ⟨a, xs, ev, tv, ty, hl, hb⟩
  · exact .inl ⟨n, TyB.ext e t, hn, hb⟩
  · exact .inr ⟨a, xs, ev, TupV.ext e tv, Typed.ext e ty, hl, hb⟩
theorem SeqR.are {H : Hp} {Q : VK} {E : XK} {v : V} {t : Int} {b : Bool} (h : SeqR K H v (fun xs => arePz xs t) b) (q : ∀ H', Same H H' → Q (.bl b) H') : spAre K [v, .int t] H Q E := by
  refine ⟨v, t, rfl, ?_⟩
  rcases h with ⟨n, ty, hn, rfl⟩ | ⟨a, xs, ev, tv, ty, hl, rfl⟩
  · exact .inl ⟨n, ty, hn, q H (Same.refl H)⟩
  · exact .inr ⟨a, xs, ev, tv, ty, hl, q⟩
theorem SeqR.en {H : Hp} {Q : VK} {E : XK} {v : V} {b : Bool} (h : SeqR K H v endOk b) (q : ∀ H', Same H H' → Q (.bl b) H') : spEnd K [v] H Q E := by
  refine ⟨v, rfl, ?_⟩
  rcases h with ⟨n, ty, hn, rfl⟩ | ⟨a, xs, ev, tv, ty, hl, rfl⟩
  · exact .inl ⟨n, ty, hn, q H (Same.refl H)⟩
  · exact .inr ⟨a, xs, ev, tv, ty, hl, q⟩
def spWrong (K : PySem.W.Frag) : Sp := fun vs H Q _ => ∃ l t p e y g n1 n2 n3 n4 pb gb, vs = [l, t, p, e, y, g] ∧ TyB K H l n1 ∧ TyB K H t n2 ∧ TyB K H e n3 ∧ TyB K H y n4 ∧
  (∀ i, t = .int i → SeqR K H p (fun xs => arePz xs i) pb) ∧ SeqR K H g endOk gb ∧ ∀ H', Same H H' → Q (wfV l t p e y pb gb) H'
theorem btw_int {v : V} {a b : Int} (h : btw v a b = true) : ∃ i, v = .int i := by
  cases v <;> first | exact ⟨_, rfl⟩ | exact Bool.noConfusion h
theorem isB_ty {H : Hp} {v : V} {n : String} (h : TyB K H v n) : isB v = (n == "bool") := by
  cases h <;> rfl

def spAcc (K : PySem.W.Frag) : Sp := fun vs H Q _ => ∃ f v, vs = [.str f, v] ∧ ((f = "limit" ∧ ∃ n, TyB K H v n ∧ Q (.bl (btw v 1 20)) H) ∨ (f = "tries" ∧ ∃ n, TyB K H v n ∧ Q (.bl (btw v 1 3)) H) ∨
  (f = "ending" ∧ ∃ gb, SeqR K H v endOk gb ∧ ∀ H', Same H H' → Q (.bl gb) H'))
theorem ok_accepts (T : Txt K mg) (D : Def K mg "accepts" s_accepts ["field", "value"]) (c_is_between : Cal P w K mg base 2 "is_between" (spBtw K))
    (c_is_ending : Cal P w K mg base 3 "_is_ending" (spEnd K)) : Cal P w K mg base 4 "accepts" (spAcc K) := by
  refine cal_of D sc_accepts (fun vs H Q E h => ?_) (fun f cdv A outer s H vs Q E hr h => ?_)
  · obtain ⟨f, v, rfl, _⟩ := h
    rfl
  · obtain ⟨f, v, rfl, h⟩ := h
    refine ⟨_, (pss_cons (ps_if (pt_cmpR op_eq (pv 0) pe_str (nomark _)) (pss_one (ps_ret (pe_f c_is_between hr (by decide) (by rfl) (pa_cons (pv 1) (pa_cons pe_int (pa_cons (pe_gx rfl T.g_MOST_LIMIT) pa_nil)))))) pss_nil)
      (pss_cons (ps_if (pt_cmpR op_eq (pv 0) pe_str (nomark _)) (pss_one (ps_ret (pe_f c_is_between hr (by decide) (by rfl) (pa_cons (pv 1) (pa_cons pe_int (pa_cons (pe_gx rfl T.g_MOST_TRIES) pa_nil)))))) pss_nil)
      (pss_one (ps_ret (pe_and (pe_cmpR op_eq (pv 0) pe_str (nomark _)) (pe_one (pe_f c_is_ending hr (by decide) (by rfl) (pa_cons (pv 1) pa_nil)))))))), ?_⟩
    have n1 : decide (V.str "tries" = V.str "limit") = false := decide_eq_false (fun z => absurd (V.str.inj z) (by decide))
    have n2 : decide (V.str "ending" = V.str "limit") = false := decide_eq_false (fun z => absurd (V.str.inj z) (by decide))
    have n3 : decide (V.str "ending" = V.str "tries") = false := decide_eq_false (fun z => absurd (V.str.inj z) (by decide))
    rcases h with ⟨rfl, n, ty, q⟩ | ⟨rfl, n, ty, q⟩ | ⟨rfl, gb, sq, q⟩
    · walk_at "rd"
      rw [decide_eq_true (Eq.refl (V.str "limit"))]
      walk_at "rd"
      refine ⟨v, n, 1, 20, rfl, ty, ?_⟩
      walk_at "rd"
      exact q
    · walk_at "rd"
      rw [n1]
      walk_at "rd"
      rw [decide_eq_true (Eq.refl (V.str "tries"))]
      walk_at "rd"
      refine ⟨v, n, 1, 3, rfl, ty, ?_⟩
      walk_at "rd"
      exact q
    · walk_at "rd"
      rw [n2]
      walk_at "rd"
      rw [n3]
      walk_at "rd"
      rw [decide_eq_true (Eq.refl (V.str "ending"))]
      walk_at "rd"
      refine SeqR.en sq fun H2 S2 => ?_
      walk_at "rd"
      exact q _ S2
theorem ok_wrong_field (T : Txt K mg) (D : Def K mg "_wrong_field" s_wrong_field ["limit", "tries", "pauses", "early", "lossy", "ending"]) (c_is_between : Cal P w K mg base 2 "is_between" (spBtw K))
    (c_are_pauses : Cal P w K mg base 3 "_are_pauses" (spAre K)) (c_accepts : Cal P w K mg base 4 "accepts" (spAcc K)) : Cal P w K mg base 5 "_wrong_field" (spWrong K) := by
  refine cal_of D sc_wrong_field (fun vs H Q E h => ?_) (fun f cdv A outer s H vs Q E hr h => ?_)
  · obtain ⟨l, t, p, e, y, g, _, _, _, _, _, _, rfl, _⟩ := h
    rfl
  · obtain ⟨l, t, p, e, y, g, n1, n2, n3, n4, pb, gb, rfl, t1, t2, t3, t4, hp, hg, q⟩ := h
    refine ⟨_, (pss_cons (ps_if (pt_not (pt_val (pe_f c_accepts hr (by decide) (by rfl) (pa_cons pe_str (pa_cons (pv 0) pa_nil))))) (pss_one (ps_ret pe_str)) pss_nil)
      (pss_cons (ps_if (pt_not (pt_val (pe_f c_accepts hr (by decide) (by rfl) (pa_cons pe_str (pa_cons (pv 1) pa_nil))))) (pss_one (ps_ret pe_str)) pss_nil)
      (pss_cons (ps_if (PW.pt (pw_and (pt_cmpR op_notN (pv 2) pe_non (nomark _)) (pw_and1 (pt_not (PW.pt (pw_and (pt_cmpR op_isN (pv 3) pe_non (nomark _)) (pw_and1 (pt_val (pe_f c_are_pauses hr (by decide) (by rfl) (pa_cons (pv 2) (pa_cons (pv 1) pa_nil))))))))))) (pss_one (ps_ret pe_str)) pss_nil)
      (pss_cons (ps_if (PW.pt (pw_and (pt_cmpR op_notN (pv 3) pe_non (nomark _)) (pw_and1 (pt_not (PW.pt (pw_and (pt_cmpR op_gt (pv 1) pe_int (nomark _)) (pw_and1 (pt_val (pe_f c_is_between hr (by decide) (by rfl) (pa_cons (pv 3) (pa_cons pe_int (pa_cons pe_int pa_nil)))))))))))) (pss_one (ps_ret pe_str)) pss_nil)
      (pss_cons (ps_if (pt_not (pt_val (pe_callB call_isi (by rfl) T.n_isinstance (by decide +kernel) (pa_cons (pv 4) (pa_cons (pe_ty "bool" (by rfl) T.n_bool (by decide +kernel)) pa_nil))))) (pss_one (ps_ret pe_str)) pss_nil)
      (pss_cons (ps_if (pt_not (pt_val (pe_f c_accepts hr (by decide) (by rfl) (pa_cons pe_str (pa_cons (pv 5) pa_nil))))) (pss_one (ps_ret pe_str)) pss_nil)
      (pss_one (ps_ret pe_non)))))))), ?_⟩
    walk_at "rd"
    refine ⟨_, l, rfl, .inl ⟨rfl, n1, t1, ?_⟩⟩
    walk_at "rd"
    unfold wfV at q
    cases e1 : btw l 1 20
    · rw [e1] at q
      show (if true = true then _ else _)
      walk_at "rd"
      exact q H (Same.refl H)
    rw [e1] at q
    show (if false = true then _ else _)
    walk_at "rd"
    refine ⟨_, t, rfl, .inr (.inl ⟨rfl, n2, t2, ?_⟩)⟩
    walk_at "rd"
    cases e2 : btw t 1 3
    · rw [e2] at q
      show (if true = true then _ else _)
      walk_at "rd"
      exact q H (Same.refl H)
    rw [e2] at q
    obtain ⟨i, rfl⟩ := btw_int e2
    have hp := hp i rfl
    show (if false = true then _ else _)
    walk_at "rd"
    refine ⟨rfl, ?_⟩
    walk_at "rd"
    have S := Same.refl H
    by_cases hen : e = .non
    · subst hen
      by_cases hpn : p = .non
      · subst hpn
        show (if false = true then _ else _)
        walk_at "rd"
        refine ⟨rfl, ?_⟩
        walk_at "rd"
        show (if false = true then _ else _)
        walk_at "rd"
        refine g_isi (TyB.ext S t4) (kb_bool t4.mem) ?_
        rw [isB_ty t4] at q
        walk_at "rd"
        cases ey : (n4 == "bool")
        · rw [ey] at q
          show (if true = true then _ else _)
          walk_at "rd"
          exact q _ S
        · rw [ey] at q
          show (if false = true then _ else _)
          walk_at "rd"
          refine ⟨_, g, rfl, .inr (.inr ⟨rfl, gb, SeqR.ext S hg, fun H2 S2 => ?_⟩)⟩
          walk_at "rd"
          cases gb
          · show (if true = true then _ else _)
            walk_at "rd"
            exact q _ (Same.trans S S2)
          · show (if false = true then _ else _)
            walk_at "rd"
            exact q _ (Same.trans S S2)
      · rw [decide_eq_false hpn]
        rw [decide_eq_false hpn] at q
        show (if true = true then _ else _)
        walk_at "rd"
        refine ⟨rfl, ?_⟩
        walk_at "rd"
        show (if true = true then _ else _)
        walk_at "rd"
        refine hp.are fun H1 S1 => ?_
        walk_at "rd"
        cases pb
        · show (if true = true then _ else _)
          walk_at "rd"
          exact q H1 S1
        · show (if false = true then _ else _)
          walk_at "rd"
          refine ⟨rfl, ?_⟩
          walk_at "rd"
          show (if false = true then _ else _)
          walk_at "rd"
          have S := S1
          refine g_isi (TyB.ext S t4) (kb_bool t4.mem) ?_
          rw [isB_ty t4] at q
          walk_at "rd"
          cases ey : (n4 == "bool")
          · rw [ey] at q
            show (if true = true then _ else _)
            walk_at "rd"
            exact q _ S
          · rw [ey] at q
            show (if false = true then _ else _)
            walk_at "rd"
            refine ⟨_, g, rfl, .inr (.inr ⟨rfl, gb, SeqR.ext S hg, fun H2 S2 => ?_⟩)⟩
            walk_at "rd"
            cases gb
            · show (if true = true then _ else _)
              walk_at "rd"
              exact q _ (Same.trans S S2)
            · show (if false = true then _ else _)
              walk_at "rd"
              exact q _ (Same.trans S S2)
    · rw [decide_eq_false hen] at q
      by_cases hpn : p = .non
      · subst hpn
        show (if false = true then _ else _)
        walk_at "rd"
        refine ⟨rfl, ?_⟩
        walk_at "rd"
        rw [decide_eq_false hen]
        show (if true = true then _ else _)
        walk_at "rd"
        have eg : gt1 (.int i) = decide (1 < i) := rfl
        rw [eg] at q
        refine g_ite (fun e3 => ?_) (fun e3 => ?_)
        · walk_at "rd"
          refine ⟨e, n3, 1, 20, rfl, t3, ?_⟩
          walk_at "rd"
          rw [e3] at q
          cases e4 : btw e 1 20
          · rw [e4] at q
            show (if true = true then _ else _)
            walk_at "rd"
            exact q H S
          · rw [e4] at q
            show (if false = true then _ else _)
            walk_at "rd"
            refine g_isi (TyB.ext S t4) (kb_bool t4.mem) ?_
            rw [isB_ty t4] at q
            walk_at "rd"
            cases ey : (n4 == "bool")
            · rw [ey] at q
              show (if true = true then _ else _)
              walk_at "rd"
              exact q _ S
            · rw [ey] at q
              show (if false = true then _ else _)
              walk_at "rd"
              refine ⟨_, g, rfl, .inr (.inr ⟨rfl, gb, SeqR.ext S hg, fun H2 S2 => ?_⟩)⟩
              walk_at "rd"
              cases gb
              · show (if true = true then _ else _)
                walk_at "rd"
                exact q _ (Same.trans S S2)
              · show (if false = true then _ else _)
                walk_at "rd"
                exact q _ (Same.trans S S2)
        · rw [e3] at q
          walk_at "rd"
          show (if true = true then _ else _)
          walk_at "rd"
          exact q H S
      · rw [decide_eq_false hpn]
        rw [decide_eq_false hpn] at q
        show (if true = true then _ else _)
        walk_at "rd"
        refine ⟨rfl, ?_⟩
        walk_at "rd"
        rw [decide_eq_false hen]
        show (if false = true then _ else _)
        walk_at "rd"
        show (if true = true then _ else _)
        walk_at "rd"
        exact q H S
end
end K2

namespace K2
open PySem PySem.Spec PyProof.Rows L2 Mc
/-! ### a policy as data -/
inductive En where
  | go | deadline | stop (d : Int)
def En.vs : En → List V
  | .go => [.str sGo]
  | .deadline => [.str sDeadline]
  | .stop d => [.str sStop, .int d]
def En.ds : En → List PyData
  | .go => [.str sGo]
  | .deadline => [.str sDeadline]
  | .stop d => [.str sStop, .int d]
def En.ok : En → Prop
  | .stop d => 0 ≤ d ∧ d ≤ 20
  | _ => True
structure Pol where
  z : Str
  l : Int
  t : Int
  ps : List Int
  e : Option Int
  b : Bool
  g : En
def eV : Option Int → V
  | none => .non
  | some i => .int i
def eD : Option Int → PyData
  | none => .none
  | some i => .int i
def Pol.ds (q : Pol) : List PyData := [.str q.z, .int q.l, .int q.t, .tuple (q.ps.map .int), eD q.e, .bool q.b, .tuple q.g.ds]
def Pol.vs (q : Pol) (pa ga : Addr) : List V := [.str q.z, .int q.l, .int q.t, .ref pa, eV q.e, .bl q.b, .ref ga]
structure Pol.ok (q : Pol) : Prop where
  nm : isNm q.z = true
  nl : q.z.length ≤ 1000
  l1 : 1 ≤ q.l
  l2 : q.l ≤ 20
  t1 : 1 ≤ q.t
  t2 : q.t ≤ 3
  e1 : ∀ i, q.e = some i → 2 ≤ q.t ∧ 1 ≤ i ∧ i ≤ 20 ∧ q.ps = []
  e0 : q.e = none → (q.ps.length : Int) = q.t - 1 ∧ ∀ i ∈ q.ps, 0 ≤ i ∧ i ≤ 8
  g1 : q.g.ok
def pfs (n l t p e y g : V) : List (Str × V) := [("_name", n), ("_limit", l), ("_tries", t), ("_pauses", p), ("_early", e), ("_lossy", y), ("_ending", g)]
def Pol.fs (q : Pol) (pa ga : Addr) : List (Str × V) := pfs (.str q.z) (.int q.l) (.int q.t) (.ref pa) (eV q.e) (.bl q.b) (.ref ga)
structure Tups (K : PySem.W.Frag) (H : Hp) (q : Pol) (pa ga : Addr) : Prop where
  p : TupV K H pa (q.ps.map V.int)
  g : TupV K H ga q.g.vs
theorem Tups.ext {K : PySem.W.Frag} {H H' : Hp} {q : Pol} {pa ga : Addr} (e : Same H H') (h : Tups K H q pa ga) : Tups K H' q pa ga := ⟨TupV.ext e h.p, TupV.ext e h.g⟩
def PolAt (K : PySem.W.Frag) (C : Addr) (H : Hp) (a : Addr) (q : Pol) : Prop := ∃ dx pa ga, H a = some (.ins C dx (q.fs pa ga)) ∧ Tups K H q pa ga
theorem PolAt.ext {K : PySem.W.Frag} {C : Addr} {H H' : Hp} {a : Addr} {q : Pol} (e : Same H H') (h : PolAt K C H a q) : PolAt K C H' a q := by
  obtain ⟨dx, pa, ga, h1, h2⟩ := h
  exact ⟨dx, pa, ga, e _ _ h1, h2.ext e⟩

theorem endOk_ok {g : En} (h : g.ok) : endOk g.vs = true := by
  cases g with
  | go => decide +kernel
  | deadline => decide +kernel
  | stop d =>
    have h1 : 0 ≤ d := h.1
    have h2 : d ≤ 20 := h.2
    simp [En.vs, endOk, btw, h1, h2]
theorem typed_en {K : PySem.W.Frag} {H : Hp} {g : En} : Typed K H g.vs := by
  intro x hx
  cases g <;> simp [En.vs] at hx
  · subst hx; exact ⟨_, .str _⟩
  · subst hx; exact ⟨_, .str _⟩
  · rcases hx with rfl | rfl
    · exact ⟨_, .str _⟩
    · exact ⟨_, .int _⟩
theorem en_len {g : En} : g.vs.length ≤ 1000 := by cases g <;> simp [En.vs]
theorem typed_ints {K : PySem.W.Frag} {H : Hp} {ns : List Int} : Typed K H (ns.map V.int) := by
  intro x hx
  obtain ⟨i, _, rfl⟩ := List.mem_map.mp hx
  exact ⟨_, .int i⟩
theorem dp_ints {K : PySem.W.Frag} {H : Hp} : ∀ ns : List Int, DpAll K H (ns.map V.int) (ns.map PyData.int)
  | [] => .nil
  | i :: r => .cons (.int i) (dp_ints r)
theorem dp_en {K : PySem.W.Frag} {H : Hp} {g : En} : DpAll K H g.vs g.ds := by
  cases g with
  | go => exact .cons (.str _) .nil
  | deadline => exact .cons (.str _) .nil
  | stop d => exact .cons (.str _) (.cons (.int _) .nil)
theorem dp_e {K : PySem.W.Frag} {H : Hp} {e : Option Int} : Dp K H (eV e) (eD e) := by
  cases e with
  | none => exact .non
  | some i => exact .int i
theorem dp_pol {K : PySem.W.Frag} {H : Hp} {q : Pol} {pa ga : Addr} (h : Tups K H q pa ga) : DpAll K H (q.vs pa ga) q.ds :=
  .cons (.str _) (.cons (.int _) (.cons (.int _) (.cons (.tup h.p.sq (dp_ints _)) (.cons dp_e (.cons (.bl _) (.cons (.tup h.g.sq dp_en) .nil))))))

section
variable {P : Program} {w : World} {K : PySem.W.Frag} {mg : Str → Option Value} {base : Heap}
local macro_rules | `(tactic| walk_at "rd1") => `(tactic| first
  | with_reducible refine g_seq ?_
  | with_reducible refine g_asg ?_
  | with_reducible refine g_name ?_
  | with_reducible refine g_c ?_
  | with_reducible refine g_op ?_
  | with_reducible refine g_ifS ?_
  | with_reducible refine g_if ?_
  | with_reducible refine g_test ?_
  | with_reducible refine g_B ?_
  | with_reducible refine g_bl ?_
  | with_reducible refine g_blV ?_
  | with_reducible refine g_not ?_
  | with_reducible refine g_and ?_
  | with_reducible refine g_or ?_
  | with_reducible refine g_notV ?_
  | with_reducible refine g_andV ?_
  | with_reducible refine g_orV ?_
  | with_reducible refine g_ret ?_
  | with_reducible refine g_drop ?_
  | with_reducible refine g_next ?_
  | with_reducible refine g_retN ?_
  | with_reducible refine g_call ?_
  | with_reducible refine g_cb ?_
  | with_reducible refine g_cons ?_
  | with_reducible refine g_nil ?_
  | with_reducible refine g_tup ?_
  | with_reducible refine g_lst ?_
  | with_reducible refine g_prop ?_
  | with_reducible refine g_fld ?_
  | with_reducible refine g_meth ?_
  | with_reducible refine g_chain ?_
  | with_reducible refine g_yes ?_
  | with_reducible refine g_make ?_
  | with_reducible refine g_makeK ?_
  | with_reducible refine g_gsub ?_
  | with_reducible refine g_sfld ?_
  | with_reducible refine g_un ?_
  | with_reducible refine g_bm ?_
  | with_reducible refine g_iteT ?_
  | with_reducible refine g_iteF ?_
  | with_reducible refine g_I0 ?_
  | with_reducible refine g_add ?_
  | with_reducible refine g_sub ?_
  | ((with_reducible refine' g_var ?hv ?_); (case hv => rfl))
  | ((with_reducible refine g_eq ?hv ?_); (case hv => rfl))
  | ((with_reducible refine g_ne ?hv ?_); (case hv => rfl)))
local macro_rules | `(tactic| walk_at "rd") => `(tactic| repeat (walk_at "rd1"))

local macro_rules | `(tactic| walk_at "ty") => `(tactic| first | exact .non | exact .bl _ | exact .int _ | exact .str _ | exact .lst (by assumption) | exact .tup (by assumption) | exact .dK (by assumption) | exact .kTup (by assumption) (by assumption))
local macro_rules | `(tactic| walk_at "isiF") => `(tactic| refine g_isi (by walk_at "ty") (b := false) (by decide +kernel) ?_)
local macro_rules | `(tactic| walk_at "isiT") => `(tactic| refine g_isi (by walk_at "ty") (b := true) (by decide +kernel) ?_)

structure CTxt (K : PySem.W.Frag) (C : Addr) : Prop where
  cl : Cls K C
  n1 : NoAttr K C "_name"
  n2 : NoAttr K C "_limit"
  n3 : NoAttr K C "_tries"
  n4 : NoAttr K C "_pauses"
  n5 : NoAttr K C "_early"
  n6 : NoAttr K C "_lossy"
  n7 : NoAttr K C "_ending"
theorem pf_skip {f h : Str} {v x : V} {r : List (Str × V)} (n : ¬ h = f) : putF f v ((h, x) :: r) = (h, x) :: putF f v r := if_neg n
theorem pf_nil {f : Str} {v : V} : putF f v [] = [(f, v)] := rfl
theorem pf_all {n l t p e y g : V} : putF "_ending" g (putF "_lossy" y (putF "_early" e (putF "_pauses" p (putF "_tries" t (putF "_limit" l (putF "_name" n [])))))) = pfs n l t p e y g := by
  unfold pfs
  rw [pf_nil]
  rw [pf_skip (f := "_limit") (h := "_name") (by decide +kernel)]
  rw [pf_nil]
  rw [pf_skip (f := "_tries") (h := "_name") (by decide +kernel)]
  rw [pf_skip (f := "_tries") (h := "_limit") (by decide +kernel)]
  rw [pf_nil]
  rw [pf_skip (f := "_pauses") (h := "_name") (by decide +kernel)]
  rw [pf_skip (f := "_pauses") (h := "_limit") (by decide +kernel)]
  rw [pf_skip (f := "_pauses") (h := "_tries") (by decide +kernel)]
  rw [pf_nil]
  rw [pf_skip (f := "_early") (h := "_name") (by decide +kernel)]
  rw [pf_skip (f := "_early") (h := "_limit") (by decide +kernel)]
  rw [pf_skip (f := "_early") (h := "_tries") (by decide +kernel)]
  rw [pf_skip (f := "_early") (h := "_pauses") (by decide +kernel)]
  rw [pf_nil]
  rw [pf_skip (f := "_lossy") (h := "_name") (by decide +kernel)]
  rw [pf_skip (f := "_lossy") (h := "_limit") (by decide +kernel)]
  rw [pf_skip (f := "_lossy") (h := "_tries") (by decide +kernel)]
  rw [pf_skip (f := "_lossy") (h := "_pauses") (by decide +kernel)]
  rw [pf_skip (f := "_lossy") (h := "_early") (by decide +kernel)]
  rw [pf_nil]
  rw [pf_skip (f := "_ending") (h := "_name") (by decide +kernel)]
  rw [pf_skip (f := "_ending") (h := "_limit") (by decide +kernel)]
  rw [pf_skip (f := "_ending") (h := "_tries") (by decide +kernel)]
  rw [pf_skip (f := "_ending") (h := "_pauses") (by decide +kernel)]
  rw [pf_skip (f := "_ending") (h := "_early") (by decide +kernel)]
  rw [pf_skip (f := "_ending") (h := "_lossy") (by decide +kernel)]
  rw [pf_nil]
def spInit (K : PySem.W.Frag) (C : Addr) : Sp := fun vs H Q _ => ∃ x dx q p ga, vs = [.ref x, .str q.z, .int q.l, .int q.t, p, eV q.e, .bl q.b, .ref ga] ∧ q.ok ∧ H x = some (.ins C dx []) ∧ TupV K H ga q.g.vs ∧
  ((p = .non ∧ (q.e = none → q.ps = List.replicate (q.t - 1).toNat 0)) ∨ (q.e = none ∧ ∃ pa, p = .ref pa ∧ TupV K H pa (q.ps.map V.int))) ∧
  ∀ H', PolAt K C H' x q → (∀ b o, H b = some o → b ≠ x → H' b = some o) → Q .non H'
theorem all_btw {ns : List Int} (h : ∀ i ∈ ns, 0 ≤ i ∧ i ≤ 8) : (ns.map V.int).all (fun x => btw x 0 8) = true := by
  rw [List.all_map, List.all_eq_true]
  intro i hi
  show (decide (0 ≤ i) && decide (i ≤ 8)) = true
  rw [decide_eq_true (h i hi).1, decide_eq_true (h i hi).2]
  rfl
theorem wf_ok {q : Pol} {p : V} (ok : q.ok) (hp : p = .non ∨ q.e = none) : wfV (.int q.l) (.int q.t) p (eV q.e) (.bl q.b) true true = .non := by
  unfold wfV
  have a1 : btw (.int q.l) 1 20 = true := by show (decide _ && decide _) = true; rw [decide_eq_true ok.l1, decide_eq_true ok.l2]; rfl
  have a2 : btw (.int q.t) 1 3 = true := by show (decide _ && decide _) = true; rw [decide_eq_true ok.t1, decide_eq_true ok.t2]; rfl
  rw [a1, a2, if_pos rfl, if_pos rfl]
  have a3 : (!decide (p = .non) && !(decide (eV q.e = .non) && true)) = false := by
    rcases hp with rfl | h
    · simp
    · rw [h]
      simp [eV]
  have a4 : (!decide (eV q.e = .non) && !(gt1 (.int q.t) && btw (eV q.e) 1 20)) = false := by
    cases he : q.e with
    | none => simp [eV]
    | some i =>
      obtain ⟨h1, h2, h3, _⟩ := ok.e1 i he
      have b1 : gt1 (.int q.t) = true := decide_eq_true (by omega)
      have b2 : btw (eV (some i)) 1 20 = true := by show (decide _ && decide _) = true; rw [decide_eq_true h2, decide_eq_true h3]; rfl
      rw [b1, b2]
      simp
  rw [a3, a4]
  rfl
theorem lenP {k : Nat} {f : Str} {v : V} : ∀ {fs : List (Str × V)}, fs.length ≤ k → (putF f v fs).length ≤ k + 1
  | [], _ => by show 1 ≤ k + 1; omega
  | (h, x) :: r, hk => by
    by_cases e : h = f
    · have q : putF f v ((h, x) :: r) = (h, v) :: r := if_pos e
      rw [q]
      simp at hk ⊢
      omega
    · rw [pf_skip e]
      cases k with
      | zero => simp at hk
      | succ k =>
        have := lenP (k := k) (f := f) (v := v) (fs := r) (by simpa using hk)
        simp
        exact this
theorem ltP (k : Nat) {fs : List (Str × V)} (h : fs.length ≤ k) (hk : k < 1000) : fs.length < 1000 := Nat.lt_of_le_of_lt h hk
theorem TupV.put {H : Hp} {x C dx a : Addr} {fs : List (Str × V)} {xs : List V} {o : HO} (hx : H x = some (.ins C dx fs)) (h : TupV K H a xs) : TupV K (upd H x o) a xs := by
  have off : ∀ {b : Addr} {u : HO}, H b = some u → (∀ C' d' f', u ≠ .ins C' d' f') → upd H x o b = some u := fun {b u} hb hu => by
    rw [upd_ne (fun e => by rw [e, hx] at hb; exact hu _ _ _ (Option.some.inj hb).symm)]
    exact hb
  obtain ⟨ty, sq⟩ := h
  constructor
  · generalize hn : "tuple" = n at ty
    cases ty with
    | tup e => exact .tup (off e (by intro _ _ _ z; cases z))
    | kTup e c => exact .kTup e c
    | lst e => exact absurd hn (by decide)
    | dK e => exact absurd hn (by decide)
  · rcases sq with (h | ⟨ob, h⟩) | h
    · exact .inl (.inl (off h (by intro _ _ _ z; cases z)))
    · exact .inl (.inr ⟨ob, off h (by intro _ _ _ z; cases z)⟩)
    · exact .inr h

abbrev kwsP (go : Addr) : List (Str × V) := [("tries", .int 1), ("pauses", .non), ("early", .non), ("lossy", .bl false), ("ending", .ref go)]
abbrev psP : List Str := ["self", "name", "limit", "tries", "pauses", "early", "lossy", "ending"]
theorem ok_init {f C go : Addr} {fd : FuncData} (F : FunD K "__init__" "Policy.__init__" (defArgs s_Policyinit) (defBody s_Policyinit) (defScope s_Policyinit) [] (kwsP go) f fd) (T : Txt K mg) (TC : CTxt K C)
    (c_is_name : Cal P w K mg base 1 "is_name" (spName K)) (c_wrong_field : Cal P w K mg base 5 "_wrong_field" (spWrong K)) (c_all_pauses : Cal P w K mg base 1 "_all_pauses" (spAll K)) :
    FnOk P w K mg base CX0 6 f fd psP (spInit K C) := by
  refine F.ok sc_Policyinit (fun vs H Q E h => ?_) (fun cdv A outer s H vs Q E hr h => ?_)
  · obtain ⟨x, dx, q, p, ga, rfl, _⟩ := h
    rfl
  · obtain ⟨x, dx, q, p, ga, rfl, ok, hx, tg, hp, k⟩ := h
    refine ⟨_, (pss_cons (ps_if (pt_not (pt_val (pe_f c_is_name hr (by decide) (by rfl) (pa_cons (pv 1) pa_nil)))) (pss_one ps_never) pss_nil)
      (pss_cons (ps_set (i := 8) sc_Policyinit.nd rfl (Or.inl rfl) (pe_f c_wrong_field hr (by decide) (by rfl) (pa_cons (pv 2) (pa_cons (pv 3) (pa_cons (pv 4) (pa_cons (pv 5) (pa_cons (pv 6) (pa_cons (pv 7) pa_nil))))))))
      (pss_cons (ps_if (pt_cmpR op_notN (pv 8) pe_non (nomark _)) (pss_one ps_never) pss_nil)
      (pss_cons (ps_fld (pv 0) (pv 1) rfl)
      (pss_cons (ps_fld (pv 0) (pv 2) rfl)
      (pss_cons (ps_fld (pv 0) (pv 3) rfl)
      (pss_cons (ps_fld (pv 0) (pe_f c_all_pauses hr (by decide) (by rfl) (pa_cons (pv 3) (pa_cons (pv 4) (pa_cons (pv 5) pa_nil)))) rfl)
      (pss_cons (ps_fld (pv 0) (pv 5) rfl)
      (pss_cons (ps_fld (pv 0) (pv 6) rfl)
      (pss_one (ps_fld (pv 0) (pv 7) rfl))))))))))), ?_⟩
    walk_at "rd"
    refine ⟨.str q.z, _, rfl, .str _, fun z e => by injection e with e; rw [← e]; exact ok.nl, fun H1 S1 => ?_⟩
    walk_at "rd"
    have e1 : nmV (.str q.z) = true := ok.nm
    rw [e1]
    show (if false = true then _ else _)
    walk_at "rd"
    have te : ∃ n, TyB K H1 (eV q.e) n := by
      cases q.e with
      | none => exact ⟨_, .non⟩
      | some i => exact ⟨_, .int i⟩
    obtain ⟨ne, te⟩ := te
    have hpp : p = .non ∨ q.e = none := hp.elim (fun h => .inl h.1) (fun h => .inr h.1)
    -- what the pauses are
    have sp : ∃ pb, (∀ i, V.int q.t = V.int i → SeqR K H1 p (fun xs => arePz xs i) pb) ∧ wfV (.int q.l) (.int q.t) p (eV q.e) (.bl q.b) pb true = .non := by
      rcases hp with ⟨rfl, _⟩ | ⟨he, pa, rfl, tp⟩
      · refine ⟨false, fun i _ => .inl ⟨_, .non, by decide, rfl⟩, ?_⟩
        have := wf_ok (p := .non) ok (.inl rfl)
        unfold wfV at this ⊢
        simpa using this
      · refine ⟨true, fun i hi => ?_, wf_ok ok (.inr he)⟩
        injection hi with hi
        subst hi
        obtain ⟨hl, hb⟩ := ok.e0 he
        refine .inr ⟨pa, _, rfl, TupV.ext S1 tp, typed_ints, ?_, ?_⟩
        · rw [List.length_map]
          have := ok.t2
          omega
        · show true = (decide (V.int (((q.ps.map V.int).length : Nat) : Int) = V.int (q.t - 1)) && (q.ps.map V.int).all fun x => btw x 0 8)
          rw [all_btw hb, List.length_map, hl]
          simp
    obtain ⟨pb, sp, hw⟩ := sp
    refine ⟨_, _, p, _, _, _, "int", "int", ne, "bool", pb, true, rfl, .int _, .int _, te, .bl _, sp, .inr ⟨ga, _, rfl, TupV.ext S1 tg, typed_en, en_len, (endOk_ok ok.g1).symm⟩, fun H2 S2 => ?_⟩
    rw [hw]
    walk_at "rd"
    refine ⟨rfl, ?_⟩
    walk_at "rd"
    show (if false = true then _ else _)
    walk_at "rd"
    have S := Same.trans S1 S2
    refine ⟨x, C, dx, _, rfl, S _ _ hx, TC.cl, TC.n1, (by show 0 < 1000; decide), ?_⟩
    walk_at "rd"
    refine ⟨x, C, dx, _, rfl, upd_same, TC.cl, TC.n2, (by show 1 < 1000; decide), ?_⟩
    walk_at "rd"
    refine ⟨x, C, dx, _, rfl, upd_same, TC.cl, TC.n3, ltP 2 (lenP (lenP (Nat.zero_le _))) (by decide), ?_⟩
    walk_at "rd"
    have hx2 := S _ _ hx
    refine ⟨q.t, p, eV q.e, rfl, ok.t1, (by have := ok.t2; omega), fun he b H3 S3 hb => ?_, fun he hp0 b H3 S3 hb => ?_, fun he hp0 => ?_⟩
    · have eps : q.ps = [] := by
        cases e : q.e with
        | none => rw [e] at he; exact absurd rfl he
        | some i => exact (ok.e1 i e).2.2.2
      have tb : TupV K H3 b (q.ps.map V.int) := by rw [eps]; exact ⟨.tup hb, SqT.of hb⟩
      have tga : TupV K H3 ga q.g.vs := TupV.ext S3 (TupV.put upd_same (TupV.put upd_same (TupV.put hx2 (TupV.ext S tg))))
      walk_at "rd"
      refine ⟨x, C, dx, _, rfl, S3 _ _ upd_same, TC.cl, TC.n4, ltP 3 (lenP (lenP (lenP (Nat.zero_le _)))) (by decide), ?_⟩
      walk_at "rd"
      refine ⟨x, C, dx, _, rfl, upd_same, TC.cl, TC.n5, ltP 4 (lenP (lenP (lenP (lenP (Nat.zero_le _))))) (by decide), ?_⟩
      walk_at "rd"
      refine ⟨x, C, dx, _, rfl, upd_same, TC.cl, TC.n6, ltP 5 (lenP (lenP (lenP (lenP (lenP (Nat.zero_le _)))))) (by decide), ?_⟩
      walk_at "rd"
      refine ⟨x, C, dx, _, rfl, upd_same, TC.cl, TC.n7, ltP 6 (lenP (lenP (lenP (lenP (lenP (lenP (Nat.zero_le _))))))) (by decide), ?_⟩
      rw [pf_all]
      refine k _ ⟨dx, b, ga, upd_same, ?_⟩ (fun c o hc hn => ?_)
      · exact ⟨TupV.put upd_same (TupV.put upd_same (TupV.put upd_same (TupV.put (S3 _ _ upd_same) tb))), TupV.put upd_same (TupV.put upd_same (TupV.put upd_same (TupV.put (S3 _ _ upd_same) tga)))⟩
      · rw [upd_ne hn, upd_ne hn, upd_ne hn, upd_ne hn]
        refine S3 _ _ ?_
        rw [upd_ne hn, upd_ne hn, upd_ne hn]
        exact S _ _ hc
    · have eps : q.ps = List.replicate (q.t - 1).toNat 0 := by
        rcases hp with ⟨_, h⟩ | ⟨_, pa, h, _⟩
        · refine h ?_
          cases e : q.e with
          | none => rfl
          | some i => rw [e] at he; exact absurd he (by intro z; cases z)
        · rw [hp0] at h
          cases h
      have hb' : H3 b = some (.tup (q.ps.map V.int)) := by rw [hb, eps, List.map_replicate]
      have tb : TupV K H3 b (q.ps.map V.int) := ⟨.tup hb', SqT.of hb'⟩
      have tga : TupV K H3 ga q.g.vs := TupV.ext S3 (TupV.put upd_same (TupV.put upd_same (TupV.put hx2 (TupV.ext S tg))))
      walk_at "rd"
      refine ⟨x, C, dx, _, rfl, S3 _ _ upd_same, TC.cl, TC.n4, ltP 3 (lenP (lenP (lenP (Nat.zero_le _)))) (by decide), ?_⟩
      walk_at "rd"
      refine ⟨x, C, dx, _, rfl, upd_same, TC.cl, TC.n5, ltP 4 (lenP (lenP (lenP (lenP (Nat.zero_le _))))) (by decide), ?_⟩
      walk_at "rd"
      refine ⟨x, C, dx, _, rfl, upd_same, TC.cl, TC.n6, ltP 5 (lenP (lenP (lenP (lenP (lenP (Nat.zero_le _)))))) (by decide), ?_⟩
      walk_at "rd"
      refine ⟨x, C, dx, _, rfl, upd_same, TC.cl, TC.n7, ltP 6 (lenP (lenP (lenP (lenP (lenP (lenP (Nat.zero_le _))))))) (by decide), ?_⟩
      rw [pf_all]
      refine k _ ⟨dx, b, ga, upd_same, ?_⟩ (fun c o hc hn => ?_)
      · exact ⟨TupV.put upd_same (TupV.put upd_same (TupV.put upd_same (TupV.put (S3 _ _ upd_same) tb))), TupV.put upd_same (TupV.put upd_same (TupV.put upd_same (TupV.put (S3 _ _ upd_same) tga)))⟩
      · rw [upd_ne hn, upd_ne hn, upd_ne hn, upd_ne hn]
        refine S3 _ _ ?_
        rw [upd_ne hn, upd_ne hn, upd_ne hn]
        exact S _ _ hc
    · rcases hp with ⟨h, _⟩ | ⟨_, b, h, tp⟩
      · exact absurd h hp0
      · subst h
        have tb0 := (TupV.put (o := (.ins C dx (putF "_tries" (.int q.t) (putF "_limit" (.int q.l) (putF "_name" (.str q.z) []))))) upd_same (TupV.put (o := (.ins C dx (putF "_limit" (.int q.l) (putF "_name" (.str q.z) [])))) upd_same (TupV.put (o := (.ins C dx (putF "_name" (.str q.z) []))) hx2 (TupV.ext S tp))))
        obtain ⟨H3, hH3⟩ : ∃ H3, H3 = (upd (upd (upd H2 x (.ins C dx (putF "_name" (.str q.z) []))) x (.ins C dx (putF "_limit" (.int q.l) (putF "_name" (.str q.z) [])))) x (.ins C dx (putF "_tries" (.int q.t) (putF "_limit" (.int q.l) (putF "_name" (.str q.z) []))))) := ⟨_, rfl⟩
        have S3 : Same (upd (upd (upd H2 x (.ins C dx (putF "_name" (.str q.z) []))) x (.ins C dx (putF "_limit" (.int q.l) (putF "_name" (.str q.z) [])))) x (.ins C dx (putF "_tries" (.int q.t) (putF "_limit" (.int q.l) (putF "_name" (.str q.z) []))))) H3 := by rw [hH3]; exact Same.refl _
        rw [← hH3] at tb0 ⊢
        have tb := tb0
        have tga : TupV K H3 ga q.g.vs := TupV.ext S3 (TupV.put upd_same (TupV.put upd_same (TupV.put hx2 (TupV.ext S tg))))
        walk_at "rd"
        refine ⟨x, C, dx, _, rfl, S3 _ _ upd_same, TC.cl, TC.n4, ltP 3 (lenP (lenP (lenP (Nat.zero_le _)))) (by decide), ?_⟩
        walk_at "rd"
        refine ⟨x, C, dx, _, rfl, upd_same, TC.cl, TC.n5, ltP 4 (lenP (lenP (lenP (lenP (Nat.zero_le _))))) (by decide), ?_⟩
        walk_at "rd"
        refine ⟨x, C, dx, _, rfl, upd_same, TC.cl, TC.n6, ltP 5 (lenP (lenP (lenP (lenP (lenP (Nat.zero_le _)))))) (by decide), ?_⟩
        walk_at "rd"
        refine ⟨x, C, dx, _, rfl, upd_same, TC.cl, TC.n7, ltP 6 (lenP (lenP (lenP (lenP (lenP (lenP (Nat.zero_le _))))))) (by decide), ?_⟩
        rw [pf_all]
        refine k _ ⟨dx, b, ga, upd_same, ?_⟩ (fun c o hc hn => ?_)
        · exact ⟨TupV.put upd_same (TupV.put upd_same (TupV.put upd_same (TupV.put (S3 _ _ upd_same) tb))), TupV.put upd_same (TupV.put upd_same (TupV.put upd_same (TupV.put (S3 _ _ upd_same) tga)))⟩
        · rw [upd_ne hn, upd_ne hn, upd_ne hn, upd_ne hn]
          refine S3 _ _ ?_
          rw [upd_ne hn, upd_ne hn, upd_ne hn]
          exact S _ _ hc
end
end K2

namespace K2
open PySem PySem.Spec PyProof.Rows L2 Mc
section
variable {P : Program} {w : World} {K : PySem.W.Frag} {mg : Str → Option Value} {base : Heap}
local macro_rules | `(tactic| walk_at "rd1") => `(tactic| first
  | with_reducible refine g_seq ?_
  | with_reducible refine g_asg ?_
  | with_reducible refine g_name ?_
  | with_reducible refine g_c ?_
  | with_reducible refine g_op ?_
  | with_reducible refine g_ifS ?_
  | with_reducible refine g_if ?_
  | with_reducible refine g_test ?_
  | with_reducible refine g_B ?_
  | with_reducible refine g_bl ?_
  | with_reducible refine g_blV ?_
  | with_reducible refine g_not ?_
  | with_reducible refine g_and ?_
  | with_reducible refine g_or ?_
  | with_reducible refine g_notV ?_
  | with_reducible refine g_andV ?_
  | with_reducible refine g_orV ?_
  | with_reducible refine g_ret ?_
  | with_reducible refine g_drop ?_
  | with_reducible refine g_next ?_
  | with_reducible refine g_retN ?_
  | with_reducible refine g_call ?_
  | with_reducible refine g_cb ?_
  | with_reducible refine g_cons ?_
  | with_reducible refine g_nil ?_
  | with_reducible refine g_tup ?_
  | with_reducible refine g_lst ?_
  | with_reducible refine g_prop ?_
  | with_reducible refine g_fld ?_
  | with_reducible refine g_meth ?_
  | with_reducible refine g_chain ?_
  | with_reducible refine g_yes ?_
  | with_reducible refine g_make ?_
  | with_reducible refine g_makeK ?_
  | with_reducible refine g_gsub ?_
  | with_reducible refine g_sfld ?_
  | with_reducible refine g_un ?_
  | with_reducible refine g_bm ?_
  | with_reducible refine g_iteT ?_
  | with_reducible refine g_iteF ?_
  | with_reducible refine g_I0 ?_
  | with_reducible refine g_add ?_
  | with_reducible refine g_sub ?_
  | ((with_reducible refine' g_var ?hv ?_); (case hv => rfl))
  | ((with_reducible refine g_eq ?hv ?_); (case hv => rfl))
  | ((with_reducible refine g_ne ?hv ?_); (case hv => rfl)))
local macro_rules | `(tactic| walk_at "rd") => `(tactic| repeat (walk_at "rd1"))

local macro_rules | `(tactic| walk_at "ty") => `(tactic| first | exact .non | exact .bl _ | exact .int _ | exact .str _ | exact .lst (by assumption) | exact .tup (by assumption) | exact .dK (by assumption) | exact .kTup (by assumption) (by assumption))
local macro_rules | `(tactic| walk_at "isiF") => `(tactic| refine g_isi (by walk_at "ty") (b := false) (by decide +kernel) ?_)
local macro_rules | `(tactic| walk_at "isiT") => `(tactic| refine g_isi (by walk_at "ty") (b := true) (by decide +kernel) ?_)

/-! ### properties and methods -/
structure Prp (P : Program) (w : World) (K : PySem.W.Frag) (mg : Str → Option Value) (base : Heap) (k : Nat) (C : Addr) (f : Str) (sp : Sp) : Prop where
  ex : ∃ (p g : Addr) (fd : FuncData) (ps : List Str), Cls K C ∧ PropOf K C f p g ∧ FnOk P w K mg base CX0 k g fd ps sp ∧ Binds K fd ps []
theorem pe_pr {X : Cx} {k j : Nat} {C : Addr} {f : Str} {sp : Sp} {e : Expr} {ta : TE} {pos : Pos} (c : Prp X.prog X.w X.K X.mg X.base k C f sp) (hr : Room j X.A) (hk : k + 1 ≤ j) (he : PE X e ta)
    (hab : attributeBase e f X.env (eval e X.env) = eval e X.env := by rfl) : PE X (.Attribute e f pos) (tProp C sp [] E0 ta) := by
  obtain ⟨p, g, fd, ps, cl, po, G, b⟩ := c.ex
  exact pe_prop he cl po G (hr.mono hk) b .nil pass0 hab
structure Mth (P : Program) (w : World) (K : PySem.W.Frag) (mg : Str → Option Value) (base : Heap) (k : Nat) (C : Addr) (m : Str) (sp : Sp) : Prop where
  ex : ∃ (f : Addr) (fd : FuncData) (ps : List Str), Cls K C ∧ Meth K C m f ∧ FnOk P w K mg base CX0 k f fd ps sp ∧ Binds K fd ps []
theorem pe_m0 {X : Cx} {k j : Nat} {C : Addr} {m : Str} {sp : Sp} {o : Expr} {ta : TE} {pos apos : Pos} {pl : Sem Bool} (c : Mth X.prog X.w X.K X.mg X.base k C m sp) (hr : Room j X.A) (hk : k ≤ j) (he : PE X o ta)
    (ht : eval (.Call (.Attribute o m apos) [] [] pos) X.env = (do
      let u ← eval o X.env
      standAt apos.atName
      let (g, first) ← holding [u] (getMethod u m pl)
      callWith pos g first (backTo pos (starEach [] X.env)) (backToKw pos (keywordEach [] X.env))) := by rfl) : PE X (.Call (.Attribute o m apos) [] [] pos) (tMeth C m sp [] E0 ta tNil) := by
  obtain ⟨f, fd, ps, cl, me, G, b⟩ := c.ex
  exact pe_meth0 (pl := pl) he cl me G (hr.mono hk) b .nil pass0 ht
theorem lk1 {n l t p e y g : V} : (pfs n l t p e y g).lookup ("_name" : Str) = some n := rfl
theorem lk2 {n l t p e y g : V} : (pfs n l t p e y g).lookup ("_limit" : Str) = some l := rfl
theorem lk3 {n l t p e y g : V} : (pfs n l t p e y g).lookup ("_tries" : Str) = some t := rfl
theorem lk4 {n l t p e y g : V} : (pfs n l t p e y g).lookup ("_pauses" : Str) = some p := rfl
theorem lk5 {n l t p e y g : V} : (pfs n l t p e y g).lookup ("_early" : Str) = some e := rfl
theorem lk6 {n l t p e y g : V} : (pfs n l t p e y g).lookup ("_lossy" : Str) = some y := rfl
theorem lk7 {n l t p e y g : V} : (pfs n l t p e y g).lookup ("_ending" : Str) = some g := rfl
theorem lk0 {n l t p e y g : V} : (pfs n l t p e y g).lookup ("_fields" : Str) = none := rfl

theorem prp_of {C p g : Addr} {x fld qual : Str} {st : Stmt} {fd : FuncData} {p1 p2 p3 : Pos} (F : Fun K x qual st g fd) (po : PropOf K C x p g) (S : FnScope ["self"] ["self"] (defScope st))
    (hb : defBody st = [.Return (some (.Attribute (.Name "self" p1) fld p2)) p3]) (c : Cls K C) (n : NoAttr K C fld) (b : Binds K fd ["self"] []) : Prp P w K mg base 1 C x (getSp C fld) := by
  have F' := F
  obtain ⟨oc, od, kV, doc, pm, an, cdv, ct, osl, rfl, lk, hcd⟩ := F'.ex
  exact ⟨p, g, _, _, c, po, fn_getter lk hcd S rfl hb c n, b⟩

def spFields (C : Addr) : Sp := fun vs H Q _ => ∃ a dx q pa ga, vs = [.ref a] ∧ H a = some (.ins C dx (Pol.fs q pa ga)) ∧ ∀ r H', Same H H' → H' r = some (.tup (q.vs pa ga)) → Q (.ref r) H'
theorem ok_fields {C f : Addr} {fd : FuncData} (F : Fun K "_fields" "Policy._fields" s_Policy_fields f fd) (TC : CTxt K C) (me : Meth K C "_fields" f) (b : Binds K fd ["self"] []) : Mth P w K mg base 1 C "_fields" (spFields C) := by
  refine ⟨f, fd, _, TC.cl, me, F.ok sc_Policy_fields (fun vs H Q E h => ?_) (fun cdv A outer s H vs Q E hr h => ?_), b⟩
  · obtain ⟨a, dx, q, pa, ga, rfl, _⟩ := h
    rfl
  · obtain ⟨a, dx, q, pa, ga, rfl, ha, k⟩ := h
    refine ⟨_, (pss_one (ps_ret (pe_tup (pa_cons (pe_fld (pv 0) rfl) (pa_cons (pe_fld (pv 0) rfl) (pa_cons (pe_fld (pv 0) rfl) (pa_cons (pe_fld (pv 0) rfl) (pa_cons (pe_fld (pv 0) rfl) (pa_cons (pe_fld (pv 0) rfl) (pa_cons (pe_fld (pv 0) rfl) pa_nil)))))))))), ?_⟩
    walk_at "rd"
    refine ⟨a, C, dx, _, _, rfl, ha, TC.cl, TC.n1, lk1, ?_⟩
    walk_at "rd"
    refine ⟨a, C, dx, _, _, rfl, ha, TC.cl, TC.n2, lk2, ?_⟩
    walk_at "rd"
    refine ⟨a, C, dx, _, _, rfl, ha, TC.cl, TC.n3, lk3, ?_⟩
    walk_at "rd"
    refine ⟨a, C, dx, _, _, rfl, ha, TC.cl, TC.n4, lk4, ?_⟩
    walk_at "rd"
    refine ⟨a, C, dx, _, _, rfl, ha, TC.cl, TC.n5, lk5, ?_⟩
    walk_at "rd"
    refine ⟨a, C, dx, _, _, rfl, ha, TC.cl, TC.n6, lk6, ?_⟩
    walk_at "rd"
    refine ⟨a, C, dx, _, _, rfl, ha, TC.cl, TC.n7, lk7, ?_⟩
    walk_at "rd"
    refine ⟨(by show 7 ≤ sizeLine; decide), fun r hr' => ?_⟩
    exact k r _ (same_new hr') upd_same

structure ICls (K : PySem.W.Frag) (C : Addr) : Prop where
  ha : PySem.W.findIn K (.ref C) "__class__" = some (some (.builtin "object.__class__"))
  hn : PySem.W.specialIn K (.builtin "object.__class__") "__get__" = some (some (.builtin "getset_descriptor.__get__"))
  tk : PySem.W.takesIn K (.builtin "object.__class__") = some true
  hm : PySem.W.mroIn K C (.type "object") = some true
  me : PySem.W.kitOne K (.ref C) (.ref C) = some true
  no : ∀ n ∈ ["NoneType", "bool", "int", "str", "list", "tuple", "dict"], PySem.W.kitOne K (.type n) (.ref C) = some false
/-- == of a policy: with a policy by the fields, with another value False -/
def spEq (K : PySem.W.Frag) (C : Addr) : Sp := fun vs H Q _ => ∃ a y q, vs = [.ref a, y] ∧ PolAt K C H a q ∧
  ((∃ n, TyB K H y n ∧ Q (.bl false) H) ∨ (∃ b q', y = .ref b ∧ PolAt K C H b q' ∧ SeqAt.shaped (.tuple q.ds) = true ∧ SeqAt.shaped (.tuple q'.ds) = true ∧ ∀ H', Same H H' → Q (.bl (PyData.eqv (.tuple q.ds) (.tuple q'.ds))) H'))
theorem ok_eq {C f : Addr} {fd : FuncData} (F : Fun K "__eq__" "Policy.__eq__" s_Policyeq f fd) (T : Txt K mg) (TC : CTxt K C) (IC : ICls K C) (gP : mg "Policy" = some (.ref C)) (m_fields : Mth P w K mg base 1 C "_fields" (spFields C)) :
    FnOk P w K mg base CX0 2 f fd ["self", "other"] (spEq K C) := by
  refine F.ok sc_Policyeq (fun vs H Q E h => ?_) (fun cdv A outer s H vs Q E hr h => ?_)
  · obtain ⟨a, y, q, rfl, _⟩ := h
    rfl
  · obtain ⟨a, y, q, rfl, pa, h⟩ := h
    refine ⟨_, (pss_one (ps_ret (pe_and (pe_callB call_isi (by rfl) T.n_isinstance (by decide +kernel) (pa_cons (pv 1) (pa_cons (pe_gx (v := .ref C) rfl ⟨_, gP, rfl⟩) pa_nil))) (pe_one (pe_cmpR (op_eqD (hr.units)) (pe_m0 m_fields hr (by decide) (pv 0)) (pe_m0 m_fields hr (by decide) (pv 1)) (nomark _)))))), ?_⟩
    walk_at "rd"
    rcases h with ⟨n, ty, k⟩ | ⟨b, q', rfl, pb, s1, s2, k⟩
    · refine ⟨y, .ref C, .type n, .ref C, false, rfl, .own C, ty.x, IC.no n ty.mem, ?_⟩
      walk_at "rd"
      exact k
    · obtain ⟨dx, a1, a2, h1, u1⟩ := pa
      obtain ⟨dy, b1, b2, h2, u2⟩ := pb
      refine ⟨.ref b, .ref C, .ref C, .ref C, true, rfl, .own C, .base (.ins h2 TC.cl IC.ha IC.hn IC.tk IC.hm), IC.me, ?_⟩
      walk_at "rd"
      refine ⟨a, dx, _, rfl, h1, lk0, ?_⟩
      walk_at "rd"
      refine ⟨a, dx, q, a1, a2, rfl, h1, fun r H1 S1 hr1 => ?_⟩
      walk_at "rd"
      refine ⟨b, dy, _, rfl, S1 _ _ h2, lk0, ?_⟩
      walk_at "rd"
      refine ⟨b, dy, q', b1, b2, rfl, S1 _ _ h2, fun r' H2 S2 hr2 => ?_⟩
      walk_at "rd"
      refine ⟨_, _, .tup (SqT.of (S2 _ _ hr1)) (dp_pol (u1.ext (Same.trans S1 S2))), .tup (SqT.of hr2) (dp_pol (u2.ext (Same.trans S1 S2))), s1, s2, ?_⟩
      exact k _ (Same.trans S1 S2)
end
end K2

namespace K2
open PySem PySem.Spec PyProof.Rows L2 Mc
section
variable {P : Program} {w : World} {K : PySem.W.Frag} {mg : Str → Option Value} {base : Heap}
local macro_rules | `(tactic| walk_at "rd1") => `(tactic| first
  | with_reducible refine g_seq ?_
  | with_reducible refine g_asg ?_
  | with_reducible refine g_name ?_
  | with_reducible refine g_c ?_
  | with_reducible refine g_op ?_
  | with_reducible refine g_ifS ?_
  | with_reducible refine g_if ?_
  | with_reducible refine g_test ?_
  | with_reducible refine g_B ?_
  | with_reducible refine g_bl ?_
  | with_reducible refine g_blV ?_
  | with_reducible refine g_not ?_
  | with_reducible refine g_and ?_
  | with_reducible refine g_or ?_
  | with_reducible refine g_notV ?_
  | with_reducible refine g_andV ?_
  | with_reducible refine g_orV ?_
  | with_reducible refine g_ret ?_
  | with_reducible refine g_drop ?_
  | with_reducible refine g_next ?_
  | with_reducible refine g_retN ?_
  | with_reducible refine g_call ?_
  | with_reducible refine g_cb ?_
  | with_reducible refine g_cons ?_
  | with_reducible refine g_nil ?_
  | with_reducible refine g_tup ?_
  | with_reducible refine g_lst ?_
  | with_reducible refine g_prop ?_
  | with_reducible refine g_fld ?_
  | with_reducible refine g_meth ?_
  | with_reducible refine g_chain ?_
  | with_reducible refine g_yes ?_
  | with_reducible refine g_make ?_
  | with_reducible refine g_makeK ?_
  | with_reducible refine g_gsub ?_
  | with_reducible refine g_sfld ?_
  | with_reducible refine g_un ?_
  | with_reducible refine g_bm ?_
  | with_reducible refine g_iteT ?_
  | with_reducible refine g_iteF ?_
  | with_reducible refine g_I0 ?_
  | with_reducible refine g_add ?_
  | with_reducible refine g_sub ?_
  | ((with_reducible refine' g_var ?hv ?_); (case hv => rfl))
  | ((with_reducible refine g_eq ?hv ?_); (case hv => rfl))
  | ((with_reducible refine g_ne ?hv ?_); (case hv => rfl)))
local macro_rules | `(tactic| walk_at "rd") => `(tactic| repeat (walk_at "rd1"))

local macro_rules | `(tactic| walk_at "ty") => `(tactic| first | exact .non | exact .bl _ | exact .int _ | exact .str _ | exact .lst (by assumption) | exact .tup (by assumption) | exact .dK (by assumption) | exact .kTup (by assumption) (by assumption))
local macro_rules | `(tactic| walk_at "isiF") => `(tactic| refine g_isi (by walk_at "ty") (b := false) (by decide +kernel) ?_)
local macro_rules | `(tactic| walk_at "isiT") => `(tactic| refine g_isi (by walk_at "ty") (b := true) (by decide +kernel) ?_)

/-- all but the pool is as it was -/
def Sx (p : Addr) (H H' : Hp) : Prop := ∀ b o, b ≠ p → H b = some o → H' b = some o
theorem Sx.refl {p : Addr} (H : Hp) : Sx p H H := fun _ _ _ h => h
theorem Sx.trans {p : Addr} {H H1 H2 : Hp} (a : Sx p H H1) (b : Sx p H1 H2) : Sx p H H2 := fun c o hc h => b c o hc (a c o hc h)
theorem Same.sx {p : Addr} {H H' : Hp} (h : Same H H') : Sx p H H' := fun c o _ e => h c o e
def PoolAt (H : Hp) (p : Addr) : Prop := ∃ c z : Int, H p = some (.lst [.int c, .int z]) ∧ 0 ≤ c ∧ 0 ≤ z ∧ z < 2147483647
theorem PoolAt.ext {p : Addr} {H H' : Hp} (h : PoolAt H p) (e : Same H H') : PoolAt H' p := by
  obtain ⟨c, z, h1, h2⟩ := h
  exact ⟨c, z, e _ _ h1, h2⟩
theorem PoolAt.not {p a : Addr} {H : Hp} {o : HO} (h : PoolAt H p) (e : H a = some o) (n : ∀ xs, o ≠ .lst xs) : a ≠ p := by
  obtain ⟨c, z, h1, _⟩ := h
  intro q
  rw [q, h1] at e
  exact n _ (Option.some.inj e).symm
theorem TyB.sx {p : Addr} {H H' : Hp} {v : V} (pl : PoolAt H p) (e : Sx p H H') (h : TyB K H v "tuple") : TyB K H' v "tuple" := by
  generalize hn : "tuple" = n at h ⊢
  cases h with
  | tup z => exact .tup (e _ _ (pl.not z (by intro _ k; cases k)) z)
  | kTup z c => exact .kTup z c
  | lst z => exact absurd hn (by decide)
  | dK z => exact absurd hn (by decide)
  | non => exact absurd hn (by decide)
  | bl z => exact absurd hn (by decide)
  | int z => exact absurd hn (by decide)
  | str z => exact absurd hn (by decide)
theorem sqT_sx {p a : Addr} {H H' : Hp} {xs : List V} (pl : PoolAt H p) (e : Sx p H H') (h : SqT K H a xs) : SqT K H' a xs := by
  rcases h with (h | ⟨o, h⟩) | h
  · exact .inl (.inl (e _ _ (pl.not h (by intro _ k; cases k)) h))
  · exact .inl (.inr ⟨o, e _ _ (pl.not h (by intro _ k; cases k)) h⟩)
  · exact .inr h
theorem TupV.sx {p a : Addr} {H H' : Hp} {xs : List V} (pl : PoolAt H p) (e : Sx p H H') (h : TupV K H a xs) : TupV K H' a xs := ⟨TyB.sx pl e h.ty, sqT_sx pl e h.sq⟩
theorem PolAt.sx {p a C : Addr} {H H' : Hp} {q : Pol} (pl : PoolAt H p) (e : Sx p H H') (h : PolAt K C H a q) : PolAt K C H' a q := by
  obtain ⟨dx, pa, ga, h1, h2⟩ := h
  exact ⟨dx, pa, ga, e _ _ (pl.not h1 (by intro _ k; cases k)) h1, TupV.sx pl e h2.p, TupV.sx pl e h2.g⟩
theorem Sx.free {p a : Addr} {H H' : Hp} (pl' : PoolAt H' p) (e : Sx p H H') (h : H' a = none) : H a = none := by
  cases q : H a with
  | none => rfl
  | some o =>
    by_cases ha : a = p
    · obtain ⟨c, z, h1, _⟩ := pl'
      rw [ha, h1] at h
      cases h
    · rw [e a o ha q] at h
      cases h

def spPool (K : PySem.W.Frag) : Sp := fun vs H Q _ => ∃ (a : Addr) (k : Int) (ns : List Int), vs = [.ref a, .int k] ∧ SqL K H a (ns.map V.int) ∧ 0 ≤ k ∧ k ≤ 100 ∧ ∀ p H', H p = none → Same H H' → PoolAt H' p → Q (.ref p) H'
theorem ok_pool (T : Txt K mg) (D : Def K mg "_law_pool" s_law_pool ["_law_script", "_law_k"]) : Cal P w K mg base 1 "_law_pool" (spPool K) := by
  refine cal_of D sc_law_pool (fun vs H Q E h => ?_) (fun f cdv A outer s H vs Q E hr h => ?_)
  · obtain ⟨a, k, ns, rfl, _⟩ := h
    rfl
  · obtain ⟨a, k, ns, rfl, sq, k0, k1, q⟩ := h
    have hk1 : 7919 * k ≤ 791900 := by omega
    have hk2 : (7919 * k) * k ≤ 791900 * 100 := Int.mul_le_mul hk1 k1 k0 (by decide)
    have hk3 : 0 ≤ (7919 * k) * k := Int.mul_nonneg (by omega) k0
    refine ⟨_, (pss_cons (ps_set (i := 2) sc_law_pool.nd rfl (Or.inl rfl) pe_int)
      (pss_cons (ps_if (pt_cmpR op_lt (pv 1) (pe_callB call_len_seq (by rfl) T.n_len (by decide +kernel) (pa_cons (pv 0) pa_nil)) (nomark _)) (pss_one (ps_set (i := 2) sc_law_pool.nd rfl (Or.inl rfl) (pe_ix ix_list (pv 0) (pv 1) (fun _ _ => rfl)))) pss_nil)
      (pss_cons (ps_set (i := 3) sc_law_pool.nd rfl (Or.inl rfl) (pe_op op_mod (pe_op op_pow (pe_op op_add (pe_op op_add (pe_op op_mod (pe_callTy call_int1 (by rfl) T.n_int (by decide +kernel) (pa_cons (pv 2) pa_nil)) pe_int) (pe_op op_mul (pe_op op_mul pe_int (pv 1)) (pv 1))) pe_int) pe_int) pe_int))
      (pss_cons (ps_if (pt_cmpR op_lt (pv 2) (pe_op op_pow pe_int pe_int) (nomark _)) (pss_one (ps_set (i := 2) sc_law_pool.nd rfl (Or.inl rfl) pe_int)) pss_nil)
      (pss_one (ps_ret (pe_lst (pa_cons (pv 2) (pa_cons (pv 3) pa_nil))))))))), ?_⟩
    walk_at "rd"
    refine ⟨a, _, rfl, .inl sq, ?_⟩
    walk_at "rd"
    refine g_ite (fun e => ?_) (fun e => ?_)
    · have hk : k < ((ns.map V.int).length : Int) := of_decide_eq_true e
      have hk' : k.toNat < ns.length := by rw [List.length_map] at hk; omega
      walk_at "rd"
      refine g_ixL sq (v := .int ns[k.toNat]) (at_of (j := k.toNat) (by omega) (by rw [List.getElem?_map, List.getElem?_eq_getElem hk']; rfl)) ?_
      generalize ns[k.toNat] = c
      walk_at "rd"
      refine .inl ⟨_, rfl, ?_⟩
      walk_at "rd"
      refine g_I (show (0 : Int) < 2147483629 by decide) ?_
      walk_at "rd"
      refine g_I (.inl ⟨by decide, by decide⟩) ?_
      walk_at "rd"
      refine g_I (.inl ⟨by omega, by omega⟩) ?_
      walk_at "rd"
      refine g_I ⟨by decide, by decide, by omega⟩ ?_
      walk_at "rd"
      refine g_I (show (0 : Int) < 2147483647 by decide) ?_
      walk_at "rd"
      refine g_I ⟨by decide, by decide, by decide⟩ ?_
      walk_at "rd"
      refine g_ite (fun e2 => ?_) (fun e2 => ?_)
      · walk_at "rd"
        refine ⟨(by show 2 ≤ sizeLine; decide), fun p hp => ?_⟩
        refine q p _ hp (same_new hp) ⟨0, _, upd_same, by decide, Int.emod_nonneg _ (by decide), Int.emod_lt_of_pos _ (by decide)⟩
      · walk_at "rd"
        refine ⟨(by show 2 ≤ sizeLine; decide), fun p hp => ?_⟩
        have e3 := of_decide_eq_false e2
        refine q p _ hp (same_new hp) ⟨_, _, upd_same, ?_, Int.emod_nonneg _ (by decide), Int.emod_lt_of_pos _ (by decide)⟩
        exact Int.le_trans (by decide) (Int.not_lt.mp e3)
    · walk_at "rd"
      walk_at "rd"
      refine .inl ⟨_, rfl, ?_⟩
      walk_at "rd"
      refine g_I (show (0 : Int) < 2147483629 by decide) ?_
      walk_at "rd"
      refine g_I (.inl ⟨by decide, by decide⟩) ?_
      walk_at "rd"
      refine g_I (.inl ⟨by omega, by omega⟩) ?_
      walk_at "rd"
      refine g_I ⟨by decide, by decide, by omega⟩ ?_
      walk_at "rd"
      refine g_I (show (0 : Int) < 2147483647 by decide) ?_
      walk_at "rd"
      refine g_I ⟨by decide, by decide, by decide⟩ ?_
      walk_at "rd"
      refine g_ite (fun e2 => ?_) (fun e2 => ?_)
      · walk_at "rd"
        refine ⟨(by show 2 ≤ sizeLine; decide), fun p hp => ?_⟩
        refine q p _ hp (same_new hp) ⟨0, _, upd_same, by decide, Int.emod_nonneg _ (by decide), Int.emod_lt_of_pos _ (by decide)⟩
      · walk_at "rd"
        refine ⟨(by show 2 ≤ sizeLine; decide), fun p hp => ?_⟩
        have e3 := of_decide_eq_false e2
        refine q p _ hp (same_new hp) ⟨_, _, upd_same, ?_, Int.emod_nonneg _ (by decide), Int.emod_lt_of_pos _ (by decide)⟩
        exact Int.le_trans (by decide) (Int.not_lt.mp e3)

def spDraw : Sp := fun vs H Q _ => ∃ (p : Addr) (m : Int), vs = [.ref p, .int m] ∧ PoolAt H p ∧ 1 ≤ m ∧ m ≤ 1000000 ∧ ∀ (r : Int) H', 0 ≤ r → r < m → PoolAt H' p → Sx p H H' → Q (.int r) H'
theorem sx_upd {p : Addr} {H : Hp} {o : HO} : Sx p H (upd H p o) := fun b u hb e => by rw [upd_ne hb]; exact e
theorem ok_draw (T : Txt K mg) (D : Def K mg "_law_draw" s_law_draw ["_law_pool_here", "_law_many"]) : Cal P w K mg base 1 "_law_draw" spDraw := by
  refine cal_of D sc_law_draw (fun vs H Q E h => ?_) (fun f cdv A outer s H vs Q E hr h => ?_)
  · obtain ⟨p, m, rfl, _⟩ := h
    rfl
  · obtain ⟨p, m, rfl, ⟨c, z, hp, hc, hz, hz2⟩, m0, m1, q⟩ := h
    refine ⟨_, (pss_cons (ps_if (pt_cmpR op_gt (pe_ix ix_list (pv 0) pe_int (fun _ _ => rfl)) pe_int (nomark _)) (pss_cons (ps_set (i := 2) sc_law_draw.nd rfl (Or.inl rfl) (pe_op op_mod (pe_callTy call_int1 (by rfl) T.n_int (by decide +kernel) (pa_cons (pe_ix ix_list (pv 0) pe_int (fun _ _ => rfl)) pa_nil)) (pv 1)))
      (pss_cons (ps_asg (pe_op op_fdiv (pe_ix ix_list (pv 0) pe_int (fun _ _ => rfl)) (pv 1)) (pg_sub (pv 0) pe_int set_list))
      (pss_one (ps_ret (pv 2))))) pss_nil)
      (pss_cons (ps_asg (pe_op op_mod (pe_callTy call_int1 (by rfl) T.n_int (by decide +kernel) (pa_cons (pe_op op_add (pe_op op_mul (pe_ix ix_list (pv 0) pe_int (fun _ _ => rfl)) pe_int) pe_int) pa_nil)) pe_int) (pg_sub (pv 0) pe_int set_list))
      (pss_one (ps_ret (pe_op op_mod (pe_op op_fdiv (pe_op op_mod (pe_callTy call_int1 (by rfl) T.n_int (by decide +kernel) (pa_cons (pe_op op_mul (pe_ix ix_list (pv 0) pe_int (fun _ _ => rfl)) (pe_ix ix_list (pv 0) pe_int (fun _ _ => rfl))) pa_nil)) pe_int) pe_int) (pv 1)))))), ?_⟩
    walk_at "rd"
    refine g_ixL (SqL.of hp) (v := .int c) (atI_nat (j := 0) rfl) ?_
    walk_at "rd"
    refine g_ite (fun e => ?_) (fun e => ?_)
    · have cp : 0 < c := of_decide_eq_true e
      walk_at "rd"
      refine g_ixL (SqL.of hp) (v := .int c) (atI_nat (j := 0) rfl) ?_
      walk_at "rd"
      refine .inl ⟨_, rfl, ?_⟩
      walk_at "rd"
      refine g_I (show (0 : Int) < m by omega) ?_
      walk_at "rd"
      refine g_ixL (SqL.of hp) (v := .int c) (atI_nat (j := 0) rfl) ?_
      walk_at "rd"
      refine g_I (⟨by omega, by omega⟩ : CDiv _ _) ?_
      walk_at "rd"
      refine ⟨p, _, 0, 0, rfl, rfl, hp, rfl, ?_⟩
      walk_at "rd"
      refine q (c % m) _ (Int.emod_nonneg _ (by omega)) (Int.emod_lt_of_pos _ (by omega)) ⟨c / m, z, upd_same, Int.ediv_nonneg hc (by omega), hz, hz2⟩ sx_upd
    · walk_at "rd"
      refine g_ixL (SqL.of hp) (v := .int z) (atI_nat (j := 1) rfl) ?_
      walk_at "rd"
      refine g_I (.inl ⟨by omega, by omega⟩) ?_
      walk_at "rd"
      refine .inl ⟨_, rfl, ?_⟩
      walk_at "rd"
      refine g_I (show (0 : Int) < 2147483647 by decide) ?_
      walk_at "rd"
      refine ⟨p, _, 1, 1, rfl, rfl, hp, rfl, ?_⟩
      have y0 : 0 ≤ (z * 48271 + 11) % 2147483647 := Int.emod_nonneg _ (by decide)
      have y1 : (z * 48271 + 11) % 2147483647 < 2147483647 := Int.emod_lt_of_pos _ (by decide)
      generalize (z * 48271 + 11) % 2147483647 = y at y0 y1 ⊢
      walk_at "rd"
      refine g_ixL (SqL.of upd_same) (v := .int y) (atI_nat (j := 1) rfl) ?_
      walk_at "rd"
      refine g_ixL (SqL.of upd_same) (v := .int y) (atI_nat (j := 1) rfl) ?_
      walk_at "rd"
      refine g_I (.inl ⟨by omega, by omega⟩) ?_
      walk_at "rd"
      refine .inl ⟨_, rfl, ?_⟩
      walk_at "rd"
      refine g_I (show (0 : Int) < 2147483629 by decide) ?_
      walk_at "rd"
      refine g_I (⟨by decide, by decide⟩ : CDiv _ _) ?_
      walk_at "rd"
      refine g_I (show (0 : Int) < m by omega) ?_
      walk_at "rd"
      exact q _ _ (Int.emod_nonneg _ (by omega)) (Int.emod_lt_of_pos _ (by omega)) ⟨c, y, upd_same, hc, y0, y1⟩ sx_upd

def spChoose : Sp := fun vs H Q _ => ∃ (p l : Addr) (xs : List V), vs = [.ref p, .ref l] ∧ PoolAt H p ∧ l ≠ p ∧ H l = some (.lst xs) ∧ 0 < xs.length ∧ xs.length ≤ 1000 ∧ ∀ x H', x ∈ xs → PoolAt H' p → Sx p H H' → Q x H'
theorem ok_choose (T : Txt K mg) (D : Def K mg "_law_choose" s_law_choose ["_law_pool_here", "_law_items"]) (c_law_draw : Cal P w K mg base 1 "_law_draw" spDraw) : Cal P w K mg base 2 "_law_choose" spChoose := by
  refine cal_of D sc_law_choose (fun vs H Q E h => ?_) (fun f cdv A outer s H vs Q E hr h => ?_)
  · obtain ⟨p, l, xs, rfl, _⟩ := h
    rfl
  · obtain ⟨p, l, xs, rfl, pl, hn, hl, h0, h1, q⟩ := h
    refine ⟨_, (pss_one (ps_ret (pe_ix ix_list (pv 1) (pe_f c_law_draw hr (by decide) (by rfl) (pa_cons (pv 0) (pa_cons (pe_callB call_len_seq (by rfl) T.n_len (by decide +kernel) (pa_cons (pv 1) pa_nil)) pa_nil))) (fun _ _ => rfl)))), ?_⟩
    walk_at "rd"
    refine ⟨l, xs, rfl, .inl (SqL.of hl), ?_⟩
    walk_at "rd"
    refine ⟨p, _, rfl, pl, by omega, by omega, fun r H1 r0 r1 pl1 sx => ?_⟩
    have hr' : r.toNat < xs.length := by omega
    walk_at "rd"
    refine g_ixL (SqL.of (sx _ _ hn hl)) (v := xs[r.toNat]) (at_of (j := r.toNat) (by omega) (List.getElem?_eq_getElem hr')) ?_
    exact q _ _ (List.getElem_mem hr') pl1 sx
end
end K2

namespace K2
open PySem PySem.Spec PyProof.Rows L2 Mc
section
variable {P : Program} {w : World} {K : PySem.W.Frag} {mg : Str → Option Value} {base : Heap}
local macro_rules | `(tactic| walk_at "rd1") => `(tactic| first
  | with_reducible refine g_seq ?_
  | with_reducible refine g_asg ?_
  | with_reducible refine g_name ?_
  | with_reducible refine g_c ?_
  | with_reducible refine g_op ?_
  | with_reducible refine g_ifS ?_
  | with_reducible refine g_if ?_
  | with_reducible refine g_test ?_
  | with_reducible refine g_B ?_
  | with_reducible refine g_bl ?_
  | with_reducible refine g_blV ?_
  | with_reducible refine g_not ?_
  | with_reducible refine g_and ?_
  | with_reducible refine g_or ?_
  | with_reducible refine g_notV ?_
  | with_reducible refine g_andV ?_
  | with_reducible refine g_orV ?_
  | with_reducible refine g_ret ?_
  | with_reducible refine g_drop ?_
  | with_reducible refine g_next ?_
  | with_reducible refine g_retN ?_
  | with_reducible refine g_call ?_
  | with_reducible refine g_cb ?_
  | with_reducible refine g_cons ?_
  | with_reducible refine g_nil ?_
  | with_reducible refine g_tup ?_
  | with_reducible refine g_lst ?_
  | with_reducible refine g_prop ?_
  | with_reducible refine g_fld ?_
  | with_reducible refine g_meth ?_
  | with_reducible refine g_chain ?_
  | with_reducible refine g_yes ?_
  | with_reducible refine g_make ?_
  | with_reducible refine g_makeK ?_
  | with_reducible refine g_gsub ?_
  | with_reducible refine g_sfld ?_
  | with_reducible refine g_un ?_
  | with_reducible refine g_bm ?_
  | with_reducible refine g_iteT ?_
  | with_reducible refine g_iteF ?_
  | with_reducible refine g_I0 ?_
  | with_reducible refine g_add ?_
  | with_reducible refine g_sub ?_
  | ((with_reducible refine' g_var ?hv ?_); (case hv => rfl))
  | ((with_reducible refine g_eq ?hv ?_); (case hv => rfl))
  | ((with_reducible refine g_ne ?hv ?_); (case hv => rfl)))
local macro_rules | `(tactic| walk_at "rd") => `(tactic| repeat (walk_at "rd1"))

local macro_rules | `(tactic| walk_at "ty") => `(tactic| first | exact .non | exact .bl _ | exact .int _ | exact .str _ | exact .lst (by assumption) | exact .tup (by assumption) | exact .dK (by assumption) | exact .kTup (by assumption) (by assumption))
local macro_rules | `(tactic| walk_at "isiF") => `(tactic| refine g_isi (by walk_at "ty") (b := false) (by decide +kernel) ?_)
local macro_rules | `(tactic| walk_at "isiT") => `(tactic| refine g_isi (by walk_at "ty") (b := true) (by decide +kernel) ?_)

theorem ne_lst {H : Hp} {p a : Addr} {ys : List V} {o : HO} (h : H p = some (.lst ys)) (e : H a = some o) (n : ∀ xs, o ≠ .lst xs) : a ≠ p := by
  intro q
  rw [q, h] at e
  exact n _ (Option.some.inj e).symm
theorem TupV.sl {H H' : Hp} {p a : Addr} {ys xs : List V} (hl : H p = some (.lst ys)) (e : Sx p H H') (h : TupV K H a xs) : TupV K H' a xs := by
  obtain ⟨ty, sq⟩ := h
  constructor
  · generalize hn : "tuple" = n at ty ⊢
    cases ty with
    | tup z => exact .tup (e _ _ (ne_lst hl z (by intro _ k; cases k)) z)
    | kTup z c => exact .kTup z c
    | lst z => exact absurd hn (by decide)
    | dK z => exact absurd hn (by decide)
  · rcases sq with (h | ⟨o, h⟩) | h
    · exact .inl (.inl (e _ _ (ne_lst hl h (by intro _ k; cases k)) h))
    · exact .inl (.inr ⟨o, e _ _ (ne_lst hl h (by intro _ k; cases k)) h⟩)
    · exact .inr h
theorem app_go {H : Hp} {r : Addr} {xs : List V} {y : V} {Q : VK} (h : H r = some (.lst xs)) (hl : xs.length < 100) (k : ∀ H', H' r = some (.lst (xs ++ [y])) → Sx r H H' → Q .non H') : rAppend (.ref r) [y] H Q :=
  ⟨r, xs, y, rfl, rfl, h, small1000 (by omega), k _ upd_same sx_upd⟩
theorem tup_go {H : Hp} {xs : List V} {Q : VK} (hl : xs.length ≤ 1000) (k : ∀ a H', H a = none → Same H H' → H' a = some (.tup xs) → Q (.ref a) H') : TupG Q xs H :=
  ⟨sz_le hl, fun p hp => k p _ hp (same_new hp) upd_same⟩
theorem lst_go {H : Hp} {xs : List V} {Q : VK} (hl : xs.length ≤ 1000) (k : ∀ a H', H a = none → Same H H' → H' a = some (.lst xs) → Q (.ref a) H') : LstG Q xs H :=
  ⟨sz_le hl, fun p hp => k p _ hp (same_new hp) upd_same⟩

def spFO (C : Addr) : Sp := fun vs H Q _ => ∃ a dx q pa ga, vs = [.ref a] ∧ H a = some (.ins C dx (Pol.fs q pa ga)) ∧ ∀ r H', H r = none → Same H H' → H' r = some (.lst (q.vs pa ga)) → Q (.ref r) H'
theorem ok_fields_of {C : Addr} (D : Def K mg "_law_fields_of" s_law_fields_of ["_law_one"]) (pr_name : Prp P w K mg base 1 C "name" (getSp C "_name")) (pr_limit : Prp P w K mg base 1 C "limit" (getSp C "_limit")) (pr_tries : Prp P w K mg base 1 C "tries" (getSp C "_tries"))
    (pr_pauses : Prp P w K mg base 1 C "pauses" (getSp C "_pauses")) (pr_early : Prp P w K mg base 1 C "early" (getSp C "_early")) (pr_lossy : Prp P w K mg base 1 C "lossy" (getSp C "_lossy")) (pr_ending : Prp P w K mg base 1 C "ending" (getSp C "_ending")) :
    Cal P w K mg base 3 "_law_fields_of" (spFO C) := by
  refine cal_of D sc_law_fields_of (fun vs H Q E h => ?_) (fun f cdv A outer s H vs Q E hr h => ?_)
  · obtain ⟨a, dx, q, pa, ga, rfl, _⟩ := h
    rfl
  · obtain ⟨a, dx, q, pa, ga, rfl, ha, k⟩ := h
    refine ⟨_, (pss_one (ps_ret (pe_lst (pa_cons (pe_pr pr_name hr (by decide) (pv 0)) (pa_cons (pe_pr pr_limit hr (by decide) (pv 0)) (pa_cons (pe_pr pr_tries hr (by decide) (pv 0)) (pa_cons (pe_pr pr_pauses hr (by decide) (pv 0)) (pa_cons (pe_pr pr_early hr (by decide) (pv 0)) (pa_cons (pe_pr pr_lossy hr (by decide) (pv 0)) (pa_cons (pe_pr pr_ending hr (by decide) (pv 0)) pa_nil)))))))))), ?_⟩
    walk_at "rd"
    refine ⟨a, dx, _, rfl, ha, a, dx, _, _, rfl, ha, lk1, ?_⟩
    walk_at "rd"
    refine ⟨a, dx, _, rfl, ha, a, dx, _, _, rfl, ha, lk2, ?_⟩
    walk_at "rd"
    refine ⟨a, dx, _, rfl, ha, a, dx, _, _, rfl, ha, lk3, ?_⟩
    walk_at "rd"
    refine ⟨a, dx, _, rfl, ha, a, dx, _, _, rfl, ha, lk4, ?_⟩
    walk_at "rd"
    refine ⟨a, dx, _, rfl, ha, a, dx, _, _, rfl, ha, lk5, ?_⟩
    walk_at "rd"
    refine ⟨a, dx, _, rfl, ha, a, dx, _, _, rfl, ha, lk6, ?_⟩
    walk_at "rd"
    refine ⟨a, dx, _, rfl, ha, a, dx, _, _, rfl, ha, lk7, ?_⟩
    walk_at "rd"
    refine lst_go ?hl fun r H1 h0 S h1 => ?_
    case hl => exact Nat.le_of_ble_eq_true rfl
    exact k r H1 h0 S h1

/-- while a row is drawn -/
structure DS (H0 H : Hp) (p r : Addr) (xs : List V) : Prop where
  pl : PoolAt H p
  rp : r ≠ p
  r0 : H0 r = none
  row : H r = some (.lst xs)
  bx : Sx p H0 H
theorem DS.same {H0 H H' : Hp} {p r : Addr} {xs : List V} (d : DS H0 H p r xs) (e : Same H H') : DS H0 H' p r xs := ⟨d.pl.ext e, d.rp, d.r0, e _ _ d.row, d.bx.trans (Same.sx e)⟩
theorem DS.draw {H0 H H' : Hp} {p r : Addr} {xs : List V} (d : DS H0 H p r xs) (pl : PoolAt H' p) (e : Sx p H H') : DS H0 H' p r xs := ⟨pl, d.rp, d.r0, e _ _ d.rp d.row, d.bx.trans e⟩
theorem DS.other {H0 H H' : Hp} {p r D : Addr} {xs : List V} (d : DS H0 H p r xs) (e : Sx D H H') (hp : D ≠ p) (hr : D ≠ r) (h0 : H0 D = none) : DS H0 H' p r xs := by
  obtain ⟨c, z, h1, h2⟩ := d.pl
  refine ⟨⟨c, z, e _ _ hp.symm h1, h2⟩, d.rp, d.r0, e _ _ hr.symm d.row, fun b o hb h => e _ _ ?_ (d.bx b o hb h)⟩
  intro q
  rw [q, h0] at h
  cases h
theorem DS.app {H0 H H' : Hp} {p r : Addr} {xs ys : List V} (d : DS H0 H p r xs) (row : H' r = some (.lst ys)) (e : Sx r H H') : DS H0 H' p r ys := by
  obtain ⟨c, z, h1, h2⟩ := d.pl
  refine ⟨⟨c, z, e _ _ d.rp.symm h1, h2⟩, d.rp, d.r0, row, fun b o hb h => e _ _ ?_ (d.bx b o hb h)⟩
  intro q
  rw [q, d.r0] at h
  cases h

def spDrawn (K : PySem.W.Frag) : Sp := fun vs H Q _ => ∃ p, vs = [.ref p] ∧ PoolAt H p ∧ ∀ r q pa ga H', Pol.ok q → DS H H' p r (q.vs pa ga) → Tups K H' q pa ga → Q (.ref r) H'
theorem ok_drawn (T : Txt K mg) (D : Def K mg "_law_drawn" s_law_drawn ["_law_pool_here"]) (c_law_draw : Cal P w K mg base 1 "_law_draw" spDraw) (c_law_choose : Cal P w K mg base 2 "_law_choose" spChoose) : Cal P w K mg base 3 "_law_drawn" (spDrawn K) := by
  refine cal_of D sc_law_drawn (fun vs H Q E h => ?_) (fun f cdv A outer s H vs Q E hr h => ?_)
  · obtain ⟨p, rfl, _⟩ := h
    rfl
  · obtain ⟨p, rfl, pl, k⟩ := h
    refine ⟨_, (pss_cons (ps_set (i := 1) sc_law_drawn.nd rfl (Or.inl rfl) (pe_lst (pa_cons (pe_f c_law_choose hr (by decide) (by rfl) (pa_cons (pv 0) (pa_cons (pe_lst (pa_cons pe_str (pa_cons pe_str (pa_cons pe_str pa_nil)))) pa_nil))) (pa_cons (pe_op op_add pe_int (pe_f c_law_draw hr (by decide) (by rfl) (pa_cons (pv 0) (pa_cons pe_int pa_nil)))) (pa_cons (pe_op op_add pe_int (pe_f c_law_draw hr (by decide) (by rfl) (pa_cons (pv 0) (pa_cons pe_int pa_nil)))) pa_nil)))))
      (pss_cons (ps_set (i := 2) sc_law_drawn.nd rfl (Or.inl rfl) (pe_and (pe_cmpR op_gt (pe_ix ix_list (pv 1) pe_int (fun _ _ => rfl)) pe_int (nomark _)) (pe_one (pe_cmpR op_eq (pe_f c_law_draw hr (by decide) (by rfl) (pa_cons (pv 0) (pa_cons pe_int pa_nil))) pe_int (nomark _)))))
      (pss_cons (ps_expr (pe_bm PySem.F.plainAttrs_list PySem.F.slot_list_append PySem.F.type_list_append mt_append (pv 1) (pa_cons (pe_ifExp (pt_val (pv 2)) (pe_tup pa_nil) (pe_callTy call_tuple_of (by rfl) T.n_tuple (by decide +kernel) (pa_cons (pe_lc (own := [("_law_turn", 3)]) (g := gName 3) (by rfl) sc_law_drawn.nd (pi_range1 (by rfl) T.n_range (pa_cons (pe_op op_sub (pe_ix ix_list (pv 1) pe_int (fun _ _ => rfl)) pe_int) pa_nil)) (blkOk_by (own := [("_law_turn", 3)]) (N := N_law_drawn) (sc := defScope s_law_drawn) (by decide +kernel)) (fun _ _ _ _ _ => pg_name (i := 3) sc_law_drawn.nd rfl (Or.inl rfl)) (fun _ _ _ _ _ => pts_nil) (fun _ _ _ _ _ => (pe_f c_law_draw hr (by decide) (by rfl) (pa_cons (pv 0) (pa_cons pe_int pa_nil))))) pa_nil))) pa_nil)))
      (pss_cons (ps_expr (pe_bm PySem.F.plainAttrs_list PySem.F.slot_list_append PySem.F.type_list_append mt_append (pv 1) (pa_cons (pe_ifExp (pt_val (pv 2)) (pe_op op_add pe_int (pe_f c_law_draw hr (by decide) (by rfl) (pa_cons (pv 0) (pa_cons pe_int pa_nil)))) pe_non) pa_nil)))
      (pss_cons (ps_expr (pe_bm PySem.F.plainAttrs_list PySem.F.slot_list_append PySem.F.type_list_append mt_append (pv 1) (pa_cons (pe_cmpR op_eq (pe_f c_law_draw hr (by decide) (by rfl) (pa_cons (pv 0) (pa_cons pe_int pa_nil))) pe_int (nomark _)) pa_nil)))
      (pss_cons (ps_expr (pe_bm PySem.F.plainAttrs_list PySem.F.slot_list_append PySem.F.type_list_append mt_append (pv 1) (pa_cons (pe_f c_law_choose hr (by decide) (by rfl) (pa_cons (pv 0) (pa_cons (pe_lst (pa_cons (pe_tup (pa_cons pe_str pa_nil)) (pa_cons (pe_tup (pa_cons pe_str pa_nil)) (pa_cons (pe_tup (pa_cons pe_str (pa_cons (pe_f c_law_draw hr (by decide) (by rfl) (pa_cons (pv 0) (pa_cons pe_int pa_nil))) pa_nil))) pa_nil)))) pa_nil))) pa_nil)))
      (pss_one (ps_ret (pv 1))))))))), ?_⟩
    walk_at "rd"
    refine lst_go ?hl fun l H1 l0 S1 hl => ?_
    case hl => exact Nat.le_of_ble_eq_true rfl
    walk_at "rd"
    have pl1 := pl.ext S1
    have lp : l ≠ p := fun q => by obtain ⟨c, z, h1, _⟩ := pl; rw [q, h1] at l0; cases l0
    refine ⟨p, l, _, rfl, pl1, lp, hl, by decide, by decide, fun x H2 hx pl2 sx2 => ?_⟩
    obtain ⟨z, rfl, hz, hzl⟩ : ∃ z, x = .str z ∧ isNm z = true ∧ z.length ≤ 1000 := by
      simp at hx
      rcases hx with rfl | rfl | rfl
      · exact ⟨_, rfl, by decide +kernel, by decide +kernel⟩
      · exact ⟨_, rfl, by decide +kernel, by decide +kernel⟩
      · exact ⟨_, rfl, by decide +kernel, by decide +kernel⟩
    walk_at "rd"
    refine ⟨p, 20, rfl, pl2, by decide, by decide, fun r1 H3 a0 a1 pl3 sx3 => ?_⟩
    walk_at "rd"
    refine ⟨p, 3, rfl, pl3, by decide, by decide, fun r2 H4 b0 b1 pl4 sx4 => ?_⟩
    walk_at "rd"
    refine lst_go ?hl fun r H5 hr0 S5 hrow => ?_
    case hl => exact Nat.le_of_ble_eq_true rfl
    have sx5 : Sx p H H5 := ((Same.sx S1).trans (sx2.trans (sx3.trans sx4))).trans (Same.sx S5)
    have rp : r ≠ p := fun q => by obtain ⟨c, z, h1, _⟩ := pl4; rw [q, h1] at hr0; cases hr0
    have d5 : DS H H5 p r _ := ⟨pl4.ext S5, rp, Sx.free pl4 ((Same.sx S1).trans (sx2.trans (sx3.trans sx4))) hr0, hrow, sx5⟩
    clear sx5 hrow S5 sx4 sx3 sx2 S1
    walk_at "rd"
    refine g_ixL (SqL.of d5.row) (v := .int (1 + r2)) (atI_nat (j := 2) rfl) ?_
    walk_at "rd"
    refine g_ite (fun e => ?_) (fun e => ?_)
    · have gt : 1 < 1 + r2 := of_decide_eq_true e
      walk_at "rd"
      refine ⟨p, 2, rfl, d5.pl, by decide, by decide, fun r3 H6 c0 c1 pl6 sx6 => ?_⟩
      have d6 := d5.draw pl6 sx6
      by_cases h3 : r3 = 0
      · subst h3
        walk_at "rd"
        refine ⟨.inl ⟨rfl, _, SqL.of d6.row⟩, ?_⟩
        walk_at "rd"
        show (if true = true then _ else _)
        walk_at "rd"
        refine tup_go ?hl fun pa H7 pa0 S7 hpa => ?_
        case hl => exact Nat.le_of_ble_eq_true rfl
        walk_at "rd"
        have d7 := d6.same S7
        refine app_go d7.row (Nat.le_of_ble_eq_true rfl) fun H8 row8 sx8 => ?_
        have d8 := d7.app row8 sx8
        have tp8 : TupV K H8 pa (([] : List Int).map V.int) := TupV.sl d7.row sx8 ⟨.tup hpa, SqT.of hpa⟩
        walk_at "rd"
        refine ⟨.inl ⟨rfl, _, SqL.of d8.row⟩, ?_⟩
        walk_at "rd"
        show (if true = true then _ else _)
        walk_at "rd"
        refine ⟨p, 20, rfl, d8.pl, by decide, by decide, fun r4 H9 f0 f1 pl9 sx9 => ?_⟩
        have d9 := d8.draw pl9 sx9
        have tp9 := TupV.sx d8.pl sx9 tp8
        walk_at "rd"
        refine app_go d9.row (Nat.le_of_ble_eq_true rfl) fun H10 row10 sx10 => ?_
        have d10 := d9.app row10 sx10
        have tp10 := TupV.sl d9.row sx10 tp9
        have okE : ∀ b g, En.ok g → Pol.ok ⟨z, 1 + r1, 1 + r2, [], some (1 + r4), b, g⟩ := fun b g hg =>
          ⟨hz, hzl, by show 1 ≤ 1 + r1; omega, by show 1 + r1 ≤ 20; omega, by show 1 ≤ 1 + r2; omega, by show 1 + r2 ≤ 3; omega, fun i hi => by injection hi with hi; exact ⟨by show 2 ≤ 1 + r2; omega, by omega, by omega, rfl⟩, (fun hi => by cases hi), hg⟩
        walk_at "rd"
        refine ⟨.inl ⟨rfl, _, SqL.of d10.row⟩, ?_⟩
        walk_at "rd"
        refine ⟨p, 2, rfl, d10.pl, by decide, by decide, fun r5 H11 _ _ pl11 sx11 => ?_⟩
        have d11 := d10.draw pl11 sx11
        have tp11 := TupV.sx d10.pl sx11 tp10
        walk_at "rd"
        refine app_go d11.row (Nat.le_of_ble_eq_true rfl) fun H12 row12 sx12 => ?_
        have d12 := d11.app row12 sx12
        have tp12 := TupV.sl d11.row sx12 tp11
        walk_at "rd"
        refine ⟨.inl ⟨rfl, _, SqL.of d12.row⟩, ?_⟩
        walk_at "rd"
        refine tup_go ?hl fun g1 H13 g10 S13 hg1 => ?_
        case hl => exact Nat.le_of_ble_eq_true rfl
        have d13 := d12.same S13
        walk_at "rd"
        refine tup_go ?hl fun g2 H14 g20 S14 hg2 => ?_
        case hl => exact Nat.le_of_ble_eq_true rfl
        have d14 := d13.same S14
        walk_at "rd"
        refine ⟨p, 21, rfl, d14.pl, by decide, by decide, fun r6 H15 s0 s1 pl15 sx15 => ?_⟩
        have d15 := d14.draw pl15 sx15
        walk_at "rd"
        refine tup_go ?hl fun g3 H16 g30 S16 hg3 => ?_
        case hl => exact Nat.le_of_ble_eq_true rfl
        have d16 := d15.same S16
        walk_at "rd"
        refine lst_go ?hl fun l2 H17 l20 S17 hl2 => ?_
        case hl => exact Nat.le_of_ble_eq_true rfl
        have d17 := d16.same S17
        walk_at "rd"
        have l2p : l2 ≠ p := fun q => by obtain ⟨c, z, h1, _⟩ := d16.pl; rw [q, h1] at l20; cases l20
        refine ⟨p, l2, _, rfl, d17.pl, l2p, hl2, Nat.le_of_ble_eq_true rfl, Nat.le_of_ble_eq_true rfl, fun x H18 hx pl18 sx18 => ?_⟩
        have d18 := d17.draw pl18 sx18
        have tp18 := TupV.sx d17.pl sx18 (TupV.ext S17 (TupV.ext S16 (TupV.sx d14.pl sx15 (TupV.ext S14 (TupV.ext S13 tp12)))))
        have tg1 : TupV K H13 g1 En.go.vs := ⟨.tup hg1, SqT.of hg1⟩
        have tg2 : TupV K H14 g2 En.deadline.vs := ⟨.tup hg2, SqT.of hg2⟩
        have tg3 : TupV K H16 g3 (En.stop r6).vs := ⟨.tup hg3, SqT.of hg3⟩
        obtain ⟨ga, g, rfl, gok, tg18⟩ : ∃ ga g, x = .ref ga ∧ En.ok g ∧ TupV K H18 ga g.vs := by
          simp only [List.mem_cons, List.not_mem_nil, or_false] at hx
          rcases hx with rfl | rfl | rfl
          · exact ⟨g1, .go, rfl, trivial, TupV.sx d17.pl sx18 (TupV.ext S17 (TupV.ext S16 (TupV.sx d14.pl sx15 (TupV.ext S14 tg1))))⟩
          · exact ⟨g2, .deadline, rfl, trivial, TupV.sx d17.pl sx18 (TupV.ext S17 (TupV.ext S16 (TupV.sx d14.pl sx15 tg2)))⟩
          · exact ⟨g3, .stop r6, rfl, ⟨s0, by omega⟩, TupV.sx d17.pl sx18 (TupV.ext S17 tg3)⟩
        walk_at "rd"
        refine app_go d18.row (Nat.le_of_ble_eq_true rfl) fun H19 row19 sx19 => ?_
        walk_at "rd"
        exact k r _ pa ga H19 (okE (decide (V.int r5 = V.int 0)) g gok) (d18.app row19 sx19) ⟨TupV.sl d18.row sx19 tp18, TupV.sl d18.row sx19 tg18⟩
      · have sl2 : decide (V.int r3 = V.int 0) = false := decide_eq_false fun q => h3 (by injection q)
        walk_at "rd"
        rw [sl2]
        refine ⟨.inl ⟨rfl, _, SqL.of d6.row⟩, ?_⟩
        walk_at "rd"
        unfold tLc iRng1
        walk_at "rd"
        refine g_ixL (SqL.of d6.row) (v := .int (1 + r2)) (atI_nat (j := 2) rfl) ?_
        walk_at "rd"
        refine ⟨_, rfl, by omega, by omega, fun L hL => ?_⟩
        have Lp : L ≠ p := fun q => by obtain ⟨c, z, h1, _⟩ := d6.pl; rw [q, h1] at hL; cases hL
        have Lr : L ≠ r := fun q => by rw [q, d6.row] at hL; cases hL
        have L0 : H L = none := Sx.free d6.pl d6.bx hL
        refine lc_range (lo := 0) (n := (1 + r2 - 1).toNat) (fun i H' => ∃ ns : List Int, ns.length = i ∧ (∀ x ∈ ns, 0 ≤ x ∧ x ≤ 8) ∧ H' L = some (.lst (ns.map V.int)) ∧ DS H H' p r [V.str z, V.int (1 + r1), V.int (1 + r2)]) ?_ ?_ ?_
        · exact ⟨[], rfl, (fun x hx => by cases hx), upd_same, d6.same (same_new hL)⟩
        · rintro i H7 hi ⟨ns, hn, hb, hl7, d7⟩
          walk_at "rd"
          refine ⟨rfl, ?_⟩
          walk_at "rd"
          refine ⟨p, 9, rfl, d7.pl, by decide, by decide, fun y H8 y0 y1 pl8 sx8 => ?_⟩
          have d8 := d7.draw pl8 sx8
          refine ⟨_, sx8 _ _ Lp hl7, small1000 (by rw [List.length_map]; omega), ns ++ [y], by rw [List.length_append, hn]; rfl, ?_, ?_, d8.other sx_upd Lp Lr L0⟩
          · intro x hx
            rcases List.mem_append.mp hx with hx | hx
            · exact hb x hx
            · rw [List.mem_singleton.mp hx]
              exact ⟨y0, by omega⟩
          · rw [upd_same, List.map_append]
            rfl
        · rintro H7 ⟨ns, hn, hb, hl7, d7⟩
          refine ⟨L, _, rfl, .inl ⟨SqL.of hl7, fun pa hpa => ?_⟩⟩
          walk_at "rd"
          have d8 := d7.same (same_new (o := .tup (ns.map V.int)) hpa)
          refine app_go d8.row (Nat.le_of_ble_eq_true rfl) fun H9 row9 sx9 => ?_
          have d9 := d8.app row9 sx9
          have tp9 : TupV K H9 pa (ns.map V.int) := TupV.sl d8.row sx9 ⟨.tup upd_same, SqT.of upd_same⟩
          walk_at "rd"
          refine ⟨.inl ⟨rfl, _, SqL.of d9.row⟩, ?_⟩
          walk_at "rd"
          refine app_go d9.row (Nat.le_of_ble_eq_true rfl) fun H10 row10 sx10 => ?_
          have d10 := d9.app row10 sx10
          have tp10 := TupV.sl d9.row sx10 tp9
          have okE : ∀ b g, En.ok g → Pol.ok ⟨z, 1 + r1, 1 + r2, ns, none, b, g⟩ := fun b g hg =>
            ⟨hz, hzl, by show 1 ≤ 1 + r1; omega, by show 1 + r1 ≤ 20; omega, by show 1 ≤ 1 + r2; omega, by show 1 + r2 ≤ 3; omega, (fun i hi => by cases hi), fun _ => ⟨by show (ns.length : Int) = 1 + r2 - 1; omega, hb⟩, hg⟩
          walk_at "rd"
          refine ⟨.inl ⟨rfl, _, SqL.of d10.row⟩, ?_⟩
          walk_at "rd"
          refine ⟨p, 2, rfl, d10.pl, by decide, by decide, fun r5 H11 _ _ pl11 sx11 => ?_⟩
          have d11 := d10.draw pl11 sx11
          have tp11 := TupV.sx d10.pl sx11 tp10
          walk_at "rd"
          refine app_go d11.row (Nat.le_of_ble_eq_true rfl) fun H12 row12 sx12 => ?_
          have d12 := d11.app row12 sx12
          have tp12 := TupV.sl d11.row sx12 tp11
          walk_at "rd"
          refine ⟨.inl ⟨rfl, _, SqL.of d12.row⟩, ?_⟩
          walk_at "rd"
          refine tup_go ?hl fun g1 H13 g10 S13 hg1 => ?_
          case hl => exact Nat.le_of_ble_eq_true rfl
          have d13 := d12.same S13
          walk_at "rd"
          refine tup_go ?hl fun g2 H14 g20 S14 hg2 => ?_
          case hl => exact Nat.le_of_ble_eq_true rfl
          have d14 := d13.same S14
          walk_at "rd"
          refine ⟨p, 21, rfl, d14.pl, by decide, by decide, fun r6 H15 s0 s1 pl15 sx15 => ?_⟩
          have d15 := d14.draw pl15 sx15
          walk_at "rd"
          refine tup_go ?hl fun g3 H16 g30 S16 hg3 => ?_
          case hl => exact Nat.le_of_ble_eq_true rfl
          have d16 := d15.same S16
          walk_at "rd"
          refine lst_go ?hl fun l2 H17 l20 S17 hl2 => ?_
          case hl => exact Nat.le_of_ble_eq_true rfl
          have d17 := d16.same S17
          walk_at "rd"
          have l2p : l2 ≠ p := fun q => by obtain ⟨c, z, h1, _⟩ := d16.pl; rw [q, h1] at l20; cases l20
          refine ⟨p, l2, _, rfl, d17.pl, l2p, hl2, Nat.le_of_ble_eq_true rfl, Nat.le_of_ble_eq_true rfl, fun x H18 hx pl18 sx18 => ?_⟩
          have d18 := d17.draw pl18 sx18
          have tp18 := TupV.sx d17.pl sx18 (TupV.ext S17 (TupV.ext S16 (TupV.sx d14.pl sx15 (TupV.ext S14 (TupV.ext S13 tp12)))))
          have tg1 : TupV K H13 g1 En.go.vs := ⟨.tup hg1, SqT.of hg1⟩
          have tg2 : TupV K H14 g2 En.deadline.vs := ⟨.tup hg2, SqT.of hg2⟩
          have tg3 : TupV K H16 g3 (En.stop r6).vs := ⟨.tup hg3, SqT.of hg3⟩
          obtain ⟨ga, g, rfl, gok, tg18⟩ : ∃ ga g, x = .ref ga ∧ En.ok g ∧ TupV K H18 ga g.vs := by
            simp only [List.mem_cons, List.not_mem_nil, or_false] at hx
            rcases hx with rfl | rfl | rfl
            · exact ⟨g1, .go, rfl, trivial, TupV.sx d17.pl sx18 (TupV.ext S17 (TupV.ext S16 (TupV.sx d14.pl sx15 (TupV.ext S14 tg1))))⟩
            · exact ⟨g2, .deadline, rfl, trivial, TupV.sx d17.pl sx18 (TupV.ext S17 (TupV.ext S16 (TupV.sx d14.pl sx15 tg2)))⟩
            · exact ⟨g3, .stop r6, rfl, ⟨s0, by omega⟩, TupV.sx d17.pl sx18 (TupV.ext S17 tg3)⟩
          walk_at "rd"
          refine app_go d18.row (Nat.le_of_ble_eq_true rfl) fun H19 row19 sx19 => ?_
          walk_at "rd"
          exact k r _ pa ga H19 (okE (decide (V.int r5 = V.int 0)) g gok) (d18.app row19 sx19) ⟨TupV.sl d18.row sx19 tp18, TupV.sl d18.row sx19 tg18⟩
    · walk_at "rd"
      have d6 := d5
      refine ⟨.inl ⟨rfl, _, SqL.of d6.row⟩, ?_⟩
      walk_at "rd"
      unfold tLc iRng1
      walk_at "rd"
      refine g_ixL (SqL.of d6.row) (v := .int (1 + r2)) (atI_nat (j := 2) rfl) ?_
      walk_at "rd"
      refine ⟨_, rfl, by omega, by omega, fun L hL => ?_⟩
      have Lp : L ≠ p := fun q => by obtain ⟨c, z, h1, _⟩ := d6.pl; rw [q, h1] at hL; cases hL
      have Lr : L ≠ r := fun q => by rw [q, d6.row] at hL; cases hL
      have L0 : H L = none := Sx.free d6.pl d6.bx hL
      refine lc_range (lo := 0) (n := (1 + r2 - 1).toNat) (fun i H' => ∃ ns : List Int, ns.length = i ∧ (∀ x ∈ ns, 0 ≤ x ∧ x ≤ 8) ∧ H' L = some (.lst (ns.map V.int)) ∧ DS H H' p r [V.str z, V.int (1 + r1), V.int (1 + r2)]) ?_ ?_ ?_
      · exact ⟨[], rfl, (fun x hx => by cases hx), upd_same, d6.same (same_new hL)⟩
      · rintro i H7 hi ⟨ns, hn, hb, hl7, d7⟩
        walk_at "rd"
        refine ⟨rfl, ?_⟩
        walk_at "rd"
        refine ⟨p, 9, rfl, d7.pl, by decide, by decide, fun y H8 y0 y1 pl8 sx8 => ?_⟩
        have d8 := d7.draw pl8 sx8
        refine ⟨_, sx8 _ _ Lp hl7, small1000 (by rw [List.length_map]; omega), ns ++ [y], by rw [List.length_append, hn]; rfl, ?_, ?_, d8.other sx_upd Lp Lr L0⟩
        · intro x hx
          rcases List.mem_append.mp hx with hx | hx
          · exact hb x hx
          · rw [List.mem_singleton.mp hx]
            exact ⟨y0, by omega⟩
        · rw [upd_same, List.map_append]
          rfl
      · rintro H7 ⟨ns, hn, hb, hl7, d7⟩
        refine ⟨L, _, rfl, .inl ⟨SqL.of hl7, fun pa hpa => ?_⟩⟩
        walk_at "rd"
        have d8 := d7.same (same_new (o := .tup (ns.map V.int)) hpa)
        refine app_go d8.row (Nat.le_of_ble_eq_true rfl) fun H9 row9 sx9 => ?_
        have d9 := d8.app row9 sx9
        have tp9 : TupV K H9 pa (ns.map V.int) := TupV.sl d8.row sx9 ⟨.tup upd_same, SqT.of upd_same⟩
        walk_at "rd"
        refine ⟨.inl ⟨rfl, _, SqL.of d9.row⟩, ?_⟩
        walk_at "rd"
        refine app_go d9.row (Nat.le_of_ble_eq_true rfl) fun H10 row10 sx10 => ?_
        have d10 := d9.app row10 sx10
        have tp10 := TupV.sl d9.row sx10 tp9
        have okE : ∀ b g, En.ok g → Pol.ok ⟨z, 1 + r1, 1 + r2, ns, none, b, g⟩ := fun b g hg =>
          ⟨hz, hzl, by show 1 ≤ 1 + r1; omega, by show 1 + r1 ≤ 20; omega, by show 1 ≤ 1 + r2; omega, by show 1 + r2 ≤ 3; omega, (fun i hi => by cases hi), fun _ => ⟨by show (ns.length : Int) = 1 + r2 - 1; omega, hb⟩, hg⟩
        walk_at "rd"
        refine ⟨.inl ⟨rfl, _, SqL.of d10.row⟩, ?_⟩
        walk_at "rd"
        refine ⟨p, 2, rfl, d10.pl, by decide, by decide, fun r5 H11 _ _ pl11 sx11 => ?_⟩
        have d11 := d10.draw pl11 sx11
        have tp11 := TupV.sx d10.pl sx11 tp10
        walk_at "rd"
        refine app_go d11.row (Nat.le_of_ble_eq_true rfl) fun H12 row12 sx12 => ?_
        have d12 := d11.app row12 sx12
        have tp12 := TupV.sl d11.row sx12 tp11
        walk_at "rd"
        refine ⟨.inl ⟨rfl, _, SqL.of d12.row⟩, ?_⟩
        walk_at "rd"
        refine tup_go ?hl fun g1 H13 g10 S13 hg1 => ?_
        case hl => exact Nat.le_of_ble_eq_true rfl
        have d13 := d12.same S13
        walk_at "rd"
        refine tup_go ?hl fun g2 H14 g20 S14 hg2 => ?_
        case hl => exact Nat.le_of_ble_eq_true rfl
        have d14 := d13.same S14
        walk_at "rd"
        refine ⟨p, 21, rfl, d14.pl, by decide, by decide, fun r6 H15 s0 s1 pl15 sx15 => ?_⟩
        have d15 := d14.draw pl15 sx15
        walk_at "rd"
        refine tup_go ?hl fun g3 H16 g30 S16 hg3 => ?_
        case hl => exact Nat.le_of_ble_eq_true rfl
        have d16 := d15.same S16
        walk_at "rd"
        refine lst_go ?hl fun l2 H17 l20 S17 hl2 => ?_
        case hl => exact Nat.le_of_ble_eq_true rfl
        have d17 := d16.same S17
        walk_at "rd"
        have l2p : l2 ≠ p := fun q => by obtain ⟨c, z, h1, _⟩ := d16.pl; rw [q, h1] at l20; cases l20
        refine ⟨p, l2, _, rfl, d17.pl, l2p, hl2, Nat.le_of_ble_eq_true rfl, Nat.le_of_ble_eq_true rfl, fun x H18 hx pl18 sx18 => ?_⟩
        have d18 := d17.draw pl18 sx18
        have tp18 := TupV.sx d17.pl sx18 (TupV.ext S17 (TupV.ext S16 (TupV.sx d14.pl sx15 (TupV.ext S14 (TupV.ext S13 tp12)))))
        have tg1 : TupV K H13 g1 En.go.vs := ⟨.tup hg1, SqT.of hg1⟩
        have tg2 : TupV K H14 g2 En.deadline.vs := ⟨.tup hg2, SqT.of hg2⟩
        have tg3 : TupV K H16 g3 (En.stop r6).vs := ⟨.tup hg3, SqT.of hg3⟩
        obtain ⟨ga, g, rfl, gok, tg18⟩ : ∃ ga g, x = .ref ga ∧ En.ok g ∧ TupV K H18 ga g.vs := by
          simp only [List.mem_cons, List.not_mem_nil, or_false] at hx
          rcases hx with rfl | rfl | rfl
          · exact ⟨g1, .go, rfl, trivial, TupV.sx d17.pl sx18 (TupV.ext S17 (TupV.ext S16 (TupV.sx d14.pl sx15 (TupV.ext S14 tg1))))⟩
          · exact ⟨g2, .deadline, rfl, trivial, TupV.sx d17.pl sx18 (TupV.ext S17 (TupV.ext S16 (TupV.sx d14.pl sx15 tg2)))⟩
          · exact ⟨g3, .stop r6, rfl, ⟨s0, by omega⟩, TupV.sx d17.pl sx18 (TupV.ext S17 tg3)⟩
        walk_at "rd"
        refine app_go d18.row (Nat.le_of_ble_eq_true rfl) fun H19 row19 sx19 => ?_
        walk_at "rd"
        exact k r _ pa ga H19 (okE (decide (V.int r5 = V.int 0)) g gok) (d18.app row19 sx19) ⟨TupV.sl d18.row sx19 tp18, TupV.sl d18.row sx19 tg18⟩
end
end K2

namespace K2
open PySem PySem.Spec PyProof.Rows L2 Mc
section
variable {P : Program} {w : World} {K : PySem.W.Frag} {mg : Str → Option Value} {base : Heap}
local macro_rules | `(tactic| walk_at "rd1") => `(tactic| first
  | with_reducible refine g_seq ?_
  | with_reducible refine g_asg ?_
  | with_reducible refine g_name ?_
  | with_reducible refine g_c ?_
  | with_reducible refine g_op ?_
  | with_reducible refine g_ifS ?_
  | with_reducible refine g_if ?_
  | with_reducible refine g_test ?_
  | with_reducible refine g_B ?_
  | with_reducible refine g_bl ?_
  | with_reducible refine g_blV ?_
  | with_reducible refine g_not ?_
  | with_reducible refine g_and ?_
  | with_reducible refine g_or ?_
  | with_reducible refine g_notV ?_
  | with_reducible refine g_andV ?_
  | with_reducible refine g_orV ?_
  | with_reducible refine g_ret ?_
  | with_reducible refine g_drop ?_
  | with_reducible refine g_next ?_
  | with_reducible refine g_retN ?_
  | with_reducible refine g_call ?_
  | with_reducible refine g_cb ?_
  | with_reducible refine g_cons ?_
  | with_reducible refine g_nil ?_
  | with_reducible refine g_tup ?_
  | with_reducible refine g_lst ?_
  | with_reducible refine g_prop ?_
  | with_reducible refine g_fld ?_
  | with_reducible refine g_meth ?_
  | with_reducible refine g_chain ?_
  | with_reducible refine g_yes ?_
  | with_reducible refine g_make ?_
  | with_reducible refine g_makeK ?_
  | with_reducible refine g_gsub ?_
  | with_reducible refine g_sfld ?_
  | with_reducible refine g_un ?_
  | with_reducible refine g_bm ?_
  | with_reducible refine g_iteT ?_
  | with_reducible refine g_iteF ?_
  | with_reducible refine g_I0 ?_
  | with_reducible refine g_add ?_
  | with_reducible refine g_sub ?_
  | ((with_reducible refine' g_var ?hv ?_); (case hv => rfl))
  | ((with_reducible refine g_eq ?hv ?_); (case hv => rfl))
  | ((with_reducible refine g_ne ?hv ?_); (case hv => rfl)))
local macro_rules | `(tactic| walk_at "rd") => `(tactic| repeat (walk_at "rd1"))

local macro_rules | `(tactic| walk_at "ty") => `(tactic| first | exact .non | exact .bl _ | exact .int _ | exact .str _ | exact .lst (by assumption) | exact .tup (by assumption) | exact .dK (by assumption) | exact .kTup (by assumption) (by assumption))
local macro_rules | `(tactic| walk_at "isiF") => `(tactic| refine g_isi (by walk_at "ty") (b := false) (by decide +kernel) ?_)
local macro_rules | `(tactic| walk_at "isiT") => `(tactic| refine g_isi (by walk_at "ty") (b := true) (by decide +kernel) ?_)

abbrev FI (K : PySem.W.Frag) (go f : Addr) (fd : FuncData) : Prop := FunD K "__init__" "Policy.__init__" (defArgs s_Policyinit) (defBody s_Policyinit) (defScope s_Policyinit) [] (kwsP go) f fd
abbrev ksF : List Str := ["tries", "pauses", "early", "lossy", "ending"]
theorem kc_nil {α : Type} {D : Addr} {t : Sem α} {r : α} (h : t = pure r) : KwChain D [] t r := h
theorem kc_cons {α β γ : Type} {D : Addr} {n : Str} {v : Value} {l : List (Str × Value)} {t : Sem α} {r : α} {k1 : Option Value → Sem β} {k2 : β → Sem γ} {k3 : γ → Sem α} {a : β} (h : t = ((nsGet D n >>= k1) >>= k2) >>= k3) (h1 : k1 (some v) = pure a)
    (h2 : KwChain D l (k2 a >>= k3) r) : KwChain D ((n, v) :: l) t r := ⟨β, γ, k1, k2, k3, a, h, h1, h2⟩
theorem kb_full {go f : Addr} {fd : FuncData} (F : FI K go f fd) : KBn K fd psP 3 ksF (fun us ws => us ++ ws) (fun vs zs => vs ++ zs) := by
  obtain ⟨mv, h⟩ := F.kbinds0 (ps := psP) 3 ksF [] (fun vs mz zs => vs ++ zs) (by simp) (by simp) (fun a _ c => a.append c) (fun D doc pm an cdv ct us mv ws h1 h2 h3 => match us, mv, ws, h1, h2, h3 with
    | [_, _, _], [], [_, _, _, _, _], _, _, _ => kc_nil rfl)
  exact h
theorem kb_tries {go f : Addr} {fd : FuncData} (F : FI K go f fd) : ∃ mv, KBn K fd psP 3 ["tries"] (fun us ws => us ++ (ws ++ mv)) (fun vs zs => vs ++ (zs ++ [.non, .non, .bl false, .ref go])) := by
  obtain ⟨mv, h⟩ := F.kbinds0 (ps := psP) 3 ["tries"] [("pauses", .non), ("early", .non), ("lossy", .bl false), ("ending", .ref go)] (fun vs mz zs => vs ++ (zs ++ mz)) (by simp) (by simp) (fun a b c => a.append (c.append b)) (fun D doc pm an cdv ct us mv ws h1 h2 h3 => match us, mv, ws, h1, h2, h3 with
    | [_, _, _], [_, _, _, _], [_], _, _, _ => kc_cons rfl rfl (kc_cons rfl rfl (kc_cons rfl rfl (kc_cons rfl rfl (kc_nil rfl)))))
  exact ⟨mv, h⟩
theorem kb_pauses {go f : Addr} {fd : FuncData} (F : FI K go f fd) : ∃ mv : List Value, KBn K fd psP 3 ["pauses"] (fun us ws => us ++ (mv.take 1 ++ (ws ++ mv.drop 1))) (fun vs zs => vs ++ ([.int 1] ++ (zs ++ [.non, .bl false, .ref go]))) := by
  obtain ⟨mv, h⟩ := F.kbinds0 (ps := psP) 3 ["pauses"] [("tries", .int 1), ("early", .non), ("lossy", .bl false), ("ending", .ref go)] (fun vs mz zs => vs ++ (mz.take 1 ++ (zs ++ mz.drop 1))) (by simp) (by simp) (fun a b c => a.append ((b.take 1).append (c.append (b.drop 1)))) (fun D doc pm an cdv ct us mv ws h1 h2 h3 => match us, mv, ws, h1, h2, h3 with
    | [_, _, _], [_, _, _, _], [_], _, _, _ => kc_cons rfl rfl (kc_cons rfl rfl (kc_cons rfl rfl (kc_cons rfl rfl (kc_nil rfl)))))
  exact ⟨mv, h⟩
theorem b_none {go f : Addr} {fd : FuncData} (F : FI K go f fd) : ∃ ds, Vals [.int 1, .non, .non, .bl false, .ref go] ds ∧ Binds K fd psP ds :=
  F.binds0 (ps := psP) 3 (by simp) rfl (fun D doc pm an cdv ct us ks h1 h2 => match us, ks, h1, h2 with
    | [_, _, _], [_, _, _, _, _], _, _ => kc_cons rfl rfl (kc_cons rfl rfl (kc_cons rfl rfl (kc_cons rfl rfl (kc_cons rfl rfl (kc_nil rfl))))))

/-- a new instance and its dict leave what was tracked -/
theorem same_made {H H1 : Hp} {x dx C : Addr} (nx : H x = none) (nd : H dx = none) (k : ∀ b o, (upd (upd H dx (.own x)) x (.ins C dx [])) b = some o → b ≠ x → H1 b = some o) : Same H H1 := fun b o e =>
  k b o (by rw [upd_ne (ne_of_none e nx), upd_ne (ne_of_none e nd)]; exact e) (ne_of_none e nx)
theorem same_ins {H : Hp} {x dx C : Addr} (nx : H x = none) (nd : H dx = none) : Same H (upd (upd H dx (.own x)) x (.ins C dx [])) := fun b o e => by
  rw [upd_ne (ne_of_none e nx), upd_ne (ne_of_none e nd)]; exact e
def spBuilt (K : PySem.W.Frag) (C : Addr) : Sp := fun vs H Q _ => ∃ r q pa ga, vs = [.ref r] ∧ Pol.ok q ∧ H r = some (.lst (Pol.vs q pa ga)) ∧ Tups K H q pa ga ∧ ∀ a H', H a = none → Same H H' → PolAt K C H' a q → Q (.ref a) H'

theorem ok_built {C fI go : Addr} {fdI : FuncData} (D : Def K mg "_law_built" s_law_built ["_law_row"]) (M : Mk K C fI) (GI : FnOk P w K mg base CX0 6 fI fdI psP (spInit K C)) (gP : mg "Policy" = some (.ref C)) (F : FI K go fI fdI) : Cal P w K mg base 8 "_law_built" (spBuilt K C) := by
  have bF := kb_full F
  refine cal_of D sc_law_built (fun vs H Q E h => ?_) (fun f cdv A outer s H vs Q E hr h => ?_)
  · obtain ⟨r, q, pa, ga, rfl, _⟩ := h
    rfl
  · obtain ⟨r, q, pa, ga, rfl, ok, hr0, tu, k⟩ := h
    have hrI : Room 7 (A.deeper (envOfC "_law_built" (defScope s_law_built) s.heap.objs.size f cdv)) := hr
    refine ⟨_, (pss_cons (ps_set (i := 1) sc_law_built.nd rfl (Or.inl rfl) (pe_ifExp (pt_cmpR op_notN (pe_ix ix_list (pv 0) pe_int (fun _ _ => rfl)) pe_non (nomark _)) pe_non (pe_ix ix_list (pv 0) pe_int (fun _ _ => rfl))))
      (pss_one (ps_ret (pe_makeK M GI hrI (by rfl) gP bF pass0 (pa_cons (pe_ix ix_list (pv 0) pe_int (fun _ _ => rfl)) (pa_cons (pe_ix ix_list (pv 0) pe_int (fun _ _ => rfl)) pa_nil)) (pk_cons (pe_ix ix_list (pv 0) pe_int (fun _ _ => rfl)) (pk_cons (pv 1) (pk_cons (pe_ix ix_list (pv 0) pe_int (fun _ _ => rfl)) (pk_cons (pe_ix ix_list (pv 0) pe_int (fun _ _ => rfl)) (pk_cons (pe_ix ix_list (pv 0) pe_int (fun _ _ => rfl)) pk_nil))))))))), ?_⟩
    walk_at "rd"
    refine g_ixL (SqL.of hr0) (v := eV q.e) (atI_nat (j := 4) rfl) ?_
    walk_at "rd"
    refine ⟨rfl, ?_⟩
    walk_at "rd"
    cases he : q.e with
    | none =>
      have e1 : decide (eV none = .non) = true := by decide +kernel
      rw [e1]
      show (if false = true then _ else _)
      walk_at "rd"
      refine g_ixL (SqL.of hr0) (v := .ref pa) (atI_nat (j := 3) rfl) ?_
      walk_at "rd"
      refine g_ixL (SqL.of hr0) (v := .str q.z) (atI_nat (j := 0) rfl) ?_
      walk_at "rd"
      refine g_ixL (SqL.of hr0) (v := .int q.l) (atI_nat (j := 1) rfl) ?_
      walk_at "rd"
      refine g_ixL (SqL.of hr0) (v := .int q.t) (atI_nat (j := 2) rfl) ?_
      walk_at "rd"
      refine g_ixL (SqL.of hr0) (v := eV q.e) (atI_nat (j := 4) rfl) ?_
      walk_at "rd"
      refine g_ixL (SqL.of hr0) (v := .bl q.b) (atI_nat (j := 5) rfl) ?_
      walk_at "rd"
      refine g_ixL (SqL.of hr0) (v := .ref ga) (atI_nat (j := 6) rfl) ?_
      walk_at "rd"
      refine ⟨rfl, rfl, fun x dx nx nd ne => ?_⟩
      refine ⟨x, dx, q, .ref pa, ga, rfl, ok, upd_same, TupV.ext (same_ins nx nd) tu.g, .inr ⟨he, pa, rfl, TupV.ext (same_ins nx nd) tu.p⟩, fun H' pl fr => ⟨rfl, k x H' nx (same_made nx nd fr) pl⟩⟩
    | some i =>
      have e1 : decide (eV (some i) = .non) = false := rfl
      rw [e1]
      show (if true = true then _ else _)
      walk_at "rd"
      walk_at "rd"
      refine g_ixL (SqL.of hr0) (v := .str q.z) (atI_nat (j := 0) rfl) ?_
      walk_at "rd"
      refine g_ixL (SqL.of hr0) (v := .int q.l) (atI_nat (j := 1) rfl) ?_
      walk_at "rd"
      refine g_ixL (SqL.of hr0) (v := .int q.t) (atI_nat (j := 2) rfl) ?_
      walk_at "rd"
      refine g_ixL (SqL.of hr0) (v := eV q.e) (atI_nat (j := 4) rfl) ?_
      walk_at "rd"
      refine g_ixL (SqL.of hr0) (v := .bl q.b) (atI_nat (j := 5) rfl) ?_
      walk_at "rd"
      refine g_ixL (SqL.of hr0) (v := .ref ga) (atI_nat (j := 6) rfl) ?_
      walk_at "rd"
      refine ⟨rfl, rfl, fun x dx nx nd ne => ?_⟩
      refine ⟨x, dx, q, .non, ga, rfl, ok, upd_same, TupV.ext (same_ins nx nd) tu.g, .inl ⟨rfl, fun h => by rw [he] at h; cases h⟩, fun H' pl fr => ⟨rfl, k x H' nx (same_made nx nd fr) pl⟩⟩
end
end K2

namespace K2
open PySem PySem.Spec PyProof.Rows L2 Mc
/-! ### small data: shown, compared -/
structure Good (d : PyData) (w e : Nat) : Prop where
  sh : d.showable = true
  hd : d.hasDict = false
  cl : d.canLay0 = true
  ls : d.leavesShort 13 = true
  wt : d.weight ≤ w
  dp : d.depth ≤ e
structure GoodA (ds : List PyData) (w e : Nat) : Prop where
  sh : PyData.showableAll ds = true
  hd : PyData.hasDictAll ds = false
  cl : PyData.canLayAll0 ds = true
  ls : PyData.leavesShortAll 13 ds = true
  wt : PyData.weightAll ds ≤ w
  dp : PyData.depthAll ds ≤ e
theorem GoodA.nil {e : Nat} : GoodA [] 0 e := ⟨by simp only [PyData.showableAll], by simp only [PyData.hasDictAll], by simp only [PyData.canLayAll0], by simp only [PyData.leavesShortAll], by simp only [PyData.weightAll]; omega, by simp only [PyData.depthAll]; omega⟩
theorem GoodA.cons {d : PyData} {ds : List PyData} {w v e : Nat} (h : Good d w e) (t : GoodA ds v e) : GoodA (d :: ds) (w + 1 + v) e :=
  ⟨by simp only [PyData.showableAll, h.sh, t.sh]; rfl, by simp only [PyData.hasDictAll, h.hd, t.hd]; rfl, by simp only [PyData.canLayAll0, h.cl, t.cl]; rfl, by simp only [PyData.leavesShortAll, h.ls, t.ls]; rfl,
    by have := h.wt; have := t.wt; simp only [PyData.weightAll]; omega, by have := h.dp; have := t.dp; simp only [PyData.depthAll]; omega⟩
theorem Good.mono {d : PyData} {w v e g : Nat} (h : Good d w e) (hw : w ≤ v) (he : e ≤ g) : Good d v g := ⟨h.sh, h.hd, h.cl, h.ls, Nat.le_trans h.wt hw, Nat.le_trans h.dp he⟩
theorem GoodA.mono {d : List PyData} {w v e g : Nat} (h : GoodA d w e) (hw : w ≤ v) (he : e ≤ g) : GoodA d v g := ⟨h.sh, h.hd, h.cl, h.ls, Nat.le_trans h.wt hw, Nat.le_trans h.dp he⟩
theorem GoodA.list {ds : List PyData} {w e : Nat} (h : GoodA ds w e) : Good (.list ds) w (e + 1) :=
  ⟨by simp only [PyData.showable, h.sh], by simp only [PyData.hasDict, h.hd], by simp only [PyData.canLay0, h.cl], by simp only [PyData.leavesShort, h.ls], by have := h.wt; simp only [PyData.weight]; omega, by have := h.dp; simp only [PyData.depth]; omega⟩
theorem GoodA.tuple {ds : List PyData} {w e : Nat} (h : GoodA ds w e) : Good (.tuple ds) w (e + 1) :=
  ⟨by simp only [PyData.showable, h.sh], by simp only [PyData.hasDict, h.hd], by simp only [PyData.canLay0, h.cl], by simp only [PyData.leavesShort, h.ls], by have := h.wt; simp only [PyData.weight]; omega, by have := h.dp; simp only [PyData.depth]; omega⟩
theorem small_int : ∀ n : Nat, n < 21 → ((n : Int).natAbs.log2 < 1920 ∧ (PyData.shown (.int n)).length ≤ 13 ∧ PyData.weight (.int n) ≤ 10) := by decide +kernel
theorem Good.int {i : Int} (h0 : 0 ≤ i) (h1 : i ≤ 20) : Good (.int i) 10 0 := by
  obtain ⟨n, rfl⟩ : ∃ n : Nat, i = n := ⟨i.toNat, by omega⟩
  obtain ⟨a, b, c⟩ := small_int n (by omega)
  exact ⟨by simp only [PyData.showable]; exact decide_eq_true a, by simp only [PyData.hasDict], by simp only [PyData.canLay0], by simp only [PyData.leavesShort]; exact decide_eq_true b, c, by simp only [PyData.depth]; omega⟩
theorem Good.none : Good .none 10 0 := ⟨by simp only [PyData.showable], by simp only [PyData.hasDict], by simp only [PyData.canLay0], by simp only [PyData.leavesShort], by simp only [PyData.weight]; omega, by simp only [PyData.depth]; omega⟩
theorem Good.bool (b : Bool) : Good (.bool b) 10 0 := ⟨by simp only [PyData.showable], by simp only [PyData.hasDict], by simp only [PyData.canLay0], by simp only [PyData.leavesShort], by simp only [PyData.weight]; omega, by simp only [PyData.depth]; omega⟩
theorem Good.str {z : Str} (h : ∀ c ∈ z.cps.toList, c < 1000) (hl : z.length ≤ 10) : Good (.str z) 10 0 :=
  ⟨by simp only [PyData.showable], by simp only [PyData.hasDict], by
    simp only [PyData.canLay0, PyData.strOk]
    rw [Array.all_eq_true']
    intro x hx
    exact decide_eq_true (Nat.lt_trans (h x (Array.mem_toList_iff.mpr hx)) (by decide)), by
    simp only [PyData.leavesShort, List.all_eq_true, decide_eq_true_eq]
    intro c hc
    exact Nat.lt_trans (h c hc) (by decide), by simp only [PyData.weight]; exact hl, by simp only [PyData.depth]; omega⟩
theorem letters_lt : ∀ c ∈ letters.cps.toList, c < 1000 := by decide +kernel
theorem good_name {z : Str} (h : isNm z = true) : Good (.str z) 10 0 := by
  unfold isNm at h
  rw [Bool.and_eq_true, Bool.and_eq_true, decide_eq_true_eq, decide_eq_true_eq, List.all_eq_true] at h
  obtain ⟨_, h2, h3⟩ := h
  exact .str (fun c hc => letters_lt c (of_decide_eq_true (h3 c hc))) (by omega)
theorem good_ints {ns : List Int} (h : ∀ i ∈ ns, 0 ≤ i ∧ i ≤ 8) : GoodA (ns.map PyData.int) (11 * ns.length) 0 := by
  induction ns with
  | nil => exact GoodA.nil
  | cons i r ih =>
    have hi := h i (List.mem_cons_self ..)
    exact (GoodA.cons (Good.int hi.1 (by omega)) (ih fun j hj => h j (List.mem_cons_of_mem _ hj))).mono (by rw [List.length_cons]; omega) (Nat.le_refl _)
theorem good_en {g : En} (h : g.ok) : GoodA g.ds 30 0 := by
  cases g with
  | go => exact (GoodA.cons (Good.str (by decide +kernel) (by decide +kernel)) .nil).mono (by decide) (Nat.le_refl _)
  | deadline => exact (GoodA.cons (Good.str (by decide +kernel) (by decide +kernel)) .nil).mono (by decide) (Nat.le_refl _)
  | stop d => exact (GoodA.cons (Good.str (by decide +kernel) (by decide +kernel)) (GoodA.cons (Good.int h.1 h.2) .nil)).mono (by decide) (Nat.le_refl _)
theorem good_pol {q : Pol} (ok : q.ok) : GoodA q.ds 200 1 := by
  have hp : GoodA (q.ps.map PyData.int) 40 0 := by
    cases he : q.e with
    | none =>
      obtain ⟨h1, h2⟩ := ok.e0 he
      exact (good_ints h2).mono (by have := ok.t2; omega) (Nat.le_refl _)
    | some i =>
      rw [(ok.e1 i he).2.2.2]
      exact GoodA.nil.mono (by omega) (Nat.le_refl _)
  have hE : Good (eD q.e) 10 0 := by
    cases he : q.e with
    | none => exact .none
    | some i => exact .int (by have := ok.e1 i he; omega) (by have := ok.e1 i he; omega)
  have l1 := ok.l1
  have l2 := ok.l2
  have t1 := ok.t1
  have t2 := ok.t2
  refine (GoodA.cons ((good_name ok.nm).mono (Nat.le_refl _) (by omega)) (GoodA.cons ((Good.int (by omega) l2).mono (Nat.le_refl _) (by omega)) (GoodA.cons ((Good.int (by omega) (by omega)).mono (Nat.le_refl _) (by omega)) (GoodA.cons hp.tuple (GoodA.cons (hE.mono (Nat.le_refl _) (by omega))
    (GoodA.cons ((Good.bool q.b).mono (Nat.le_refl _) (by omega)) (GoodA.cons (good_en ok.g1).tuple .nil))))))).mono (by decide) (Nat.le_refl _)
theorem Good.shaped {d : PyData} {w e : Nat} (h : Good d w e) (he : e ≤ 64) : SeqAt.shaped d = true := by
  unfold SeqAt.shaped
  rw [h.cl, decide_eq_true (Nat.le_trans h.dp he)]
  rfl
theorem Good.fits {d : PyData} {w e : Nat} (h : Good d w e) (hw : w ≤ 1000) : d.shown.length ≤ sizeLine :=
  PyData.shown_fits (B := 13) (by decide) (by decide) h.ls (Nat.le_trans h.wt (Nat.le_trans hw (by decide)))
theorem repr_go {K : PySem.W.Frag} {H : Hp} {Q : VK} {a : Addr} {d : PyData} {w e : Nat} (h : Dp K H (.ref a) d) (g : Good d w e) (hw : w ≤ 1000) (he : e ≤ 40) (q : Q (.str d.shown) H) : rRepr K [.ref a] H Q :=
  ⟨a, d, rfl, h, g.sh, g.hd, Nat.le_trans g.dp he, g.fits hw, q⟩
theorem eqv_lt (a b : List PyData) : PyData.eqv (.tuple a) (.tuple b) = PyData.eqv (.list a) (.list b) := by
  simp only [PyData.eqv]
theorem g_eqD {K : PySem.W.Frag} {H : Hp} {Q : VK} {x y : V} {d e : PyData} (hx : Dp K H x d) (hy : Dp K H y e) (s1 : SeqAt.shaped d = true) (s2 : SeqAt.shaped e = true) (q : Q (.bl (PyData.eqv d e)) H) : rEqD K x y H Q := ⟨d, e, hx, hy, s1, s2, q⟩
end K2

namespace K2
open PySem PySem.Spec PyProof.Rows L2 Mc
section
variable {P : Program} {w : World} {K : PySem.W.Frag} {mg : Str → Option Value} {base : Heap}
local macro_rules | `(tactic| walk_at "rd1") => `(tactic| first
  | with_reducible refine g_seq ?_
  | with_reducible refine g_asg ?_
  | with_reducible refine g_name ?_
  | with_reducible refine g_c ?_
  | with_reducible refine g_op ?_
  | with_reducible refine g_ifS ?_
  | with_reducible refine g_if ?_
  | with_reducible refine g_test ?_
  | with_reducible refine g_B ?_
  | with_reducible refine g_bl ?_
  | with_reducible refine g_blV ?_
  | with_reducible refine g_not ?_
  | with_reducible refine g_and ?_
  | with_reducible refine g_or ?_
  | with_reducible refine g_notV ?_
  | with_reducible refine g_andV ?_
  | with_reducible refine g_orV ?_
  | with_reducible refine g_ret ?_
  | with_reducible refine g_drop ?_
  | with_reducible refine g_next ?_
  | with_reducible refine g_retN ?_
  | with_reducible refine g_call ?_
  | with_reducible refine g_cb ?_
  | with_reducible refine g_cons ?_
  | with_reducible refine g_nil ?_
  | with_reducible refine g_tup ?_
  | with_reducible refine g_lst ?_
  | with_reducible refine g_prop ?_
  | with_reducible refine g_fld ?_
  | with_reducible refine g_meth ?_
  | with_reducible refine g_chain ?_
  | with_reducible refine g_yes ?_
  | with_reducible refine g_make ?_
  | with_reducible refine g_makeK ?_
  | with_reducible refine g_gsub ?_
  | with_reducible refine g_sfld ?_
  | with_reducible refine g_un ?_
  | with_reducible refine g_bm ?_
  | with_reducible refine g_iteT ?_
  | with_reducible refine g_iteF ?_
  | with_reducible refine g_I0 ?_
  | with_reducible refine g_add ?_
  | with_reducible refine g_sub ?_
  | ((with_reducible refine' g_var ?hv ?_); (case hv => rfl))
  | ((with_reducible refine g_eq ?hv ?_); (case hv => rfl))
  | ((with_reducible refine g_ne ?hv ?_); (case hv => rfl)))
local macro_rules | `(tactic| walk_at "rd") => `(tactic| repeat (walk_at "rd1"))

local macro_rules | `(tactic| walk_at "ty") => `(tactic| first | exact .non | exact .bl _ | exact .int _ | exact .str _ | exact .lst (by assumption) | exact .tup (by assumption) | exact .dK (by assumption) | exact .kTup (by assumption) (by assumption))
local macro_rules | `(tactic| walk_at "isiF") => `(tactic| refine g_isi (by walk_at "ty") (b := false) (by decide +kernel) ?_)
local macro_rules | `(tactic| walk_at "isiT") => `(tactic| refine g_isi (by walk_at "ty") (b := true) (by decide +kernel) ?_)

def q0 : Pol := ⟨"a", 5, 1, [], none, false, .go⟩
def q3 : Pol := ⟨"a", 5, 3, [0, 0], none, false, .go⟩
theorem ok0 : q0.ok := ⟨by decide +kernel, by decide +kernel, by decide, by decide, by decide, by decide, (fun i h => by cases h), fun _ => ⟨by decide, (fun i h => by cases h)⟩, trivial⟩
theorem ok3 : q3.ok := ⟨by decide +kernel, by decide +kernel, by decide, by decide, by decide, by decide, (fun i h => by cases h), fun _ => ⟨by decide, by decide⟩, trivial⟩
theorem shown0 : (PyData.tuple [.int 0, .int 0]).shown = "(0, 0)" := by decide +kernel

theorem g_par {σ : L2.St} {H : Hp} {D : Ends} {i j : Nat} {ta : TA} (q : ta σ H fun vs H1 => ∃ v w, vs = [v, w] ∧ D.nx ((σ.set i (some v)).set j (some w)) H1) : tPar i j ta D σ H := q
theorem g_sl {σ : L2.St} {H : Hp} {Q : VK} {r : V → Option Int → Option Int → Hp → VK → Prop} {te : TE} {tl th : TO} (q : te σ H fun x H1 => tl σ H1 fun l H2 => th σ H2 fun u H3 => r x l u H3 Q) : tSl r te tl th σ H Q := q
theorem g_nopart {σ : L2.St} {H : Hp} {Q : Option Int → Hp → Prop} (q : Q none H) : tNoPart σ H Q := q
theorem g_part {σ : L2.St} {H : Hp} {Q : Option Int → Hp → Prop} {t : TE} (q : t σ H fun x H1 => ∃ i, x = .int i ∧ Q (some i) H1) : tPart t σ H Q := q
theorem sl_go {H : Hp} {Q : VK} {a : Addr} {xs : List V} {lo hi : Option Int} (h : SqL K H a xs) (k : ∀ s H', Same H H' → H' s = some (.lst (cutV xs lo hi)) → Q (.ref s) H') : rSlL K (.ref a) lo hi H Q :=
  ⟨a, xs, rfl, h, fun p hp => k p _ (same_new hp) upd_same⟩
theorem cat_go {H : Hp} {Q : VK} {a b : Addr} {xs ys : List V} (h : H a = some (.lst xs)) (h' : H b = some (.lst ys)) (hl : xs.length + ys.length ≤ 1000) (k : ∀ s H', Same H H' → H' s = some (.lst (xs ++ ys)) → Q (.ref s) H') : rCat (.ref a) (.ref b) H Q :=
  ⟨a, b, xs, ys, rfl, rfl, h, h', sz_le hl, fun p hp => k p _ (same_new hp) upd_same⟩
theorem cmp_same (a b : List PyData) : decide (V.bl (if false = true then !(PyData.eqv (.tuple a) (.tuple b)) else PyData.eqv (.tuple a) (.tuple b)) = V.bl (PyData.eqv (.list a) (.list b))) = true :=
  decide_eq_true (by rw [if_neg Bool.false_ne_true, eqv_lt])

def spLaw (K : PySem.W.Frag) : Sp := fun vs H Q _ => ∃ (a : Addr) (ns : List Int), vs = [.ref a] ∧ SqL K H a (ns.map V.int) ∧ ns.length ≤ 63 ∧ ∀ H', Q (.bl true) H'
theorem ok_law {C f fI fE go : Addr} {fd fdI fdE : FuncData} {ds0 : List Value} {gT gP' : List Value → List Value → List Value} (F : Fun K "law" "law" s_law f fd) (T : Txt K mg) (M : Mk K C fI) (GI : FnOk P w K mg base CX0 6 fI fdI psP (spInit K C)) (gP : mg "Policy" = some (.ref C))
    (b0 : Binds K fdI psP ds0) (v0 : Vals [.int 1, .non, .non, .bl false, .ref go] ds0) (bT : KBn K fdI psP 3 ["tries"] gT (fun vs zs => vs ++ (zs ++ [.non, .non, .bl false, .ref go])))
    (bP : KBn K fdI psP 3 ["pauses"] gP' (fun vs zs => vs ++ ([.int 1] ++ (zs ++ [.non, .bl false, .ref go])))) (GE : FnOk P w K mg base CX0 2 fE fdE ["self", "other"] (spEq K C)) (OC : OwnCmp K C fE) (bE : Binds K fdE ["self", "other"] [])
    (tgo : ∀ H, TupV K H go En.go.vs) (pr_pauses : Prp P w K mg base 1 C "pauses" (getSp C "_pauses")) (c_law_fields_of : Cal P w K mg base 3 "_law_fields_of" (spFO C)) (c_law_pool : Cal P w K mg base 1 "_law_pool" (spPool K))
    (c_law_drawn : Cal P w K mg base 3 "_law_drawn" (spDrawn K)) (c_law_built : Cal P w K mg base 8 "_law_built" (spBuilt K C)) : FnG P w K mg base CX0 10 f fd ["_law_script"] (spLaw K) := by
  refine fnG_of F sc_law (fun vs H Q E h => ?_) (fun cdv A outer s H vs Q E hgA hr h => ?_)
  · obtain ⟨a, ns, rfl, _⟩ := h
    rfl
  · obtain ⟨a, ns, rfl, hS, hlen, k⟩ := h
    have hg : (A.deeper (envOfC "law" (defScope s_law) s.heap.objs.size f cdv)).guards = some [] := hgA
    have hu := hr.units
    have hrI : Room 7 (A.deeper (envOfC "law" (defScope s_law) s.heap.objs.size f cdv)) := hr.mono (by decide)
    have hrE : Room 2 (A.deeper (envOfC "law" (defScope s_law) s.heap.objs.size f cdv)) := hr.mono (by decide)
    have hrN : Room 3 (A.deeper (envOfC "law" (defScope s_law) s.heap.objs.size f cdv)) := hr.mono (by decide)
    refine ⟨_, (pss_cons (ps_set (i := 1) sc_law.nd rfl (Or.inl rfl) (pe_make M GI hrI (by rfl) gP b0 v0 pass0 (pa_cons pe_str (pa_cons pe_int pa_nil))))
      (pss_cons (ps_if (pt_cmpR op_ne (pe_callB (call_repr hg hu) (by rfl) T.n_repr (by decide +kernel) (pa_cons (pe_f c_law_fields_of hr (by decide) (by rfl) (pa_cons (pv 1) pa_nil)) pa_nil)) (pe_callB (call_repr hg hu) (by rfl) T.n_repr (by decide +kernel) (pa_cons (pe_lst (pa_cons pe_str (pa_cons pe_int (pa_cons pe_int (pa_cons (pe_tup pa_nil) (pa_cons pe_non (pa_cons pe_bl (pa_cons (pe_tup (pa_cons pe_str pa_nil)) pa_nil)))))))) pa_nil)) (nomark _)) (pss_one (ps_ret pe_bl)) pss_nil)
      (pss_cons (ps_if (PW.pt (pw_or (pt_cmpR op_ne (pe_callB (call_repr hg hu) (by rfl) T.n_repr (by decide +kernel) (pa_cons (pe_pr pr_pauses hr (by decide) (pe_makeK M GI hrI (by rfl) gP bT pass0 (pa_cons pe_str (pa_cons pe_int pa_nil)) (pk_cons pe_int pk_nil))) pa_nil)) pe_str (nomark _)) (pw_or1 (pt_cmpR (op_neO GE OC bE pass0 hrN) (pv 1) (pe_makeK M GI hrI (by rfl) gP bP pass0 (pa_cons pe_str (pa_cons pe_int pa_nil)) (pk_cons (pe_tup pa_nil) pk_nil)) (nomark _))))) (pss_one (ps_ret pe_bl)) pss_nil)
      (pss_cons (ps_for PassesOwn.never rfl (pi_range1 (by rfl) T.n_range (pa_cons (pe_callB (call_max2 rfl) (by rfl) T.n_max (by decide +kernel) (pa_cons pe_int (pa_cons (pe_callB (call_min2 rfl) (by rfl) T.n_min (by decide +kernel) (pa_cons (pe_callB call_len_seq (by rfl) T.n_len (by decide +kernel) (pa_cons (pv 0) pa_nil)) (pa_cons pe_int pa_nil))) pa_nil))) pa_nil)) (pg_name (i := 2) sc_law.nd rfl (Or.inl rfl)) (pss_cons (ps_set (i := 3) sc_law.nd rfl (Or.inl rfl) (pe_f c_law_pool hr (by decide) (by rfl) (pa_cons (pv 0) (pa_cons (pv 2) pa_nil))))
      (pss_cons (ps_par (i := 4) (j := 5) (by rfl) sc_law.nd rfl rfl (by decide) rfl rfl (pa_cons (pe_f c_law_drawn hr (by decide) (by rfl) (pa_cons (pv 3) pa_nil)) (pa_cons (pe_f c_law_drawn hr (by decide) (by rfl) (pa_cons (pv 3) pa_nil)) pa_nil)) (by rfl))
      (pss_cons (ps_set (i := 6) sc_law.nd rfl (Or.inl rfl) (pe_f c_law_built hr (by decide) (by rfl) (pa_cons (pv 4) pa_nil)))
      (pss_cons (ps_if (PW.pt (pw_or (pt_cmpR op_ne (pe_callB (call_repr hg hu) (by rfl) T.n_repr (by decide +kernel) (pa_cons (pe_f c_law_fields_of hr (by decide) (by rfl) (pa_cons (pv 6) pa_nil)) pa_nil)) (pe_callB (call_repr hg hu) (by rfl) T.n_repr (by decide +kernel) (pa_cons (pv 4) pa_nil)) (nomark _)) (pw_or1 (pt_cmpR (op_neO GE OC bE pass0 hrN) (pv 6) (pe_f c_law_built hr (by decide) (by rfl) (pa_cons (pv 4) pa_nil)) (nomark _))))) (pss_one (ps_ret pe_bl)) pss_nil)
      (pss_cons (ps_if (pt_cmpR op_ne (pe_cmpR (op_eqO GE OC bE pass0 hrE) (pv 6) (pe_f c_law_built hr (by decide) (by rfl) (pa_cons (pv 5) pa_nil)) (nomark _)) (pe_cmpR (op_eqD hr.units) (pv 4) (pv 5) (nomark _)) (nomark _)) (pss_one (ps_ret pe_bl)) pss_nil)
      (pss_cons (ps_for PassesOwn.never rfl (pi_list (pe_lst (pa_cons (pe_tup (pa_cons pe_int (pa_cons pe_str pa_nil))) (pa_cons (pe_tup (pa_cons pe_int (pa_cons (pe_op op_add (pe_op op_mod (pe_ix ix_list (pv 4) pe_int (fun _ _ => rfl)) pe_int) pe_int) pa_nil))) (pa_cons (pe_tup (pa_cons pe_int (pa_cons (pe_not (pe_ix ix_list (pv 4) pe_int (fun _ _ => rfl))) pa_nil))) (pa_cons (pe_tup (pa_cons pe_int (pa_cons (pe_tup (pa_cons pe_str (pa_cons pe_int pa_nil))) pa_nil))) pa_nil)))))) (pg_tup rfl (pgs_cons (pg_name (i := 7) sc_law.nd rfl (Or.inl rfl)) (pgs_cons (pg_name (i := 8) sc_law.nd rfl (Or.inl rfl)) pgs_nil))) (pss_cons (ps_set (i := 9) sc_law.nd rfl (Or.inl rfl) (pe_op op_cat (pe_op op_cat (pe_slice sl_list (pv 4) po_none (po_some (pv 7))) (pe_lst (pa_cons (pv 8) pa_nil))) (pe_slice sl_list (pv 4) (po_some (pe_op op_add (pv 7) pe_int)) po_none)))
      (pss_one (ps_if (pt_cmpR op_ne (pe_cmpR (op_eqO GE OC bE pass0 hrE) (pe_f c_law_built hr (by decide) (by rfl) (pa_cons (pv 9) pa_nil)) (pv 6) (nomark _)) (pe_cmpR (op_eqD hr.units) (pv 9) (pv 4) (nomark _)) (nomark _)) (pss_one (ps_ret pe_bl)) pss_nil))))
      (pss_one (ps_if (PW.pt (pw_or (pt_cmpR (op_eqO GE OC bE pass0 hrE) (pv 6) pe_int (nomark _)) (pw_or (pt_cmpR (op_eqO GE OC bE pass0 hrE) (pv 6) (pv 4) (nomark _)) (pw_or1 (pt_not (pt_cmpR (op_neO GE OC bE pass0 hrN) (pv 6) pe_non (nomark _))))))) (pss_one (ps_ret pe_bl)) pss_nil)))))))))
      (pss_one (ps_ret pe_bl)))))), ?_⟩
    walk_at "rd"
    intro x dx nx nd ne
    refine ⟨x, dx, q0, .non, go, rfl, ok0, upd_same, tgo _, .inl ⟨rfl, fun _ => rfl⟩, fun H1 pl1 fr1 => ⟨rfl, ?_⟩⟩
    have S1 : Same H H1 := same_made nx nd fr1
    have pl := pl1
    obtain ⟨dx1, pa1, ga1, h1, u1⟩ := pl1
    walk_at "rd"
    refine ⟨x, dx1, q0, pa1, ga1, rfl, h1, fun r1 H2 _ S2 hr1 => ?_⟩
    walk_at "rd"
    refine repr_go (.lst (SqL.of hr1) (dp_pol (u1.ext S2))) (good_pol ok0).list (by decide) (by decide) ?_
    walk_at "rd"
    refine tup_go ?hl fun t1 H3 _ S3 ht1 => ?_
    case hl => exact Nat.le_of_ble_eq_true rfl
    walk_at "rd"
    refine tup_go ?hl fun t2 H4 _ S4 ht2 => ?_
    case hl => exact Nat.le_of_ble_eq_true rfl
    walk_at "rd"
    refine lst_go ?hl fun l1 H5 _ S5 hl1 => ?_
    case hl => exact Nat.le_of_ble_eq_true rfl
    walk_at "rd"
    have u5 : Tups K H5 q0 t1 t2 := ⟨TupV.ext S5 (TupV.ext S4 ⟨.tup ht1, SqT.of ht1⟩), TupV.ext S5 ⟨.tup ht2, SqT.of ht2⟩⟩
    refine repr_go (.lst (SqL.of hl1) (dp_pol u5)) (good_pol ok0).list (by decide) (by decide) ?_
    walk_at "rd"
    rw [decide_eq_true (Eq.refl _)]
    show (if false = true then _ else _)
    walk_at "rd"
    refine ⟨rfl, rfl, fun x2 dx2 nx2 nd2 ne2 => ?_⟩
    refine ⟨x2, dx2, q3, .non, go, rfl, ok3, upd_same, tgo _, .inl ⟨rfl, fun _ => rfl⟩, fun H6 pl6 fr6 => ⟨rfl, ?_⟩⟩
    have S6 : Same H5 H6 := same_made nx2 nd2 fr6
    obtain ⟨dx6, pa6, ga6, h6, u6⟩ := pl6
    walk_at "rd"
    refine ⟨x2, dx6, _, rfl, h6, x2, dx6, _, _, rfl, h6, lk4, ?_⟩
    walk_at "rd"
    refine repr_go (.tup u6.p.sq (dp_ints q3.ps)) (good_ints (by decide)).tuple (by decide) (by decide) ?_
    walk_at "rd"
    have e6 : decide (V.str (PyData.tuple (q3.ps.map PyData.int)).shown = V.str "(0, 0)") = true := decide_eq_true (congrArg V.str shown0)
    rw [e6]
    show (if false = true then _ else _)
    walk_at "rd"
    refine tup_go ?hl fun t7 H7 _ S7 ht7 => ?_
    case hl => exact Nat.le_of_ble_eq_true rfl
    walk_at "rd"
    refine ⟨rfl, rfl, fun x3 dx3 nx3 nd3 ne3 => ?_⟩
    refine ⟨x3, dx3, q0, .ref t7, go, rfl, ok0, upd_same, tgo _, .inr ⟨rfl, t7, rfl, TupV.ext (same_ins nx3 nd3) ⟨.tup ht7, SqT.of ht7⟩⟩, fun H8 pl8 fr8 => ⟨rfl, ?_⟩⟩
    have S8 : Same H7 H8 := same_made nx3 nd3 fr8
    have S18 : Same H1 H8 := Same.trans S2 (Same.trans S3 (Same.trans S4 (Same.trans S5 (Same.trans S6 (Same.trans S7 S8)))))
    walk_at "rd"
    have pl8x := pl8
    obtain ⟨dx8, pa8, ga8, h8, u8⟩ := pl8x
    have sh0 : SeqAt.shaped (.tuple q0.ds) = true := (good_pol ok0).tuple.shaped (by decide)
    have rf0 : PyData.eqv (.tuple q0.ds) (.tuple q0.ds) = true := SeqAt.eqv_refl _ (good_pol ok0).tuple.cl
    refine ⟨x, dx1, _, _, rfl, S18 _ _ h1, .ins h8, nf_ins, x, .ref x3, q0, rfl, PolAt.ext S18 pl, .inr ⟨x3, q0, rfl, pl8, sh0, sh0, fun H9 S9 => ⟨_, rfl, ?_⟩⟩⟩
    rw [rf0]
    walk_at "rd"
    show (if false = true then _ else _)
    walk_at "rd"
    have SH : Same H H9 := Same.trans S1 (Same.trans S18 S9)
    clear S18 S9 S8 S7 S6 S5 S4 S3 S2 S1 fr1 fr6 fr8 h8 u8 h6 u6 u5 hl1 ht1 ht2 hr1 ht7 h1 u1 pl8 pl e6
    -- the loop
    unfold tFor iRng1
    walk_at "rd"
    refine ⟨a, _, rfl, .inl (SH.seq hS), ?_⟩
    walk_at "rd"
    refine ⟨_, _, rfl, ?_⟩
    walk_at "rd"
    refine ⟨_, _, rfl, ?_⟩
    walk_at "rd"
    obtain ⟨j, ej, j0, j8⟩ : ∃ j : Int, (if (if (8 : Int) < ((ns.map V.int).length : Int) then 8 else ((ns.map V.int).length : Int)) > 1 then (if (8 : Int) < ((ns.map V.int).length : Int) then 8 else ((ns.map V.int).length : Int)) else 1) = j ∧ 0 ≤ j ∧ j ≤ 8 := by
      refine ⟨_, rfl, ?_, ?_⟩ <;> (split <;> split <;> omega)
    rw [ej]
    refine ⟨j, rfl, by omega, by omega, ?_⟩
    refine for_range (lo := 0) (n := j.toNat) (fun i σ H' => ∃ o2 o3 o4 o5 o6 o7 o8 o9 : Option V, σ = [some (.ref a), some (.ref x), o2, o3, o4, o5, o6, o7, o8, o9] ∧ Same H H') ⟨_, _, _, _, _, _, _, _, rfl, SH⟩ ?_ ?_
    · rintro i σ H1 hi ⟨o2, o3, o4, o5, o6, o7, o8, o9, rfl, Si⟩
      walk_at "rd"
      refine ⟨a, 0 + (i : Int), ns, rfl, Si.seq hS, by omega, by omega, fun p H2 p0 S2 pl2 => ?_⟩
      walk_at "rd"
      refine g_par ?_
      walk_at "rd"
      refine ⟨p, rfl, pl2, fun r1 q1 pa1 ga1 H3 ok1 d3 u3 => ?_⟩
      walk_at "rd"
      refine ⟨p, rfl, d3.pl, fun r2 q2 pa2 ga2 H4 ok2 d4 u4 => ?_⟩
      walk_at "rd"
      refine ⟨_, _, rfl, ?_⟩
      have row1 : H4 r1 = some (.lst (q1.vs pa1 ga1)) := d4.bx _ _ d3.rp d3.row
      have row2 := d4.row
      have t1 : Tups K H4 q1 pa1 ga1 := ⟨TupV.sx d3.pl d4.bx u3.p, TupV.sx d3.pl d4.bx u3.g⟩
      have SH4 : Same H H4 := fun b o e => by
        have e1 := Si b o e
        have hb : b ≠ p := fun z => by rw [z, p0] at e1; cases e1
        exact d4.bx b o hb (d3.bx b o hb (S2 b o e1))
      clear d3 d4 u3 S2 pl2 Si
      have g1 := good_pol ok1
      have g2 := good_pol ok2
      have shT : SeqAt.shaped (.tuple q1.ds) = true := g1.tuple.shaped (by decide)
      have shL : SeqAt.shaped (.list q1.ds) = true := g1.list.shaped (by decide)
      have rf1 : PyData.eqv (.tuple q1.ds) (.tuple q1.ds) = true := SeqAt.eqv_refl _ g1.tuple.cl
      walk_at "rd"
      refine ⟨r1, q1, pa1, ga1, rfl, ok1, row1, t1, fun a1 H5 _ S5 po => ?_⟩
      have po' := po
      obtain ⟨dx5, pb, gb, h5, u5⟩ := po'
      walk_at "rd"
      refine ⟨a1, dx5, q1, pb, gb, rfl, h5, fun f1 H6 _ S6 hf1 => ?_⟩
      walk_at "rd"
      refine repr_go (.lst (SqL.of hf1) (dp_pol (u5.ext S6))) g1.list (by decide) (by decide) ?_
      walk_at "rd"
      refine repr_go (.lst (SqL.of (S6 _ _ (S5 _ _ row1))) (dp_pol (t1.ext (Same.trans S5 S6)))) g1.list (by decide) (by decide) ?_
      walk_at "rd"
      rw [decide_eq_true (Eq.refl _)]
      show (if false = true then _ else _)
      walk_at "rd"
      have S46 := Same.trans S5 S6
      refine ⟨r1, q1, pa1, ga1, rfl, ok1, S46 _ _ row1, t1.ext S46, fun a2 H7 _ S7 po2 => ?_⟩
      have S47 := Same.trans S46 S7
      walk_at "rd"
      have po2' := po2
      obtain ⟨dx7, pc, gc, h7, u7⟩ := po2'
      refine ⟨a1, dx5, _, _, rfl, S7 _ _ (S6 _ _ h5), .ins h7, nf_ins, a1, .ref a2, q1, rfl, PolAt.ext (Same.trans S6 S7) po, .inr ⟨a2, q1, rfl, po2, shT, shT, fun H8 S8 => ⟨_, rfl, ?_⟩⟩⟩
      rw [rf1]
      walk_at "rd"
      show (if false = true then _ else _)
      walk_at "rd"
      have S48 := Same.trans S47 S8
      have S58 : Same H5 H8 := Same.trans S6 (Same.trans S7 S8)
      clear S47 S46 S7 S8 S6 h7 u7 po2 hf1
      have g2' := g2
      have shT2 : SeqAt.shaped (.tuple q2.ds) = true := g2.tuple.shaped (by decide)
      have shL2 : SeqAt.shaped (.list q2.ds) = true := g2.list.shaped (by decide)
      refine ⟨r2, q2, pa2, ga2, rfl, ok2, S48 _ _ row2, u4.ext S48, fun a3 H9 _ S9 po3 => ?_⟩
      have po3' := po3
      obtain ⟨dx9, pd, gd, h9, u9⟩ := po3'
      walk_at "rd"
      refine ⟨a1, dx5, _, _, rfl, S9 _ _ (S58 _ _ h5), .ins h9, nf_ins, a1, .ref a3, q1, rfl, PolAt.ext (Same.trans S58 S9) po, .inr ⟨a3, q2, rfl, po3, shT, shT2, fun H10 S10 => ⟨_, rfl, ?_⟩⟩⟩
      have S410 : Same H4 H10 := Same.trans S48 (Same.trans S9 S10)
      walk_at "rd"
      refine g_eqD (.lst (SqL.of (S410 _ _ row1)) (dp_pol (t1.ext S410))) (.lst (SqL.of (S410 _ _ row2)) (dp_pol (u4.ext S410))) shL shL2 ?_
      walk_at "rd"
      rw [cmp_same q1.ds q2.ds]
      show (if false = true then _ else _)
      walk_at "rd"
      have po10 : PolAt K C H10 a1 q1 := PolAt.ext (Same.trans S58 (Same.trans S9 S10)) po
      have row10 := S410 _ _ row1
      have t10 := t1.ext S410
      have SH10 : Same H H10 := Same.trans SH4 S410
      clear S48 S58 S9 S10 po3 h9 u9 S5 po h5 u5 row1 row2 t1 u4 S410 SH4 shT2 shL2 g2' g2
      -- the four changes
      unfold iList
      walk_at "rd"
      refine tup_go ?hl fun e1 H11 _ S11 he1 => ?_
      case hl => exact Nat.le_of_ble_eq_true rfl
      walk_at "rd"
      refine g_ixL (SqL.of (S11 _ _ row10)) (v := .int q1.l) (atI_nat (j := 1) rfl) ?_
      walk_at "rd"
      refine g_I (show (0 : Int) < 20 by decide) ?_
      walk_at "rd"
      refine tup_go ?hl fun e2 H12 _ S12 he2 => ?_
      case hl => exact Nat.le_of_ble_eq_true rfl
      walk_at "rd"
      refine g_ixL (SqL.of (S12 _ _ (S11 _ _ row10))) (v := .bl q1.b) (atI_nat (j := 5) rfl) ?_
      walk_at "rd"
      refine tup_go ?hl fun e3 H13 _ S13 he3 => ?_
      case hl => exact Nat.le_of_ble_eq_true rfl
      walk_at "rd"
      refine tup_go ?hl fun g6 H14 _ S14 hg6 => ?_
      case hl => exact Nat.le_of_ble_eq_true rfl
      walk_at "rd"
      refine tup_go ?hl fun e4 H15 _ S15 he4 => ?_
      case hl => exact Nat.le_of_ble_eq_true rfl
      walk_at "rd"
      refine lst_go ?hl fun L H16 _ S16 hL => ?_
      case hl => exact Nat.le_of_ble_eq_true rfl
      walk_at "rd"
      have S1016 : Same H10 H16 := Same.trans S11 (Same.trans S12 (Same.trans S13 (Same.trans S14 (Same.trans S15 S16))))
      have f1 := S16 _ _ (S15 _ _ (S14 _ _ (S13 _ _ (S12 _ _ he1))))
      have f2 := S16 _ _ (S15 _ _ (S14 _ _ (S13 _ _ he2)))
      have f3 := S16 _ _ (S15 _ _ (S14 _ _ he3))
      have f4 := S16 _ _ he4
      have f6 : TupV K H16 g6 (En.stop 20).vs := TupV.ext S16 (TupV.ext S15 ⟨.tup hg6, SqT.of hg6⟩)
      have po16 := PolAt.ext S1016 po10
      have row16 := S1016 _ _ row10
      have t16 := t10.ext S1016
      have SH16 := Same.trans SH10 S1016
      clear S16 S15 S14 S13 S12 S11 he1 he2 he3 he4 hg6 S1016 po10 row10 t10 SH10
      refine ⟨L, rfl, ⟨_, SqL.of hL⟩, ?_⟩
      refine for_list (K := K) (a := L) (xs := [.ref e1, .ref e2, .ref e3, .ref e4]) (fun i' σ H' => ∃ o7 o8 o9 : Option V, σ = [some (.ref a), some (.ref x), some (.int (0 + (i : Int))), some (.ref p), some (.ref r1), some (.ref r2), some (.ref a1), o7, o8, o9] ∧ Same H16 H') ⟨_, _, _, rfl, Same.refl _⟩ (fun i' σ H' _ ⟨_, _, _, _, e⟩ => SqL.of (e _ _ hL)) ?_ ?_
      · rintro i' y σ H17 hy ⟨o7, o8, o9, rfl, S17⟩
        match i', hy with
        | 0, hy =>
          cases hy
          have hk : H17 e1 = some (.tup [.int 0, .str "b"]) := S17 _ _ f1
          have ok' : Pol.ok { q1 with z := "b" } := ⟨(show isNm "b" = true by decide +kernel), (show Str.length "b" ≤ 1000 by decide +kernel), ok1.l1, ok1.l2, ok1.t1, ok1.t2, ok1.e1, ok1.e0, ok1.g1⟩
          have t' : Tups K H17 { q1 with z := "b" } pa1 ga1 := ⟨TupV.ext S17 t16.p, TupV.ext S17 t16.g⟩
          have gq := good_pol ok'
          have sT' := gq.tuple.shaped (by decide)
          have sL' := gq.list.shaped (by decide)
          refine ⟨_, _, rfl, SqT.of hk, rfl, ?_⟩
          refine ⟨_, _, rfl, ?_⟩
          walk_at "rd"
          refine ⟨_, _, rfl, ?_⟩
          walk_at "rd"
          refine ⟨rfl, ?_⟩
          walk_at "rd"
          refine g_sl ?_
          walk_at "rd"
          refine g_nopart (g_part ?_)
          walk_at "rd"
          refine ⟨_, rfl, ?_⟩
          refine sl_go (SqL.of (S17 _ _ row16)) fun s1 H18 S18 hs1 => ?_
          walk_at "rd"
          refine lst_go ?hl fun s2 H19 _ S19 hs2 => ?_
          case hl => exact Nat.le_of_ble_eq_true rfl
          walk_at "rd"
          refine cat_go (S19 _ _ hs1) hs2 (Nat.le_of_ble_eq_true rfl) fun s3 H20 S20 hs3 => ?_
          walk_at "rd"
          refine g_sl ?_
          walk_at "rd"
          refine g_part ?_
          walk_at "rd"
          refine ⟨_, rfl, g_nopart ?_⟩
          refine sl_go (SqL.of (S20 _ _ (S19 _ _ (S18 _ _ (S17 _ _ row16))))) fun s4 H21 S21 hs4 => ?_
          walk_at "rd"
          refine cat_go (S21 _ _ hs3) hs4 (Nat.le_of_ble_eq_true rfl) fun s5 H22 S22 hs5 => ?_
          have S1722 : Same H17 H22 := Same.trans S18 (Same.trans S19 (Same.trans S20 (Same.trans S21 S22)))
          walk_at "rd"
          refine ⟨s5, _, pa1, _, rfl, ok', hs5, t'.ext S1722, fun a9 H23 _ S23 po9 => ?_⟩
          have po9' := po9
          obtain ⟨dx9, pf, gf, h9, u9⟩ := po9'
          walk_at "rd"
          have S1723 := Same.trans S1722 S23
          have po23 := PolAt.ext S1723 (PolAt.ext S17 po16)
          have po23' := po23
          obtain ⟨dy9, pg, gg, h23, u23⟩ := po23'
          refine ⟨a9, dx9, _, _, rfl, h9, .ins h23, nf_ins, a9, .ref a1, _, rfl, po9, .inr ⟨a1, q1, rfl, po23, sT', shT, fun H24 S24 => ⟨_, rfl, ?_⟩⟩⟩
          walk_at "rd"
          have S1724 := Same.trans S1723 S24
          have dpn := dp_pol (t'.ext S1724)
          refine g_eqD (.lst (SqL.of (S24 _ _ (S23 _ _ hs5))) dpn) (.lst (SqL.of (S1724 _ _ (S17 _ _ row16))) (dp_pol (t16.ext (Same.trans S17 S1724)))) sL' shL ?_
          walk_at "rd"
          rw [cmp_same _ q1.ds]
          show (if false = true then _ else _)
          walk_at "rd"
          exact ⟨_, _, _, rfl, Same.trans S17 S1724⟩
        | 1, hy =>
          cases hy
          have hk : H17 e2 = some (.tup [.int 1, .int (q1.l % 20 + 1)]) := S17 _ _ f2
          have m0 := Int.emod_nonneg q1.l (show (20 : Int) ≠ 0 by decide)
          have m1 := Int.emod_lt_of_pos q1.l (show (0 : Int) < 20 by decide)
          have ok' : Pol.ok { q1 with l := q1.l % 20 + 1 } := ⟨ok1.nm, ok1.nl, by show 1 ≤ q1.l % 20 + 1; omega, by show q1.l % 20 + 1 ≤ 20; omega, ok1.t1, ok1.t2, ok1.e1, ok1.e0, ok1.g1⟩
          have t' : Tups K H17 { q1 with l := q1.l % 20 + 1 } pa1 ga1 := ⟨TupV.ext S17 t16.p, TupV.ext S17 t16.g⟩
          have gq := good_pol ok'
          have sT' := gq.tuple.shaped (by decide)
          have sL' := gq.list.shaped (by decide)
          refine ⟨_, _, rfl, SqT.of hk, rfl, ?_⟩
          refine ⟨_, _, rfl, ?_⟩
          walk_at "rd"
          refine ⟨_, _, rfl, ?_⟩
          walk_at "rd"
          refine ⟨rfl, ?_⟩
          walk_at "rd"
          refine g_sl ?_
          walk_at "rd"
          refine g_nopart (g_part ?_)
          walk_at "rd"
          refine ⟨_, rfl, ?_⟩
          refine sl_go (SqL.of (S17 _ _ row16)) fun s1 H18 S18 hs1 => ?_
          walk_at "rd"
          refine lst_go ?hl fun s2 H19 _ S19 hs2 => ?_
          case hl => exact Nat.le_of_ble_eq_true rfl
          walk_at "rd"
          refine cat_go (S19 _ _ hs1) hs2 (Nat.le_of_ble_eq_true rfl) fun s3 H20 S20 hs3 => ?_
          walk_at "rd"
          refine g_sl ?_
          walk_at "rd"
          refine g_part ?_
          walk_at "rd"
          refine ⟨_, rfl, g_nopart ?_⟩
          refine sl_go (SqL.of (S20 _ _ (S19 _ _ (S18 _ _ (S17 _ _ row16))))) fun s4 H21 S21 hs4 => ?_
          walk_at "rd"
          refine cat_go (S21 _ _ hs3) hs4 (Nat.le_of_ble_eq_true rfl) fun s5 H22 S22 hs5 => ?_
          have S1722 : Same H17 H22 := Same.trans S18 (Same.trans S19 (Same.trans S20 (Same.trans S21 S22)))
          walk_at "rd"
          refine ⟨s5, _, pa1, _, rfl, ok', hs5, t'.ext S1722, fun a9 H23 _ S23 po9 => ?_⟩
          have po9' := po9
          obtain ⟨dx9, pf, gf, h9, u9⟩ := po9'
          walk_at "rd"
          have S1723 := Same.trans S1722 S23
          have po23 := PolAt.ext S1723 (PolAt.ext S17 po16)
          have po23' := po23
          obtain ⟨dy9, pg, gg, h23, u23⟩ := po23'
          refine ⟨a9, dx9, _, _, rfl, h9, .ins h23, nf_ins, a9, .ref a1, _, rfl, po9, .inr ⟨a1, q1, rfl, po23, sT', shT, fun H24 S24 => ⟨_, rfl, ?_⟩⟩⟩
          walk_at "rd"
          have S1724 := Same.trans S1723 S24
          have dpn := dp_pol (t'.ext S1724)
          refine g_eqD (.lst (SqL.of (S24 _ _ (S23 _ _ hs5))) dpn) (.lst (SqL.of (S1724 _ _ (S17 _ _ row16))) (dp_pol (t16.ext (Same.trans S17 S1724)))) sL' shL ?_
          walk_at "rd"
          rw [cmp_same _ q1.ds]
          show (if false = true then _ else _)
          walk_at "rd"
          exact ⟨_, _, _, rfl, Same.trans S17 S1724⟩
        | 2, hy =>
          cases hy
          have hk : H17 e3 = some (.tup [.int 5, .bl (!q1.b)]) := S17 _ _ f3
          have ok' : Pol.ok { q1 with b := !q1.b } := ⟨ok1.nm, ok1.nl, ok1.l1, ok1.l2, ok1.t1, ok1.t2, ok1.e1, ok1.e0, ok1.g1⟩
          have t' : Tups K H17 { q1 with b := !q1.b } pa1 ga1 := ⟨TupV.ext S17 t16.p, TupV.ext S17 t16.g⟩
          have gq := good_pol ok'
          have sT' := gq.tuple.shaped (by decide)
          have sL' := gq.list.shaped (by decide)
          refine ⟨_, _, rfl, SqT.of hk, rfl, ?_⟩
          refine ⟨_, _, rfl, ?_⟩
          walk_at "rd"
          refine ⟨_, _, rfl, ?_⟩
          walk_at "rd"
          refine ⟨rfl, ?_⟩
          walk_at "rd"
          refine g_sl ?_
          walk_at "rd"
          refine g_nopart (g_part ?_)
          walk_at "rd"
          refine ⟨_, rfl, ?_⟩
          refine sl_go (SqL.of (S17 _ _ row16)) fun s1 H18 S18 hs1 => ?_
          walk_at "rd"
          refine lst_go ?hl fun s2 H19 _ S19 hs2 => ?_
          case hl => exact Nat.le_of_ble_eq_true rfl
          walk_at "rd"
          refine cat_go (S19 _ _ hs1) hs2 (Nat.le_of_ble_eq_true rfl) fun s3 H20 S20 hs3 => ?_
          walk_at "rd"
          refine g_sl ?_
          walk_at "rd"
          refine g_part ?_
          walk_at "rd"
          refine ⟨_, rfl, g_nopart ?_⟩
          refine sl_go (SqL.of (S20 _ _ (S19 _ _ (S18 _ _ (S17 _ _ row16))))) fun s4 H21 S21 hs4 => ?_
          walk_at "rd"
          refine cat_go (S21 _ _ hs3) hs4 (Nat.le_of_ble_eq_true rfl) fun s5 H22 S22 hs5 => ?_
          have S1722 : Same H17 H22 := Same.trans S18 (Same.trans S19 (Same.trans S20 (Same.trans S21 S22)))
          walk_at "rd"
          refine ⟨s5, _, pa1, _, rfl, ok', hs5, t'.ext S1722, fun a9 H23 _ S23 po9 => ?_⟩
          have po9' := po9
          obtain ⟨dx9, pf, gf, h9, u9⟩ := po9'
          walk_at "rd"
          have S1723 := Same.trans S1722 S23
          have po23 := PolAt.ext S1723 (PolAt.ext S17 po16)
          have po23' := po23
          obtain ⟨dy9, pg, gg, h23, u23⟩ := po23'
          refine ⟨a9, dx9, _, _, rfl, h9, .ins h23, nf_ins, a9, .ref a1, _, rfl, po9, .inr ⟨a1, q1, rfl, po23, sT', shT, fun H24 S24 => ⟨_, rfl, ?_⟩⟩⟩
          walk_at "rd"
          have S1724 := Same.trans S1723 S24
          have dpn := dp_pol (t'.ext S1724)
          refine g_eqD (.lst (SqL.of (S24 _ _ (S23 _ _ hs5))) dpn) (.lst (SqL.of (S1724 _ _ (S17 _ _ row16))) (dp_pol (t16.ext (Same.trans S17 S1724)))) sL' shL ?_
          walk_at "rd"
          rw [cmp_same _ q1.ds]
          show (if false = true then _ else _)
          walk_at "rd"
          exact ⟨_, _, _, rfl, Same.trans S17 S1724⟩
        | 3, hy =>
          cases hy
          have hk : H17 e4 = some (.tup [.int 6, .ref g6]) := S17 _ _ f4
          have ok' : Pol.ok { q1 with g := .stop 20 } := ⟨ok1.nm, ok1.nl, ok1.l1, ok1.l2, ok1.t1, ok1.t2, ok1.e1, ok1.e0, ⟨by decide, by decide⟩⟩
          have t' : Tups K H17 { q1 with g := .stop 20 } pa1 g6 := ⟨TupV.ext S17 t16.p, TupV.ext S17 f6⟩
          have gq := good_pol ok'
          have sT' := gq.tuple.shaped (by decide)
          have sL' := gq.list.shaped (by decide)
          refine ⟨_, _, rfl, SqT.of hk, rfl, ?_⟩
          refine ⟨_, _, rfl, ?_⟩
          walk_at "rd"
          refine ⟨_, _, rfl, ?_⟩
          walk_at "rd"
          refine ⟨rfl, ?_⟩
          walk_at "rd"
          refine g_sl ?_
          walk_at "rd"
          refine g_nopart (g_part ?_)
          walk_at "rd"
          refine ⟨_, rfl, ?_⟩
          refine sl_go (SqL.of (S17 _ _ row16)) fun s1 H18 S18 hs1 => ?_
          walk_at "rd"
          refine lst_go ?hl fun s2 H19 _ S19 hs2 => ?_
          case hl => exact Nat.le_of_ble_eq_true rfl
          walk_at "rd"
          refine cat_go (S19 _ _ hs1) hs2 (Nat.le_of_ble_eq_true rfl) fun s3 H20 S20 hs3 => ?_
          walk_at "rd"
          refine g_sl ?_
          walk_at "rd"
          refine g_part ?_
          walk_at "rd"
          refine ⟨_, rfl, g_nopart ?_⟩
          refine sl_go (SqL.of (S20 _ _ (S19 _ _ (S18 _ _ (S17 _ _ row16))))) fun s4 H21 S21 hs4 => ?_
          walk_at "rd"
          refine cat_go (S21 _ _ hs3) hs4 (Nat.le_of_ble_eq_true rfl) fun s5 H22 S22 hs5 => ?_
          have S1722 : Same H17 H22 := Same.trans S18 (Same.trans S19 (Same.trans S20 (Same.trans S21 S22)))
          walk_at "rd"
          refine ⟨s5, _, pa1, _, rfl, ok', hs5, t'.ext S1722, fun a9 H23 _ S23 po9 => ?_⟩
          have po9' := po9
          obtain ⟨dx9, pf, gf, h9, u9⟩ := po9'
          walk_at "rd"
          have S1723 := Same.trans S1722 S23
          have po23 := PolAt.ext S1723 (PolAt.ext S17 po16)
          have po23' := po23
          obtain ⟨dy9, pg, gg, h23, u23⟩ := po23'
          refine ⟨a9, dx9, _, _, rfl, h9, .ins h23, nf_ins, a9, .ref a1, _, rfl, po9, .inr ⟨a1, q1, rfl, po23, sT', shT, fun H24 S24 => ⟨_, rfl, ?_⟩⟩⟩
          walk_at "rd"
          have S1724 := Same.trans S1723 S24
          have dpn := dp_pol (t'.ext S1724)
          refine g_eqD (.lst (SqL.of (S24 _ _ (S23 _ _ hs5))) dpn) (.lst (SqL.of (S1724 _ _ (S17 _ _ row16))) (dp_pol (t16.ext (Same.trans S17 S1724)))) sL' shL ?_
          walk_at "rd"
          rw [cmp_same _ q1.ds]
          show (if false = true then _ else _)
          walk_at "rd"
          exact ⟨_, _, _, rfl, Same.trans S17 S1724⟩
        | n + 4, hy => simp at hy
      · rintro σ H17 ⟨o7, o8, o9, rfl, S17⟩
        have po17 := PolAt.ext S17 po16
        have po17' := po17
        obtain ⟨dx17, pe, ge, h17, u17⟩ := po17'
        walk_at "rd"
        refine ⟨a1, dx17, _, _, rfl, h17, .int 5, nf_int, a1, .int 5, q1, rfl, po17, .inl ⟨_, .int 5, _, rfl, ?_⟩⟩
        walk_at "rd"
        show (if false = true then _ else _)
        walk_at "rd"
        refine ⟨a1, dx17, _, _, rfl, h17, .lst (S17 _ _ row16), nf_list, a1, .ref r1, q1, rfl, po17, .inl ⟨_, .lst (S17 _ _ row16), _, rfl, ?_⟩⟩
        walk_at "rd"
        show (if false = true then _ else _)
        walk_at "rd"
        refine ⟨a1, dx17, _, _, rfl, h17, .non, nf_none, a1, .non, q1, rfl, po17, .inl ⟨_, .non, _, rfl, ?_⟩⟩
        walk_at "rd"
        show (if false = true then _ else _)
        walk_at "rd"
        exact ⟨_, _, _, _, _, _, _, _, rfl, Same.trans SH16 S17⟩
    · rintro σ H1 _
      walk_at "rd"
      exact k _
end
end K2

namespace K2
open PySem PySem.Spec PyProof.Rows L2 Mc
theorem kit_same {K : PySem.W.Frag} {C : Addr} : PySem.W.kitOne K (.ref C) (.ref C) = some true := if_pos (by simp)
theorem kit_off {K : PySem.W.Frag} {C : Addr} {n : String} {l : List Value} (hd : PySem.W.hasDictIn K C = true) (ty : PySem.W.typeIn K (.ref C) = some (.type "type")) (e : fastBuiltinMro n = some l) (hl : l.contains (.ref C) = false) : PySem.W.kitOne K (.type n) (.ref C) = some false := by
  obtain ⟨cd, hc, _⟩ := PySem.W.any_some hd
  have q : PySem.W.subIn K (.type n) (.ref C) = some false := by
    show (fastBuiltinMro n).map (·.contains (.ref C)) = some false
    rw [e, Option.map_some, hl]
  have a : (Value.type n == Value.ref C) = false := by simp
  show (if (Value.type n == Value.ref C) = true then some true else (if ((PySem.W.clsIn K C).isSome && PySem.W.typeIn K (.ref C) == some (.type "type")) = true then PySem.W.subIn K (.type n) (.ref C) else none)) = some false
  rw [a, if_neg Bool.false_ne_true, hc, ty, q]
  simp
theorem all_mk {l : PySem.W.OpenLaw} {w : World} {K : PySem.W.Frag} {h : Heap} {mg : Str → Option Value} {fa : Addr} {fg0 : Addr} {odg0 ang0 : Option Addr} {slg0 : Array (Option Value)} {ocg0 dcg0 pmg0 cdg0 ctg0 kVg0 : Value} {fg1 : Addr} {odg1 ang1 : Option Addr} {slg1 : Array (Option Value)} {ocg1 dcg1 pmg1 cdg1 ctg1 kVg1 : Value} {fg2 : Addr} {odg2 ang2 : Option Addr} {slg2 : Array (Option Value)} {ocg2 dcg2 pmg2 cdg2 ctg2 kVg2 : Value} {fg3 : Addr} {odg3 ang3 : Option Addr} {slg3 : Array (Option Value)} {ocg3 dcg3 pmg3 cdg3 ctg3 kVg3 : Value} {fg4 : Addr} {odg4 ang4 : Option Addr} {slg4 : Array (Option Value)} {ocg4 dcg4 pmg4 cdg4 ctg4 kVg4 : Value} {fg5 : Addr} {odg5 ang5 : Option Addr} {slg5 : Array (Option Value)} {ocg5 dcg5 pmg5 cdg5 ctg5 kVg5 : Value} {fg6 : Addr} {odg6 ang6 : Option Addr} {slg6 : Array (Option Value)} {ocg6 dcg6 pmg6 cdg6 ctg6 kVg6 : Value} {fg7 : Addr} {odg7 ang7 : Option Addr} {slg7 : Array (Option Value)} {ocg7 dcg7 pmg7 cdg7 ctg7 kVg7 : Value} {fg8 : Addr} {odg8 ang8 : Option Addr} {slg8 : Array (Option Value)} {ocg8 dcg8 pmg8 cdg8 ctg8 kVg8 : Value} {fg9 : Addr} {odg9 ang9 : Option Addr} {slg9 : Array (Option Value)} {ocg9 dcg9 pmg9 cdg9 ctg9 kVg9 : Value} {fg10 : Addr} {odg10 ang10 : Option Addr} {slg10 : Array (Option Value)} {ocg10 dcg10 pmg10 cdg10 ctg10 kVg10 : Value} {fg11 : Addr} {odg11 ang11 : Option Addr} {slg11 : Array (Option Value)} {ocg11 dcg11 pmg11 cdg11 ctg11 kVg11 : Value} {fg12 : Addr} {odg12 ang12 : Option Addr} {slg12 : Array (Option Value)} {ocg12 dcg12 pmg12 cdg12 ctg12 kVg12 : Value} {fg13 : Addr} {odg13 ang13 : Option Addr} {slg13 : Array (Option Value)} {ocg13 dcg13 pmg13 cdg13 ctg13 kVg13 : Value} {fL : Addr} {odL anL : Option Addr} {slL : Array (Option Value)} {ocL dcL pmL cdL ctL kVL : Value} {tL : Tok} {tML tMT : Tok} {C : Addr} {Dk : Addr} {fI : Addr} {odI anI : Option Addr} {slI : Array (Option Value)} {ocI dcI pmI cdI ctI : Value} {fE : Addr} {odE anE : Option Addr} {slE : Array (Option Value)} {ocE dcE pmE cdE ctE kVE : Value} {fS : Addr} {odS anS : Option Addr} {slS : Array (Option Value)} {ocS dcS pmS cdS ctS kVS : Value} {go : Addr} {tk1 tk2 : Tok} {gd : Option Addr} {gn : Nat} {gs : Array (Option Value)} {p_name : Addr} {r_name : List Value} {fpname : Addr} {odpname anpname : Option Addr} {slpname : Array (Option Value)} {ocpname dcpname pmpname cdpname ctpname kVpname : Value} {p_limit : Addr} {r_limit : List Value} {fplimit : Addr} {odplimit anplimit : Option Addr} {slplimit : Array (Option Value)} {ocplimit dcplimit pmplimit cdplimit ctplimit kVplimit : Value} {p_tries : Addr} {r_tries : List Value} {fptries : Addr} {odptries anptries : Option Addr} {slptries : Array (Option Value)} {ocptries dcptries pmptries cdptries ctptries kVptries : Value} {p_pauses : Addr} {r_pauses : List Value} {fppauses : Addr} {odppauses anppauses : Option Addr} {slppauses : Array (Option Value)} {ocppauses dcppauses pmppauses cdppauses ctppauses kVppauses : Value} {p_early : Addr} {r_early : List Value} {fpearly : Addr} {odpearly anpearly : Option Addr} {slpearly : Array (Option Value)} {ocpearly dcpearly pmpearly cdpearly ctpearly kVpearly : Value} {p_lossy : Addr} {r_lossy : List Value} {fplossy : Addr} {odplossy anplossy : Option Addr} {slplossy : Array (Option Value)} {ocplossy dcplossy pmplossy cdplossy ctplossy kVplossy : Value} {p_ending : Addr} {r_ending : List Value} {fpending : Addr} {odpending anpending : Option Addr} {slpending : Array (Option Value)} {ocpending dcpending pmpending cdpending ctpending kVpending : Value}
    (X : K.In h) (G : h.Ns mainGlobals mg) (hfa : mg "law" = some (.ref fa))
    (ag0 : PySem.W.nsIn K mainGlobals "is_integer" = some (some (.ref fg0)))
    (lg0 : K.lookup fg0 = some ⟨ocg0, odg0, .func (PySem.W.fnOf "is_integer" "is_integer" (defArgs s_is_integer) (defBody s_is_integer) (defScope s_is_integer) .none kVg0 dcg0 pmg0 ang0 cdg0 ctg0), slg0⟩)
    (cg0 : PySem.W.codeIn K cdg0 "is_integer" = true)
    (kg0 : PySem.W.keepIn K (.ref fg0) = true)
    (ag1 : PySem.W.nsIn K mainGlobals "is_between" = some (some (.ref fg1)))
    (lg1 : K.lookup fg1 = some ⟨ocg1, odg1, .func (PySem.W.fnOf "is_between" "is_between" (defArgs s_is_between) (defBody s_is_between) (defScope s_is_between) .none kVg1 dcg1 pmg1 ang1 cdg1 ctg1), slg1⟩)
    (cg1 : PySem.W.codeIn K cdg1 "is_between" = true)
    (kg1 : PySem.W.keepIn K (.ref fg1) = true)
    (ag2 : PySem.W.nsIn K mainGlobals "is_name" = some (some (.ref fg2)))
    (lg2 : K.lookup fg2 = some ⟨ocg2, odg2, .func (PySem.W.fnOf "is_name" "is_name" (defArgs s_is_name) (defBody s_is_name) (defScope s_is_name) .none kVg2 dcg2 pmg2 ang2 cdg2 ctg2), slg2⟩)
    (cg2 : PySem.W.codeIn K cdg2 "is_name" = true)
    (kg2 : PySem.W.keepIn K (.ref fg2) = true)
    (ag3 : PySem.W.nsIn K mainGlobals "accepts" = some (some (.ref fg3)))
    (lg3 : K.lookup fg3 = some ⟨ocg3, odg3, .func (PySem.W.fnOf "accepts" "accepts" (defArgs s_accepts) (defBody s_accepts) (defScope s_accepts) .none kVg3 dcg3 pmg3 ang3 cdg3 ctg3), slg3⟩)
    (cg3 : PySem.W.codeIn K cdg3 "accepts" = true)
    (kg3 : PySem.W.keepIn K (.ref fg3) = true)
    (ag4 : PySem.W.nsIn K mainGlobals "_wrong_field" = some (some (.ref fg4)))
    (lg4 : K.lookup fg4 = some ⟨ocg4, odg4, .func (PySem.W.fnOf "_wrong_field" "_wrong_field" (defArgs s_wrong_field) (defBody s_wrong_field) (defScope s_wrong_field) .none kVg4 dcg4 pmg4 ang4 cdg4 ctg4), slg4⟩)
    (cg4 : PySem.W.codeIn K cdg4 "_wrong_field" = true)
    (kg4 : PySem.W.keepIn K (.ref fg4) = true)
    (ag5 : PySem.W.nsIn K mainGlobals "_are_pauses" = some (some (.ref fg5)))
    (lg5 : K.lookup fg5 = some ⟨ocg5, odg5, .func (PySem.W.fnOf "_are_pauses" "_are_pauses" (defArgs s_are_pauses) (defBody s_are_pauses) (defScope s_are_pauses) .none kVg5 dcg5 pmg5 ang5 cdg5 ctg5), slg5⟩)
    (cg5 : PySem.W.codeIn K cdg5 "_are_pauses" = true)
    (kg5 : PySem.W.keepIn K (.ref fg5) = true)
    (ag6 : PySem.W.nsIn K mainGlobals "_is_ending" = some (some (.ref fg6)))
    (lg6 : K.lookup fg6 = some ⟨ocg6, odg6, .func (PySem.W.fnOf "_is_ending" "_is_ending" (defArgs s_is_ending) (defBody s_is_ending) (defScope s_is_ending) .none kVg6 dcg6 pmg6 ang6 cdg6 ctg6), slg6⟩)
    (cg6 : PySem.W.codeIn K cdg6 "_is_ending" = true)
    (kg6 : PySem.W.keepIn K (.ref fg6) = true)
    (ag7 : PySem.W.nsIn K mainGlobals "_all_pauses" = some (some (.ref fg7)))
    (lg7 : K.lookup fg7 = some ⟨ocg7, odg7, .func (PySem.W.fnOf "_all_pauses" "_all_pauses" (defArgs s_all_pauses) (defBody s_all_pauses) (defScope s_all_pauses) .none kVg7 dcg7 pmg7 ang7 cdg7 ctg7), slg7⟩)
    (cg7 : PySem.W.codeIn K cdg7 "_all_pauses" = true)
    (kg7 : PySem.W.keepIn K (.ref fg7) = true)
    (ag8 : PySem.W.nsIn K mainGlobals "_law_pool" = some (some (.ref fg8)))
    (lg8 : K.lookup fg8 = some ⟨ocg8, odg8, .func (PySem.W.fnOf "_law_pool" "_law_pool" (defArgs s_law_pool) (defBody s_law_pool) (defScope s_law_pool) .none kVg8 dcg8 pmg8 ang8 cdg8 ctg8), slg8⟩)
    (cg8 : PySem.W.codeIn K cdg8 "_law_pool" = true)
    (kg8 : PySem.W.keepIn K (.ref fg8) = true)
    (ag9 : PySem.W.nsIn K mainGlobals "_law_draw" = some (some (.ref fg9)))
    (lg9 : K.lookup fg9 = some ⟨ocg9, odg9, .func (PySem.W.fnOf "_law_draw" "_law_draw" (defArgs s_law_draw) (defBody s_law_draw) (defScope s_law_draw) .none kVg9 dcg9 pmg9 ang9 cdg9 ctg9), slg9⟩)
    (cg9 : PySem.W.codeIn K cdg9 "_law_draw" = true)
    (kg9 : PySem.W.keepIn K (.ref fg9) = true)
    (ag10 : PySem.W.nsIn K mainGlobals "_law_choose" = some (some (.ref fg10)))
    (lg10 : K.lookup fg10 = some ⟨ocg10, odg10, .func (PySem.W.fnOf "_law_choose" "_law_choose" (defArgs s_law_choose) (defBody s_law_choose) (defScope s_law_choose) .none kVg10 dcg10 pmg10 ang10 cdg10 ctg10), slg10⟩)
    (cg10 : PySem.W.codeIn K cdg10 "_law_choose" = true)
    (kg10 : PySem.W.keepIn K (.ref fg10) = true)
    (ag11 : PySem.W.nsIn K mainGlobals "_law_fields_of" = some (some (.ref fg11)))
    (lg11 : K.lookup fg11 = some ⟨ocg11, odg11, .func (PySem.W.fnOf "_law_fields_of" "_law_fields_of" (defArgs s_law_fields_of) (defBody s_law_fields_of) (defScope s_law_fields_of) .none kVg11 dcg11 pmg11 ang11 cdg11 ctg11), slg11⟩)
    (cg11 : PySem.W.codeIn K cdg11 "_law_fields_of" = true)
    (kg11 : PySem.W.keepIn K (.ref fg11) = true)
    (ag12 : PySem.W.nsIn K mainGlobals "_law_drawn" = some (some (.ref fg12)))
    (lg12 : K.lookup fg12 = some ⟨ocg12, odg12, .func (PySem.W.fnOf "_law_drawn" "_law_drawn" (defArgs s_law_drawn) (defBody s_law_drawn) (defScope s_law_drawn) .none kVg12 dcg12 pmg12 ang12 cdg12 ctg12), slg12⟩)
    (cg12 : PySem.W.codeIn K cdg12 "_law_drawn" = true)
    (kg12 : PySem.W.keepIn K (.ref fg12) = true)
    (ag13 : PySem.W.nsIn K mainGlobals "_law_built" = some (some (.ref fg13)))
    (lg13 : K.lookup fg13 = some ⟨ocg13, odg13, .func (PySem.W.fnOf "_law_built" "_law_built" (defArgs s_law_built) (defBody s_law_built) (defScope s_law_built) .none kVg13 dcg13 pmg13 ang13 cdg13 ctg13), slg13⟩)
    (cg13 : PySem.W.codeIn K cdg13 "_law_built" = true)
    (kg13 : PySem.W.keepIn K (.ref fg13) = true)
    (aL : PySem.W.nsIn K mainGlobals "law" = some (some (.ref fL)))
    (lL : K.lookup fL = some ⟨ocL, odL, .func (PySem.W.fnOf "law" "law" (defArgs s_law) (defBody s_law) (defScope s_law) .none kVL dcL pmL anL cdL ctL), slL⟩)
    (cL : PySem.W.codeIn K cdL "law" = true)
    (kL : PySem.W.keepIn K (.ref fL) = true)
    (z_isinstance : PySem.W.nsIn K mainGlobals "isinstance" = some none)
    (z_int : PySem.W.nsIn K mainGlobals "int" = some none)
    (z_bool : PySem.W.nsIn K mainGlobals "bool" = some none)
    (z_str : PySem.W.nsIn K mainGlobals "str" = some none)
    (z_tuple : PySem.W.nsIn K mainGlobals "tuple" = some none)
    (z_len : PySem.W.nsIn K mainGlobals "len" = some none)
    (z_all : PySem.W.nsIn K mainGlobals "all" = some none)
    (z_range : PySem.W.nsIn K mainGlobals "range" = some none)
    (z_repr : PySem.W.nsIn K mainGlobals "repr" = some none)
    (z_max : PySem.W.nsIn K mainGlobals "max" = some none)
    (z_min : PySem.W.nsIn K mainGlobals "min" = some none)
    (gLET : PySem.W.nsIn K mainGlobals "LETTERS" = some (some (.str letters tL)))
    (gML : PySem.W.nsIn K mainGlobals "MOST_LIMIT" = some (some (.int 20 tML)))
    (gMT : PySem.W.nsIn K mainGlobals "MOST_TRIES" = some (some (.int 3 tMT)))
    (aC : PySem.W.nsIn K mainGlobals "Policy" = some (some (.ref C)))
    (aI : PySem.W.findIn K (.ref C) "__init__" = some (some (.ref fI)))
    (lI : K.lookup fI = some ⟨ocI, odI, .func (PySem.W.fnOf "__init__" "Policy.__init__" (defArgs s_Policyinit) (defBody s_Policyinit) (defScope s_Policyinit) .none (.ref Dk) dcI pmI anI cdI ctI), slI⟩)
    (cI : PySem.W.codeIn K cdI "Policy.__init__" = true)
    (kI : PySem.W.keepIn K (.ref fI) = true)
    (iI : PySem.W.isFn K (.ref fI) = true)
    (aE : PySem.W.findIn K (.ref C) "__eq__" = some (some (.ref fE)))
    (lE : K.lookup fE = some ⟨ocE, odE, .func (PySem.W.fnOf "__eq__" "Policy.__eq__" (defArgs s_Policyeq) (defBody s_Policyeq) (defScope s_Policyeq) .none kVE dcE pmE anE cdE ctE), slE⟩)
    (cE : PySem.W.codeIn K cdE "Policy.__eq__" = true)
    (kE : PySem.W.keepIn K (.ref fE) = true)
    (iE : PySem.W.isFn K (.ref fE) = true)
    (aS : PySem.W.findIn K (.ref C) "_fields" = some (some (.ref fS)))
    (lS : K.lookup fS = some ⟨ocS, odS, .func (PySem.W.fnOf "_fields" "Policy._fields" (defArgs s_Policy_fields) (defBody s_Policy_fields) (defScope s_Policy_fields) .none kVS dcS pmS anS cdS ctS), slS⟩)
    (cS : PySem.W.codeIn K cdS "Policy._fields" = true)
    (kS : PySem.W.keepIn K (.ref fS) = true)
    (iS : PySem.W.isFn K (.ref fS) = true)
    (d1 : PySem.W.nsIn K Dk "tries" = some (some (.int 1 tk1)))
    (d2 : PySem.W.nsIn K Dk "pauses" = some (some .none))
    (d3 : PySem.W.nsIn K Dk "early" = some (some .none))
    (d4 : PySem.W.nsIn K Dk "lossy" = some (some (.bool false)))
    (d5 : PySem.W.nsIn K Dk "ending" = some (some (.ref go)))
    (d6 : K.lookup go = some ⟨.type "tuple", gd, .seq #[.str "go" tk2] gn, gs⟩)
    (pg : PySem.W.plainGet K C Str.empty = true)
    (hd : PySem.W.hasDictIn K C = true)
    (po : PySem.W.plainOver K C = true)
    (sa : PySem.W.findIn K (.ref C) "__setattr__" = some (some (.builtin "object.__setattr__")))
    (mk : PySem.W.makesIn K C = true)
    (kc : PySem.W.keepIn K (.ref C) = true)
    (n1 : PySem.W.findIn K (.ref C) "_name" = some none)
    (n2 : PySem.W.findIn K (.ref C) "_limit" = some none)
    (n3 : PySem.W.findIn K (.ref C) "_tries" = some none)
    (n4 : PySem.W.findIn K (.ref C) "_pauses" = some none)
    (n5 : PySem.W.findIn K (.ref C) "_early" = some none)
    (n6 : PySem.W.findIn K (.ref C) "_lossy" = some none)
    (n7 : PySem.W.findIn K (.ref C) "_ending" = some none)
    (ne : PySem.W.findIn K (.ref C) "__ne__" = some (some (.builtin "object.__ne__")))
    (ob : PySem.W.mroIn K C (.type "object") = some true)
    (ha : PySem.W.findIn K (.ref C) "__class__" = some (some (.builtin "object.__class__")))
    (hn : PySem.W.specialIn K (.builtin "object.__class__") "__get__" = some (some (.builtin "getset_descriptor.__get__")))
    (htk : PySem.W.takesIn K (.builtin "object.__class__") = some true)
    (ty : PySem.W.typeIn K (.ref C) = some (.type "type"))
    (p1_name : PySem.W.findIn K (.ref C) "name" = some (some (.ref p_name)))
    (p2_name : PySem.W.specialIn K (.ref p_name) "__get__" = some (some (.builtin "property.__get__")))
    (p3_name : PySem.W.takesIn K (.ref p_name) = some true)
    (apname : PySem.W.recIn K p_name "property" = some ((.ref fpname) :: r_name))
    (lpname : K.lookup fpname = some ⟨ocpname, odpname, .func (PySem.W.fnOf "name" "Policy.name" (defArgs s_Policy_name) (defBody s_Policy_name) (defScope s_Policy_name) .none kVpname dcpname pmpname anpname cdpname ctpname), slpname⟩)
    (cpname : PySem.W.codeIn K cdpname "Policy.name" = true)
    (kpname : PySem.W.keepIn K (.ref fpname) = true)
    (p1_limit : PySem.W.findIn K (.ref C) "limit" = some (some (.ref p_limit)))
    (p2_limit : PySem.W.specialIn K (.ref p_limit) "__get__" = some (some (.builtin "property.__get__")))
    (p3_limit : PySem.W.takesIn K (.ref p_limit) = some true)
    (aplimit : PySem.W.recIn K p_limit "property" = some ((.ref fplimit) :: r_limit))
    (lplimit : K.lookup fplimit = some ⟨ocplimit, odplimit, .func (PySem.W.fnOf "limit" "Policy.limit" (defArgs s_Policy_limit) (defBody s_Policy_limit) (defScope s_Policy_limit) .none kVplimit dcplimit pmplimit anplimit cdplimit ctplimit), slplimit⟩)
    (cplimit : PySem.W.codeIn K cdplimit "Policy.limit" = true)
    (kplimit : PySem.W.keepIn K (.ref fplimit) = true)
    (p1_tries : PySem.W.findIn K (.ref C) "tries" = some (some (.ref p_tries)))
    (p2_tries : PySem.W.specialIn K (.ref p_tries) "__get__" = some (some (.builtin "property.__get__")))
    (p3_tries : PySem.W.takesIn K (.ref p_tries) = some true)
    (aptries : PySem.W.recIn K p_tries "property" = some ((.ref fptries) :: r_tries))
    (lptries : K.lookup fptries = some ⟨ocptries, odptries, .func (PySem.W.fnOf "tries" "Policy.tries" (defArgs s_Policy_tries) (defBody s_Policy_tries) (defScope s_Policy_tries) .none kVptries dcptries pmptries anptries cdptries ctptries), slptries⟩)
    (cptries : PySem.W.codeIn K cdptries "Policy.tries" = true)
    (kptries : PySem.W.keepIn K (.ref fptries) = true)
    (p1_pauses : PySem.W.findIn K (.ref C) "pauses" = some (some (.ref p_pauses)))
    (p2_pauses : PySem.W.specialIn K (.ref p_pauses) "__get__" = some (some (.builtin "property.__get__")))
    (p3_pauses : PySem.W.takesIn K (.ref p_pauses) = some true)
    (appauses : PySem.W.recIn K p_pauses "property" = some ((.ref fppauses) :: r_pauses))
    (lppauses : K.lookup fppauses = some ⟨ocppauses, odppauses, .func (PySem.W.fnOf "pauses" "Policy.pauses" (defArgs s_Policy_pauses) (defBody s_Policy_pauses) (defScope s_Policy_pauses) .none kVppauses dcppauses pmppauses anppauses cdppauses ctppauses), slppauses⟩)
    (cppauses : PySem.W.codeIn K cdppauses "Policy.pauses" = true)
    (kppauses : PySem.W.keepIn K (.ref fppauses) = true)
    (p1_early : PySem.W.findIn K (.ref C) "early" = some (some (.ref p_early)))
    (p2_early : PySem.W.specialIn K (.ref p_early) "__get__" = some (some (.builtin "property.__get__")))
    (p3_early : PySem.W.takesIn K (.ref p_early) = some true)
    (apearly : PySem.W.recIn K p_early "property" = some ((.ref fpearly) :: r_early))
    (lpearly : K.lookup fpearly = some ⟨ocpearly, odpearly, .func (PySem.W.fnOf "early" "Policy.early" (defArgs s_Policy_early) (defBody s_Policy_early) (defScope s_Policy_early) .none kVpearly dcpearly pmpearly anpearly cdpearly ctpearly), slpearly⟩)
    (cpearly : PySem.W.codeIn K cdpearly "Policy.early" = true)
    (kpearly : PySem.W.keepIn K (.ref fpearly) = true)
    (p1_lossy : PySem.W.findIn K (.ref C) "lossy" = some (some (.ref p_lossy)))
    (p2_lossy : PySem.W.specialIn K (.ref p_lossy) "__get__" = some (some (.builtin "property.__get__")))
    (p3_lossy : PySem.W.takesIn K (.ref p_lossy) = some true)
    (aplossy : PySem.W.recIn K p_lossy "property" = some ((.ref fplossy) :: r_lossy))
    (lplossy : K.lookup fplossy = some ⟨ocplossy, odplossy, .func (PySem.W.fnOf "lossy" "Policy.lossy" (defArgs s_Policy_lossy) (defBody s_Policy_lossy) (defScope s_Policy_lossy) .none kVplossy dcplossy pmplossy anplossy cdplossy ctplossy), slplossy⟩)
    (cplossy : PySem.W.codeIn K cdplossy "Policy.lossy" = true)
    (kplossy : PySem.W.keepIn K (.ref fplossy) = true)
    (p1_ending : PySem.W.findIn K (.ref C) "ending" = some (some (.ref p_ending)))
    (p2_ending : PySem.W.specialIn K (.ref p_ending) "__get__" = some (some (.builtin "property.__get__")))
    (p3_ending : PySem.W.takesIn K (.ref p_ending) = some true)
    (apending : PySem.W.recIn K p_ending "property" = some ((.ref fpending) :: r_ending))
    (lpending : K.lookup fpending = some ⟨ocpending, odpending, .func (PySem.W.fnOf "ending" "Policy.ending" (defArgs s_Policy_ending) (defBody s_Policy_ending) (defScope s_Policy_ending) .none kVpending dcpending pmpending anpending cdpending ctpending), slpending⟩)
    (cpending : PySem.W.codeIn K cdpending "Policy.ending" = true)
    (kpending : PySem.W.keepIn K (.ref fpending) = true)
    : ∃ fd : FuncData, (∀ (s : Shared) (v : Value), BindsTo s fd ⟨[v], []⟩ [("_law_script", v)]) ∧ ∀ base : Heap, K.In base → base.Ns mainGlobals mg → Mc.FnG l.prog w K mg base CX0 10 fa fd ["_law_script"] (spLaw K) := by
  have Dg0 : Mc.Def K mg "is_integer" s_is_integer ["value"] := ⟨fg0, _, fun_mk (st := s_is_integer) lg0 cg0 kg0, PySem.W.mg_of X G ag0, (fun_mk (st := s_is_integer) lg0 cg0 kg0).binds (ps := ["value"]) fun _ _ _ _ _ _ us hl => match us, hl with | [_], _ => rfl⟩
  have Dg1 : Mc.Def K mg "is_between" s_is_between ["value", "least", "most"] := ⟨fg1, _, fun_mk (st := s_is_between) lg1 cg1 kg1, PySem.W.mg_of X G ag1, (fun_mk (st := s_is_between) lg1 cg1 kg1).binds (ps := ["value", "least", "most"]) fun _ _ _ _ _ _ us hl => match us, hl with | [_, _, _], _ => rfl⟩
  have Dg2 : Mc.Def K mg "is_name" s_is_name ["value"] := ⟨fg2, _, fun_mk (st := s_is_name) lg2 cg2 kg2, PySem.W.mg_of X G ag2, (fun_mk (st := s_is_name) lg2 cg2 kg2).binds (ps := ["value"]) fun _ _ _ _ _ _ us hl => match us, hl with | [_], _ => rfl⟩
  have Dg3 : Mc.Def K mg "accepts" s_accepts ["field", "value"] := ⟨fg3, _, fun_mk (st := s_accepts) lg3 cg3 kg3, PySem.W.mg_of X G ag3, (fun_mk (st := s_accepts) lg3 cg3 kg3).binds (ps := ["field", "value"]) fun _ _ _ _ _ _ us hl => match us, hl with | [_, _], _ => rfl⟩
  have Dg4 : Mc.Def K mg "_wrong_field" s_wrong_field ["limit", "tries", "pauses", "early", "lossy", "ending"] := ⟨fg4, _, fun_mk (st := s_wrong_field) lg4 cg4 kg4, PySem.W.mg_of X G ag4, (fun_mk (st := s_wrong_field) lg4 cg4 kg4).binds (ps := ["limit", "tries", "pauses", "early", "lossy", "ending"]) fun _ _ _ _ _ _ us hl => match us, hl with | [_, _, _, _, _, _], _ => rfl⟩
  have Dg5 : Mc.Def K mg "_are_pauses" s_are_pauses ["value", "tries"] := ⟨fg5, _, fun_mk (st := s_are_pauses) lg5 cg5 kg5, PySem.W.mg_of X G ag5, (fun_mk (st := s_are_pauses) lg5 cg5 kg5).binds (ps := ["value", "tries"]) fun _ _ _ _ _ _ us hl => match us, hl with | [_, _], _ => rfl⟩
  have Dg6 : Mc.Def K mg "_is_ending" s_is_ending ["value"] := ⟨fg6, _, fun_mk (st := s_is_ending) lg6 cg6 kg6, PySem.W.mg_of X G ag6, (fun_mk (st := s_is_ending) lg6 cg6 kg6).binds (ps := ["value"]) fun _ _ _ _ _ _ us hl => match us, hl with | [_], _ => rfl⟩
  have Dg7 : Mc.Def K mg "_all_pauses" s_all_pauses ["tries", "pauses", "early"] := ⟨fg7, _, fun_mk (st := s_all_pauses) lg7 cg7 kg7, PySem.W.mg_of X G ag7, (fun_mk (st := s_all_pauses) lg7 cg7 kg7).binds (ps := ["tries", "pauses", "early"]) fun _ _ _ _ _ _ us hl => match us, hl with | [_, _, _], _ => rfl⟩
  have Dg8 : Mc.Def K mg "_law_pool" s_law_pool ["_law_script", "_law_k"] := ⟨fg8, _, fun_mk (st := s_law_pool) lg8 cg8 kg8, PySem.W.mg_of X G ag8, (fun_mk (st := s_law_pool) lg8 cg8 kg8).binds (ps := ["_law_script", "_law_k"]) fun _ _ _ _ _ _ us hl => match us, hl with | [_, _], _ => rfl⟩
  have Dg9 : Mc.Def K mg "_law_draw" s_law_draw ["_law_pool_here", "_law_many"] := ⟨fg9, _, fun_mk (st := s_law_draw) lg9 cg9 kg9, PySem.W.mg_of X G ag9, (fun_mk (st := s_law_draw) lg9 cg9 kg9).binds (ps := ["_law_pool_here", "_law_many"]) fun _ _ _ _ _ _ us hl => match us, hl with | [_, _], _ => rfl⟩
  have Dg10 : Mc.Def K mg "_law_choose" s_law_choose ["_law_pool_here", "_law_items"] := ⟨fg10, _, fun_mk (st := s_law_choose) lg10 cg10 kg10, PySem.W.mg_of X G ag10, (fun_mk (st := s_law_choose) lg10 cg10 kg10).binds (ps := ["_law_pool_here", "_law_items"]) fun _ _ _ _ _ _ us hl => match us, hl with | [_, _], _ => rfl⟩
  have Dg11 : Mc.Def K mg "_law_fields_of" s_law_fields_of ["_law_one"] := ⟨fg11, _, fun_mk (st := s_law_fields_of) lg11 cg11 kg11, PySem.W.mg_of X G ag11, (fun_mk (st := s_law_fields_of) lg11 cg11 kg11).binds (ps := ["_law_one"]) fun _ _ _ _ _ _ us hl => match us, hl with | [_], _ => rfl⟩
  have Dg12 : Mc.Def K mg "_law_drawn" s_law_drawn ["_law_pool_here"] := ⟨fg12, _, fun_mk (st := s_law_drawn) lg12 cg12 kg12, PySem.W.mg_of X G ag12, (fun_mk (st := s_law_drawn) lg12 cg12 kg12).binds (ps := ["_law_pool_here"]) fun _ _ _ _ _ _ us hl => match us, hl with | [_], _ => rfl⟩
  have Dg13 : Mc.Def K mg "_law_built" s_law_built ["_law_row"] := ⟨fg13, _, fun_mk (st := s_law_built) lg13 cg13 kg13, PySem.W.mg_of X G ag13, (fun_mk (st := s_law_built) lg13 cg13 kg13).binds (ps := ["_law_row"]) fun _ _ _ _ _ _ us hl => match us, hl with | [_], _ => rfl⟩
  have T : Txt K mg := ⟨PySem.W.mg_none_of X G z_isinstance, PySem.W.mg_none_of X G z_int, PySem.W.mg_none_of X G z_bool, PySem.W.mg_none_of X G z_str, PySem.W.mg_none_of X G z_tuple, PySem.W.mg_none_of X G z_len, PySem.W.mg_none_of X G z_all, PySem.W.mg_none_of X G z_range, PySem.W.mg_none_of X G z_repr, PySem.W.mg_none_of X G z_max, PySem.W.mg_none_of X G z_min, ⟨_, PySem.W.mg_of X G gLET, ⟨_, rfl⟩⟩, ⟨_, PySem.W.mg_of X G gML, ⟨_, rfl⟩⟩, ⟨_, PySem.W.mg_of X G gMT, ⟨_, rfl⟩⟩⟩
  have cl : Cls K C := ⟨pg, hd, po, sa⟩
  have TC : CTxt K C := ⟨cl, n1, n2, n3, n4, n5, n6, n7⟩
  have gP := PySem.W.mg_of X G aC
  have IC : ICls K C := ⟨ha, hn, htk, ob, kit_same, fun n hn => by
    simp only [List.mem_cons, List.not_mem_nil, or_false] at hn
    rcases hn with rfl | rfl | rfl | rfl | rfl | rfl | rfl
    · exact kit_off (l := [.type "NoneType", .type "object"]) hd ty (by decide +kernel) (by simp)
    · exact kit_off (l := [.type "bool", .type "int", .type "object"]) hd ty (by decide +kernel) (by simp)
    · exact kit_off (l := [.type "int", .type "object"]) hd ty (by decide +kernel) (by simp)
    · exact kit_off (l := [.type "str", .type "object"]) hd ty (by decide +kernel) (by simp)
    · exact kit_off (l := [.type "list", .type "object"]) hd ty (by decide +kernel) (by simp)
    · exact kit_off (l := [.type "tuple", .type "object"]) hd ty (by decide +kernel) (by simp)
    · exact kit_off (l := [.type "dict", .type "object"]) hd ty (by decide +kernel) (by simp)⟩
  have tgo : ∀ H, TupV K H go En.go.vs := fun H => ⟨.kTup d6 rfl, .inr ⟨_, #[.str "go" tk2], _, d6, rfl, rfl, (by show 1 ≤ sizeLine; decide), .cons ⟨_, rfl⟩ .nil⟩⟩
  have FD : FI K go fI _ := ⟨⟨_, _, _, _, _, _, _, _, _, _, rfl, lI, cI, .inl ⟨rfl, rfl⟩, .inr ⟨Dk, rfl, by
    intro q hq
    simp only [kwsP, List.mem_cons, List.not_mem_nil, or_false] at hq
    rcases hq with rfl | rfl | rfl | rfl | rfl
    · exact ⟨_, d1, ⟨_, rfl⟩⟩
    · exact ⟨_, d2, rfl⟩
    · exact ⟨_, d3, rfl⟩
    · exact ⟨_, d4, rfl⟩
    · exact ⟨_, d5, rfl⟩⟩⟩, kI⟩
  obtain ⟨ds0, v0, b0⟩ := b_none FD
  obtain ⟨mT, bT⟩ := kb_tries FD
  obtain ⟨mP, bP⟩ := kb_pauses FD
  have M : Mk K C fI := ⟨mk, aI, iI, kc⟩
  have FE := fun_mk (st := s_Policyeq) lE cE kE
  have FS := fun_mk (st := s_Policy_fields) lS cS kS
  have bE := FE.binds (ps := ["self", "other"]) fun _ _ _ _ _ _ us hl => match us, hl with | [_, _], _ => rfl
  have bS := FS.binds (ps := ["self"]) fun _ _ _ _ _ _ us hl => match us, hl with | [_], _ => rfl
  have F_name := fun_mk (st := s_Policy_name) lpname cpname kpname
  have b_name := F_name.binds (ps := ["self"]) fun _ _ _ _ _ _ us hl => match us, hl with | [_], _ => rfl
  have F_limit := fun_mk (st := s_Policy_limit) lplimit cplimit kplimit
  have b_limit := F_limit.binds (ps := ["self"]) fun _ _ _ _ _ _ us hl => match us, hl with | [_], _ => rfl
  have F_tries := fun_mk (st := s_Policy_tries) lptries cptries kptries
  have b_tries := F_tries.binds (ps := ["self"]) fun _ _ _ _ _ _ us hl => match us, hl with | [_], _ => rfl
  have F_pauses := fun_mk (st := s_Policy_pauses) lppauses cppauses kppauses
  have b_pauses := F_pauses.binds (ps := ["self"]) fun _ _ _ _ _ _ us hl => match us, hl with | [_], _ => rfl
  have F_early := fun_mk (st := s_Policy_early) lpearly cpearly kpearly
  have b_early := F_early.binds (ps := ["self"]) fun _ _ _ _ _ _ us hl => match us, hl with | [_], _ => rfl
  have F_lossy := fun_mk (st := s_Policy_lossy) lplossy cplossy kplossy
  have b_lossy := F_lossy.binds (ps := ["self"]) fun _ _ _ _ _ _ us hl => match us, hl with | [_], _ => rfl
  have F_ending := fun_mk (st := s_Policy_ending) lpending cpending kpending
  have b_ending := F_ending.binds (ps := ["self"]) fun _ _ _ _ _ _ us hl => match us, hl with | [_], _ => rfl
  have ef := hfa.symm.trans (PySem.W.mg_of X G aL)
  cases ef
  refine ⟨PySem.W.fnOf "law" "law" (defArgs s_law) (defBody s_law) (defScope s_law) .none kVL dcL pmL anL cdL ctL, fun s v => .of_eq rfl, fun base _ _ => ?_⟩
  · have c_int := ok_is_integer (P := l.prog) (w := w) (base := base) T Dg0
    have c_btw := ok_is_between T Dg1 c_int
    have c_nm := ok_is_name (P := l.prog) (w := w) (base := base) T Dg2
    have c_are := ok_are_pauses T Dg5 c_btw
    have c_end := ok_is_ending T Dg6 c_btw
    have c_acc := ok_accepts T Dg3 c_btw c_end
    have c_wf := ok_wrong_field T Dg4 c_btw c_are c_acc
    have c_all := ok_all_pauses (P := l.prog) (w := w) (base := base) T Dg7
    have GI := ok_init FD T TC c_nm c_wf c_all
    have mf := ok_fields (P := l.prog) (w := w) (mg := mg) (base := base) FS TC ⟨aS, iS, kS⟩ bS
    have GE := ok_eq FE T TC IC gP mf
    have c_pool := ok_pool (P := l.prog) (w := w) (base := base) T Dg8
    have c_draw := ok_draw (P := l.prog) (w := w) (base := base) T Dg9
    have c_choose := ok_choose T Dg10 c_draw
    have c_drawn := ok_drawn T Dg12 c_draw c_choose
    have c_built := ok_built Dg13 M GI gP FD
    have pr_name : Prp l.prog w K mg base 1 C "name" (getSp C "_name") := prp_of F_name ⟨p1_name, p2_name, p3_name, ⟨_, apname⟩⟩ sc_Policy_name rfl cl n1 b_name
    have pr_limit : Prp l.prog w K mg base 1 C "limit" (getSp C "_limit") := prp_of F_limit ⟨p1_limit, p2_limit, p3_limit, ⟨_, aplimit⟩⟩ sc_Policy_limit rfl cl n2 b_limit
    have pr_tries : Prp l.prog w K mg base 1 C "tries" (getSp C "_tries") := prp_of F_tries ⟨p1_tries, p2_tries, p3_tries, ⟨_, aptries⟩⟩ sc_Policy_tries rfl cl n3 b_tries
    have pr_pauses : Prp l.prog w K mg base 1 C "pauses" (getSp C "_pauses") := prp_of F_pauses ⟨p1_pauses, p2_pauses, p3_pauses, ⟨_, appauses⟩⟩ sc_Policy_pauses rfl cl n4 b_pauses
    have pr_early : Prp l.prog w K mg base 1 C "early" (getSp C "_early") := prp_of F_early ⟨p1_early, p2_early, p3_early, ⟨_, apearly⟩⟩ sc_Policy_early rfl cl n5 b_early
    have pr_lossy : Prp l.prog w K mg base 1 C "lossy" (getSp C "_lossy") := prp_of F_lossy ⟨p1_lossy, p2_lossy, p3_lossy, ⟨_, aplossy⟩⟩ sc_Policy_lossy rfl cl n6 b_lossy
    have pr_ending : Prp l.prog w K mg base 1 C "ending" (getSp C "_ending") := prp_of F_ending ⟨p1_ending, p2_ending, p3_ending, ⟨_, apending⟩⟩ sc_Policy_ending rfl cl n7 b_ending
    have c_fo := ok_fields_of Dg11 pr_name pr_limit pr_tries pr_pauses pr_early pr_lossy pr_ending
    have FL := fun_mk (st := s_law) lL cL kL
    exact ok_law FL T M GI gP b0 v0 bT bP GE ⟨aE, iE, ne, ob⟩ bE tgo pr_pauses c_fo c_pool c_drawn c_built
end K2
open PySem PySem.W PyProof.Rows in
set_option maxRecDepth 100000 in
set_option maxHeartbeats 0 in
theorem PySem.Challenge.cw_mostcalls_k02_policies_holds : PySem.Challenge.rw_mostcalls_k02_policies.Holds := by
  w_on; o_law; k_head; (case hw => w_witness2)
  k_fill
  refine Mc.walk_run (l := PySem.Challenge.rw_mostcalls_k02_policies) (n := 63) (k := 10) (sp := fun K => K2.spLaw K) (x := "_law_script") rfl (by decide) rfl ⟨rfl, by decide, by decide⟩ (fun w h Y => PySem.W.kIn_of Y) ?F (fun K H a ns h1 _ h3 => ⟨a, ns, rfl, h3, h1, fun _ => rfl⟩)
  case F =>
    intro w mg fa h KX G hmg
    refine' K2.all_mk KX G hmg ?ag0 ?lg0 ?cg0 ?kg0 ?ag1 ?lg1 ?cg1 ?kg1 ?ag2 ?lg2 ?cg2 ?kg2 ?ag3 ?lg3 ?cg3 ?kg3 ?ag4 ?lg4 ?cg4 ?kg4 ?ag5 ?lg5 ?cg5 ?kg5 ?ag6 ?lg6 ?cg6 ?kg6 ?ag7 ?lg7 ?cg7 ?kg7 ?ag8 ?lg8 ?cg8 ?kg8 ?ag9 ?lg9 ?cg9 ?kg9 ?ag10 ?lg10 ?cg10 ?kg10 ?ag11 ?lg11 ?cg11 ?kg11 ?ag12 ?lg12 ?cg12 ?kg12 ?ag13 ?lg13 ?cg13 ?kg13 ?aL ?lL ?cL ?kL ?z_isinstance ?z_int ?z_bool ?z_str ?z_tuple ?z_len ?z_all ?z_range ?z_repr ?z_max ?z_min ?gLET ?gML ?gMT ?aC ?aI ?lI ?cI ?kI ?iI ?aE ?lE ?cE ?kE ?iE ?aS ?lS ?cS ?kS ?iS ?d1 ?d2 ?d3 ?d4 ?d5 ?d6 ?pg ?hd ?po ?sa ?mk ?kc ?n1 ?n2 ?n3 ?n4 ?n5 ?n6 ?n7 ?ne ?ob ?ha ?hn ?htk ?ty ?p1_name ?p2_name ?p3_name ?apname ?lpname ?cpname ?kpname ?p1_limit ?p2_limit ?p3_limit ?aplimit ?lplimit ?cplimit ?kplimit ?p1_tries ?p2_tries ?p3_tries ?aptries ?lptries ?cptries ?kptries ?p1_pauses ?p2_pauses ?p3_pauses ?appauses ?lppauses ?cppauses ?kppauses ?p1_early ?p2_early ?p3_early ?apearly ?lpearly ?cpearly ?kpearly ?p1_lossy ?p2_lossy ?p3_lossy ?aplossy ?lplossy ?cplossy ?kplossy ?p1_ending ?p2_ending ?p3_ending ?apending ?lpending ?cpending ?kpending
    (case ag0 => k_is)
    (case lg0 => k_is)
    (case cg0 => k_is)
    (case kg0 => k_is)
    (case ag1 => k_is)
    (case lg1 => k_is)
    (case cg1 => k_is)
    (case kg1 => k_is)
    (case ag2 => k_is)
    (case lg2 => k_is)
    (case cg2 => k_is)
    (case kg2 => k_is)
    (case ag3 => k_is)
    (case lg3 => k_is)
    (case cg3 => k_is)
    (case kg3 => k_is)
    (case ag4 => k_is)
    (case lg4 => k_is)
    (case cg4 => k_is)
    (case kg4 => k_is)
    (case ag5 => k_is)
    (case lg5 => k_is)
    (case cg5 => k_is)
    (case kg5 => k_is)
    (case ag6 => k_is)
    (case lg6 => k_is)
    (case cg6 => k_is)
    (case kg6 => k_is)
    (case ag7 => k_is)
    (case lg7 => k_is)
    (case cg7 => k_is)
    (case kg7 => k_is)
    (case ag8 => k_is)
    (case lg8 => k_is)
    (case cg8 => k_is)
    (case kg8 => k_is)
    (case ag9 => k_is)
    (case lg9 => k_is)
    (case cg9 => k_is)
    (case kg9 => k_is)
    (case ag10 => k_is)
    (case lg10 => k_is)
    (case cg10 => k_is)
    (case kg10 => k_is)
    (case ag11 => k_is)
    (case lg11 => k_is)
    (case cg11 => k_is)
    (case kg11 => k_is)
    (case ag12 => k_is)
    (case lg12 => k_is)
    (case cg12 => k_is)
    (case kg12 => k_is)
    (case ag13 => k_is)
    (case lg13 => k_is)
    (case cg13 => k_is)
    (case kg13 => k_is)
    (case aL => k_is)
    (case lL => k_is)
    (case cL => k_is)
    (case kL => k_is)
    (case z_isinstance => k_is)
    (case z_int => k_is)
    (case z_bool => k_is)
    (case z_str => k_is)
    (case z_tuple => k_is)
    (case z_len => k_is)
    (case z_all => k_is)
    (case z_range => k_is)
    (case z_repr => k_is)
    (case z_max => k_is)
    (case z_min => k_is)
    (case gLET => k_is)
    (case gML => k_is)
    (case gMT => k_is)
    (case aC => k_is)
    (case aI => k_is)
    (case lI => k_is)
    (case cI => k_is)
    (case kI => k_is)
    (case iI => k_is)
    (case aE => k_is)
    (case lE => k_is)
    (case cE => k_is)
    (case kE => k_is)
    (case iE => k_is)
    (case aS => k_is)
    (case lS => k_is)
    (case cS => k_is)
    (case kS => k_is)
    (case iS => k_is)
    (case d1 => k_is)
    (case d2 => k_is)
    (case d3 => k_is)
    (case d4 => k_is)
    (case d5 => k_is)
    (case d6 => k_is)
    (case pg => k_is)
    (case hd => k_is)
    (case po => k_is)
    (case sa => k_is)
    (case mk => k_is)
    (case kc => k_is)
    (case n1 => k_is)
    (case n2 => k_is)
    (case n3 => k_is)
    (case n4 => k_is)
    (case n5 => k_is)
    (case n6 => k_is)
    (case n7 => k_is)
    (case ne => k_is)
    (case ob => k_is)
    (case ha => k_is)
    (case hn => k_is)
    (case htk => k_is)
    (case ty => k_is)
    (case p1_name => k_is)
    (case p2_name => k_is)
    (case p3_name => k_is)
    (case apname => k_is)
    (case lpname => k_is)
    (case cpname => k_is)
    (case kpname => k_is)
    (case p1_limit => k_is)
    (case p2_limit => k_is)
    (case p3_limit => k_is)
    (case aplimit => k_is)
    (case lplimit => k_is)
    (case cplimit => k_is)
    (case kplimit => k_is)
    (case p1_tries => k_is)
    (case p2_tries => k_is)
    (case p3_tries => k_is)
    (case aptries => k_is)
    (case lptries => k_is)
    (case cptries => k_is)
    (case kptries => k_is)
    (case p1_pauses => k_is)
    (case p2_pauses => k_is)
    (case p3_pauses => k_is)
    (case appauses => k_is)
    (case lppauses => k_is)
    (case cppauses => k_is)
    (case kppauses => k_is)
    (case p1_early => k_is)
    (case p2_early => k_is)
    (case p3_early => k_is)
    (case apearly => k_is)
    (case lpearly => k_is)
    (case cpearly => k_is)
    (case kpearly => k_is)
    (case p1_lossy => k_is)
    (case p2_lossy => k_is)
    (case p3_lossy => k_is)
    (case aplossy => k_is)
    (case lplossy => k_is)
    (case cplossy => k_is)
    (case kplossy => k_is)
    (case p1_ending => k_is)
    (case p2_ending => k_is)
    (case p3_ending => k_is)
    (case apending => k_is)
    (case lpending => k_is)
    (case cpending => k_is)
    (case kpending => k_is)
