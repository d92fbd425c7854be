import PyProof.Rows.All
import Wide.All
import OpenK.AllK
import Wide.FinOn
import HandS.ForMost
import HandS.Defaults
import HandS.MakeKwOnly
import HandS.TupAny
import HandS.IsInst
import HandS.Zip
import HandS.Flow
import HandS.Walk
import HandS.Codes
import HandS.ForExc
import HandS.Words
import HandS.ExcInit
import HandS.ExcIs
import HandS.ExcField
import KE.KExcIs
import KE.KExcInit
import PyProof.ReprReads
import PyProof.ReprRoads
import HandS.ExcValue
import PyProof.StrBlock2
import PyProof.ReprLen
import PyProof.StrLawsRepr
import PyProof.FitsInt
import HandS.Style
import KE.DataEq
import PySem.Challenge.RW_oncedefaults_k13_errors_made
set_option Elab.async false
set_option maxRecDepth 100000
set_option maxHeartbeats 4000000
set_option linter.all false
namespace Gd
open PySem PySem.Spec PyProof.Rows L2
/-- a def's promise, for callers within whom no repr is under way -/
structure FnG (P : Program) (w : World) (K : PySem.W.Frag) (mg : Str → Option Value) (base : Heap) (CX : CXT) (k : Nat) (f : Addr) (fd : FuncData) (ps : List Str) (sp : Sp) : Prop where
  len : ∀ vs H Q E, sp vs H Q E → vs.length = ps.length
  run : ∀ (A : Around) (outer : List Env) (s : Shared) (H : Hp) (args : Args) (us : List Value) (vs : List V) (Q : VK) (E : XK),
    A.guards = some [] → Room k A → Env0 P w K mg base A outer s H → BindsTo s fd args (ps.zip us) → Vals vs us → sp vs H Q E →
      codeAny (model P w) A (.call (.ref f) args) (CR CX outer P w H s Q E) s
section
variable {CX : CXT} {P : Program} {w : World} {K : PySem.W.Frag} {mg : Str → Option Value} {base : Heap} {k : Nat}
theorem kindAll {N ps : List Str} {scope : Scope} (S : FnScope N ps scope) (us : List Value) : ((ps.zip us).all fun y => scope.names.lookup y.1 == some .local || scope.names.lookup y.1 == some .cell) = true := by
  refine List.all_eq_true.mpr fun y hy => ?_
  obtain ⟨n, v⟩ := y
  rcases S.par n (List.of_mem_zip hy).1 with q | q
  · show (scope.names.lookup n == some .local || scope.names.lookup n == some .cell) = true
    rw [q]
    rfl
  · show (scope.names.lookup n == some .local || scope.names.lookup n == some .cell) = true
    rw [q]
    rfl
/-- one call of a def, by its body -/
theorem enter1 {f : Addr} {name qual : Str} {params : Arguments} {body : List Stmt} {scope : Scope} {dV kV doc pm cdv ct oc : Value} {an od : Option Addr} {osl : Array (Option Value)} {N ps : List Str}
    {A : Around} {outer : List Env} {s : Shared} {H : Hp} {args : Args} {us : List Value} {vs : List V} {Q : VK} {E : XK}
    (lk : K.lookup f = some ⟨oc, od, .func (PySem.W.fnOf name qual params body scope dV kV doc pm an cdv ct), osl⟩) (hcd : PySem.W.codeIn K cdv qual = true) (S : FnScope N ps scope) (hl : vs.length = ps.length)
    (rm : Room (k + 1) A) (ev : Env0 P w K mg base A outer s H) (bd : BindsTo s (PySem.W.fnOf name qual params body scope dV kV doc pm an cdv ct) args (ps.zip us)) (vr : Vals vs us)
    (bod : ∃ t, PSs (cxOf CX P w K mg base N qual scope f cdv A outer s H E) body t ∧ t { nx := fun _ H' => Q .non H', rt := Q } (start N vs) H) :
    codeAny (model P w) A (.call (.ref f) args) (CR CX outer P w H s Q E) s := by
  have keep : ∀ b o, base.get? b = some o → s.heap.get? b = some o := fun b o e => (ev.bs b o e).1
  obtain ⟨t, tells, start0⟩ := bod
  refine Att.call_fn (ev.mod.kin.keeps keep) (ev.mod.nolimit.keeps keep) lk hcd rm.depth bd (kindAll S us) (fun s1 x => ?_) S.co S.gen S.kind
  have I0 := inv_start (CX := CX) (E := E) S rm.hd ev hl vr x
  refine wpAny_mono (tells.run [] s1 _ H _ I0 start0) (fun fl s2 z => ?_) fun e s2 z => z
  cases fl with
  | next =>
    obtain ⟨_, H2, J, q⟩ := z
    exact ⟨V.non, H2, J.os, J.bare, J.base, J.hok, rfl, q⟩
  | ret u =>
    obtain ⟨v, _, H2, J, rv, q⟩ := z
    exact ⟨v, H2, J.os, J.bare, J.base, J.hok, rv, q⟩
  | brk => exact absurd z.choose_spec.choose_spec.2 id
  | cont => exact absurd z.choose_spec.choose_spec.2 id
/-- a def of the text, by its body -/
theorem fnG {x qual : Str} {st : Stmt} {f : Addr} {fd : FuncData} {N ps : List Str} {sp : Sp} (F : L2.Fun K x qual st f fd) (S : FnScope N ps (defScope st)) (len : ∀ vs H Q E, sp vs H Q E → vs.length = ps.length)
    (hbody : ∀ (cdv : Value) (A : Around) (outer : List Env) (s : Shared) (H : Hp) (vs : List V) (Q : VK) (E : XK), A.guards = some [] → Room k (A.deeper (envOfC qual (defScope st) s.heap.objs.size f cdv)) → sp vs H Q E →
      ∃ t, PSs (cxOf CX0 P w K mg base N qual (defScope st) f cdv A outer s H E).nox (defBody st) t ∧ t { nx := fun _ H' => Q .non H', rt := Q } (start N vs) H) : FnG P w K mg base CX0 (k + 1) f fd ps sp := by
  obtain ⟨oc, od, kV, doc, pm, an, cdv, ct, osl, rfl, lk, hcd⟩ := F.ex
  refine ⟨len, fun A outer s H args us vs Q E g rm ev bd vr h => ?_⟩
  obtain ⟨t, ht, q⟩ := hbody cdv A outer s H vs Q E g (rm.deeper _) h
  exact enter1 lk hcd S (len _ _ _ _ h) rm ev bd vr ⟨t, ht.nox, q⟩
/-- the law's call from an abstract heap in which nothing but the script is tracked -/
theorem lawCore {mb : Str → Option Value} {fa a : Addr} {fd : FuncData} {x : Str} {sp : Sp} {s1 : Shared} {vs : List Value} {H : Hp}
    (inK : K.In s1.heap) (nsM : s1.heap.Ns mainGlobals mg) (nsB : s1.heap.Ns builtinsNs mb) (bb : ∀ x : Str, x ≠ "__name__" → mb x = bootBuiltins x) (lim : s1.heap.NoLimit) (g0 : s1.gens = #[])
    (ea : s1.heap.get? a = some { cls := .type "list", data := .seq vs.toArray }) (rm : Room k callerA) (F : ∀ base : Heap, K.In base → base.Ns mainGlobals mg → FnG P w K mg base CX k fa fd [x] sp)
    (bd : ∀ (s : Shared) (u : Value), BindsTo s fd ⟨[u], []⟩ [(x, u)]) (noX : ∀ H e s', CX [] H s1 (fun _ _ _ => False) e s' → False)
    (O : Only H) (pr : sp [.ref a] H (fun v _ => v = .bl true) fun _ _ _ => False) (ok : HOk P w H s1.heap) (hA : ∀ b, H b ≠ none → b = a) (hK : H a ≠ none → K.lookup a = none) :
    codeAny (model P w) callerA (.call (.ref fa) ⟨[.ref a], []⟩) (fun r s' => r = .ok (.ret (.bool true)) ∧ OldK s1.heap s'.heap ∧ s'.os = s1.os ∧ AllBare s'.gens) s1 := by
  have nd : ∀ {b : Addr} {o : Obj} {es : Array DictEntry} {ep : Nat}, s1.heap.get? b = some o → o.data = .dict es ep → H b = none := by
    intro b o es ep e d
    refine Classical.byContradiction fun q => ?_
    obtain rfl := hA b q
    rw [ea] at e
    obtain rfl := Option.some.inj e
    exact nomatch d
  have nsH : ∀ {b : Addr} {m : Str → Option Value}, s1.heap.Ns b m → (hidT s1.heap H).Ns b m := by
    rintro b m ⟨o, es, ep, e, d, r⟩
    exact ⟨o, es, ep, hidT_get e (nd e d), d, r⟩
  have inH : K.In (hidT s1.heap H) := by
    intro b o e
    refine hidT_get (inK b o e) (Classical.byContradiction fun q => ?_)
    obtain rfl := hA b q
    rw [hK q] at e
    exact nomatch e
  obtain ⟨ml, lim1, lim2⟩ := lim
  have ev : Env0 P w K mg (hidT s1.heap H) callerA [] s1 H := {
    frames := rfl
    mod := ⟨inH, nsH nsM, ⟨mb, nsH nsB, bb⟩, ⟨ml, nsH lim1, lim2⟩⟩
    bs := fun b o e => of_hidT e
    bsz := Nat.le_of_eq (hidT_size _ _)
    funs := trivial
    frf := fun b hb => nomatch (show b ∈ ([] : List Addr) from hb)
    hok := ok
    bare := .of_eq g0 }
  refine codeAny_mono ((F _ inH (nsH nsM)).run callerA [] s1 H ⟨[.ref a], []⟩ [.ref a] [.ref a] _ _ rfl rm ev (bd s1 (.ref a)) (.cons rfl .nil) pr) fun r s2 z => ?_
  rcases r with e | fl
  · exact absurd z (noX H e s2)
  · cases fl with
    | next => exact False.elim z
    | brk => exact False.elim z
    | cont => exact False.elim z
    | ret u =>
      obtain ⟨v, H2, os2, bare2, un, ok2, rv, q⟩ := z
      obtain rfl : v = .bl true := q
      obtain rfl : u = Value.bool true := rv
      refine ⟨rfl, OldK.of_keep fun b o e => ?_, os2, bare2⟩
      rcases O b with q | ⟨ob, xs, q⟩
      · exact un.keep b o e q (fun z => nomatch (show b ∈ ([] : List Addr) from z)) (fun z => nomatch z)
      · obtain ⟨e1, _⟩ := ok b _ q
        obtain ⟨e2, _⟩ := ok2 b _ (un.frzs b ob _ q)
        rw [e] at e1
        rw [Option.some.inj e1]
        exact e2
/-- the law's call -/
theorem lawCall {mb : Str → Option Value} {fa a : Addr} {fd : FuncData} {x : Str} {sp : Sp} {s1 : Shared} {vs : List Value} {ns : List Int}
    (inK : K.In s1.heap) (nsM : s1.heap.Ns mainGlobals mg) (nsB : s1.heap.Ns builtinsNs mb) (bb : ∀ x : Str, x ≠ "__name__" → mb x = bootBuiltins x) (lim : s1.heap.NoLimit) (g0 : s1.gens = #[])
    (ea : s1.heap.get? a = some { cls := .type "list", data := .seq vs.toArray }) (ni : IntsAre vs ns) (hl : ns.length ≤ sizeLine) (rm : Room k callerA) (F : ∀ base : Heap, K.In base → base.Ns mainGlobals mg → FnG P w K mg base CX k fa fd [x] sp)
    (bd : ∀ (s : Shared) (u : Value), BindsTo s fd ⟨[u], []⟩ [(x, u)]) (noX : ∀ H e s', CX [] H s1 (fun _ _ _ => False) e s' → False)
    (pr : ∀ H : Hp, Only H → SqL K H a (ns.map V.int) → sp [.ref a] H (fun v _ => v = .bl true) fun _ _ _ => False) :
    codeAny (model P w) callerA (.call (.ref fa) ⟨[.ref a], []⟩) (fun r s' => r = .ok (.ret (.bool true)) ∧ OldK s1.heap s'.heap ∧ s'.os = s1.os ∧ AllBare s'.gens) s1 := by
  have rv := vals_ints ni
  cases hk : K.lookup a with
  | none =>
    let H0 : Hp := fun b => if b = a then some (.frz { cls := .type "list", data := .seq vs.toArray } (.lst (ns.map V.int))) else none
    have at0 : H0 a = some (.frz { cls := .type "list", data := .seq vs.toArray } (.lst (ns.map V.int))) := if_pos rfl
    have off : ∀ b, b ≠ a → H0 b = none := fun b hb => if_neg hb
    have O : Only H0 := fun b => if hb : b = a then .inr ⟨_, _, hb ▸ at0⟩ else .inl (off b hb)
    refine lawCore inK nsM nsB bb lim g0 ea rm F bd noX O (pr H0 O (.inl (.inr ⟨_, at0⟩))) (fun b u z => ?_) (fun b z => Classical.byContradiction fun hb => z (off b hb)) (fun _ => hk)
    by_cases hb : b = a
    · rw [hb, at0] at z
      obtain rfl := Option.some.inj z
      rw [hb]
      exact ⟨ea, by rw [List.length_map]; exact hl, vs, _, rv, ea⟩
    · rw [off b hb] at z
      exact nomatch z
  | some o =>
    have e := inK a o hk
    rw [ea] at e
    obtain rfl := Option.some.inj e
    have O : Only (fun _ => none) := fun b => .inl rfl
    exact lawCore inK nsM nsB bb lim g0 ea rm F bd noX O (pr _ O (.inr ⟨_, vs.toArray, _, hk, rfl, rfl, rfl, by rw [List.size_toArray, ni.length]; exact hl, by simpa using rv⟩))
      (fun b u z => nomatch (show (none : Option HO) = some u from z)) (fun b z => absurd rfl z) fun z => absurd rfl z
end
/-- what k_head leaves, from the law's promise -/
theorem walkG {l : PySem.W.OpenLaw} {n k : Nat} {q : Program} {loose : List Str} {XP : (Str → Option Value) → Heap → Prop} {YP : World → Heap → Prop} {d : DefRec} {K : Params → PySem.W.Frag} {x : Str} {sp : PySem.W.Frag → Sp}
    (hn : l.most = some n) (hn2 : n ≤ sizeLine) (hdf : d.params.defaults = []) (rm : Room k callerA) (hY : ∀ (w : World) (h : Heap), YP w h → (K w.params).In h)
    (F : ∀ (w : World) (mg : Str → Option Value) (fa : Addr) (h : Heap), (K w.params).In h → h.Ns mainGlobals mg → mg d.name = some (.ref fa) →
      ∃ fd : FuncData, (∀ (s : Shared) (u : Value), BindsTo s fd ⟨[u], []⟩ [(x, u)]) ∧ ∀ base : Heap, (K w.params).In base → base.Ns mainGlobals mg → FnG l.prog w (K w.params) mg base CX0 k fa fd [x] (sp (K w.params)))
    (pr : ∀ (w : World) (H : Hp) (a : Addr) (ns : List Int), ns.length ≤ n → Only H → SqL (K w.params) H a (ns.map V.int) → sp (K w.params) [.ref a] H (fun v _ => v = .bl true) fun _ _ _ => False) :
    PySem.W.WalkO q loose XP YP l.row.toRowW d [] (fun f vs => PySem.call f vs) := by
  refine Att.attach_call hn hdf ?_
  intro w s0 s1 mg mb fa o pm cd doc a vs ns G Y ho hd hcd hmg hobj hints hlen hg
  obtain ⟨fd, hb, hF⟩ := F w mg fa _ (hY w _ Y) G.T.g hmg
  exact lawCall (hY w _ Y) G.T.g G.T.b G.T.builtins G.T.nolimit hg hobj hints (Nat.le_trans hlen hn2) rm hF hb (fun _ _ _ z => z) fun H O S => pr w H a ns hlen O S
section
variable {X : Cx}
/-- repr(x) of data, where no repr is under way -/
def rRepr (K : PySem.W.Frag) : List V → Hp → VK → Prop := fun xs H Q => ∃ (v : V) (d : PyData), xs = [v] ∧ Dp K H v d ∧ d.showable = true ∧ d.hasDict = false ∧ d.depth ≤ 20 ∧ d.shown.length ≤ sizeLine ∧ Q (.str d.shown) H
theorem call_repr_dp (g : X.A.guards = some []) (ru : X.A.units + 64 < cLine) : CallR X (.builtin "repr") (rRepr X.K) := by
  intro pins s σ H xs us Q I r h
  obtain ⟨v, d, rfl, hd, sh, nd, dp, sz, q⟩ := h
  obtain ⟨u, rfl, rv⟩ := vals1 r
  obtain ⟨as, rd⟩ := Dp.reads I d v u hd rv
  have fin : ∀ {tk : Tok} {s' : Shared}, Inv X pins σ H s' → EP X pins σ Q (.str d.shown tk) s' := fun J => ⟨.str _, H, J, ⟨_, rfl⟩, q⟩
  cases hd with
  | non =>
    cases rv
    exact PySem.P.repr_of_none (fin (I.tok _))
  | bl b =>
    cases rv
    exact PySem.P.repr_of_bool (fin (I.tok _))
  | int i =>
    obtain ⟨t, rfl⟩ := rv
    exact PySem.P.repr_of_int (of_decide_eq_true sh) (fin (I.tok _))
  | str x =>
    obtain ⟨t, rfl⟩ := rv
    exact PySem.P.repr_of_str (fin (I.tok _)) sz
  | lst _ _ =>
    cases rv
    exact repr_of_reads' rd sh (fun e => by rw [nd] at e; cases e) g (by omega) (fun _ _ e => e) (fun h' u tk hk => fin (I.kept (t' := tk) hk)) sz
  | tup _ _ =>
    cases rv
    exact repr_of_reads' rd sh (fun e => by rw [nd] at e; cases e) g (by omega) (fun _ _ e => e) (fun h' u tk hk => fin (I.kept (t' := tk) hk)) sz
end
end Gd
namespace Ex
open PySem PySem.Spec PyProof.Rows L2
open Builtin Builtin.ObjectAttr
/-- what the written part says of an exception class with attributes -/
structure Oex (K : PySem.W.Frag) (C : Addr) : Prop where
  ex : ∃ (B newId initId : String) (bmB : List Value), ExcBaseFacts B newId initId bmB ∧ StoreFacts B bmB "object.__setattr__" "object" ∧ PySem.W.excOver K C bmB = true ∧ PySem.W.excInitIn K C bmB newId = true
  hd : PySem.W.hasDictIn K C = true
  sa : PySem.W.findIn K (.ref C) "__setattr__" = some (some (.builtin "object.__setattr__"))
  kC : PySem.W.keepIn K (.ref C) = true
abbrev mroVE : List Value := [.type "ValueError", .type "Exception", .type "BaseException", .type "object"]
abbrev mroTE : List Value := [.type "TypeError", .type "Exception", .type "BaseException", .type "object"]
/-- all that is asked of such a class, by a look at the written part; te: over TypeError, else over ValueError -/
def exB (K : PySem.W.Frag) (C : Addr) (te : Bool) : Bool :=
  (if te then PySem.W.excOver K C mroTE && PySem.W.excInitIn K C mroTE "TypeError.__new__" else PySem.W.excOver K C mroVE && PySem.W.excInitIn K C mroVE "ValueError.__new__") && (PySem.W.hasDictIn K C && (decide (PySem.W.findIn K (.ref C) "__setattr__" = some (some (.builtin "object.__setattr__"))) && (PySem.W.keepIn K (.ref C) &&
    (decide (PySem.W.findIn K (.ref C) "__getattribute__" = some (some (.builtin "BaseException.__getattribute__"))) && (decide (PySem.W.findIn K (.ref C) "__getattr__" = some none) && (decide (PySem.W.subIn K (.ref C) (.type "BaseException") = some true) &&
    (decide (PySem.W.findIn K (.ref C) "__class__" = some (some (.builtin "object.__class__"))) && (decide (PySem.W.specialIn K (.builtin "object.__class__") "__get__" = some (some (.builtin "getset_descriptor.__get__"))) &&
    (decide (PySem.W.takesIn K (.builtin "object.__class__") = some true) && decide (PySem.W.mroIn K C (.type "object") = some true))))))))))
structure Xc (K : PySem.W.Frag) (C : Addr) : Prop where
  o : Oex K C
  x : ExcC K C
  f : XfC K C
theorem exB_ok {K : PySem.W.Frag} {C : Addr} {te : Bool} (h : exB K C te = true) : Xc K C := by
  unfold exB at h
  simp only [Bool.and_eq_true, decide_eq_true_eq] at h
  obtain ⟨h0, h1, h2, h3, h4, h5, h6, h7, h8, h9, h10⟩ := h
  refine ⟨⟨?_, h1, h2, h3⟩, ⟨h4, h5, h6, h1, h7, h8, h9, h10⟩, ⟨h4, h5, h6, h1⟩⟩
  cases te with
  | true =>
    rw [if_pos rfl, Bool.and_eq_true] at h0
    exact ⟨_, _, _, _, F.excBase_TypeError, F.store_TypeError, h0.1, h0.2⟩
  | false =>
    rw [if_neg (by decide), Bool.and_eq_true] at h0
    exact ⟨_, _, _, _, F.excBase_ValueError, F.store_ValueError, h0.1, h0.2⟩
section
variable {prog : Program} {w : World} {A : Around} {R : Result → Shared → Prop} {hp : Heap} {g : Array GenState} {d : Drawn} {t : Nat} {os : OsState}
/-- the first store: a dict is laid -/
theorem sto_new {K : PySem.W.Frag} {B : String} {bmB : List Value} {name : Str} {tk : Tok} {v : Value} {x C : Addr} {fv : Array Value} {cd : ClassData} (SF : StoreFacts B bmB "object.__setattr__" "object")
    (X : K.In hp) (hx : hp.get? x = some { cls := .ref C, data := .fields fv }) (hcd : PySem.W.clsIn K C = some cd) (ov : PySem.W.excOver K C bmB = true) (hh : cd.hasDict = true) (ha : PySem.W.takerIn K C name = some none)
    (go : ∀ h' tk' dx, (∀ b o, b ≠ x → hp.get? b = some o → h'.get? b = some o) → hp.objs.size ≤ dx → dx ≠ x → h'.get? x = some { cls := .ref C, dict := some dx, data := .fields fv } →
      h'.Ns1 dx (fun y => if y = name then some v else none) → R (.ok (.ret .none)) ⟨h', g, d, tk', os⟩) :
    codeAny (model prog w) A (.call (.builtin "object.__setattr__") ⟨[.ref x, .str name tk, v], []⟩) R ⟨hp, g, d, t, os⟩ := by
  have apart : x ≠ hp.objs.size := Nat.ne_of_lt (Heap.lt_size hx)
  have lk : PySem.W.Looks (model prog w) hp (classData C) cd := PySem.W.looks_clsIn X hcd
  refine PySem.W.osa_openX SF X (ox := { cls := .ref C, data := .fields fv }) (od := none) ⟨hx, rfl, rfl, trivial⟩ ov ha fun b => ?_
  show wpAny _ _ (storeInOwnDict (.ref x) (.ref C) (.str name tk) name v b) _ _ _
  obtain ⟨nm, bs, mro, ns, qn, hd, sn, sb, ab, col, del⟩ := cd
  dsimp only at hh
  subst hh
  unfold storeInOwnDict ownDictForStores
  repeat (first | with_reducible refine PX.store_in_new ?_ ?_ | with_reducible refine wpAny_loadPart_at hx ?_ | with_reducible refine lk.at ?_ | wp_step)
  · exact ⟨_, #[], _, (Heap.get?_update_ne _ _ _ _ apart.symm).trans (Heap.get?_push_at rfl rfl), rfl, fun e he => absurd he (by simp), fun _ => rfl⟩
  · intro h' tk' ns' same
    have hx1 := Heap.get?_push_of_some { cls := .type "dict", data := .dict #[] } hx
    exact go h' tk' hp.objs.size (fun b o hb ho => (same.2 b (Nat.ne_of_lt (Heap.lt_size ho))).trans ((Heap.get?_update_ne _ _ _ _ hb).trans (Heap.get?_push_of_some _ ho))) (Nat.le_refl _) apart.symm
      ((same.2 x apart).trans (Heap.get?_update_self _ hx1 rfl)) ns'
/-- a further store -/
theorem sto_old {K : PySem.W.Frag} {B : String} {bmB : List Value} {name : Str} {tk : Tok} {v : Value} {x C dx : Addr} {fv : Array Value} {cd : ClassData} {m0 : Str → Option Value} {nl : List Str} (SF : StoreFacts B bmB "object.__setattr__" "object")
    (X : K.In hp) (hx : hp.get? x = some { cls := .ref C, dict := some dx, data := .fields fv }) (nd : hp.Ns1 dx m0) (wi : Within m0 nl) (z : nl.length ≤ 1000) (hcd : PySem.W.clsIn K C = some cd) (ov : PySem.W.excOver K C bmB = true) (hh : cd.hasDict = true) (ha : PySem.W.takerIn K C name = some none)
    (go : ∀ h' tk', (∀ b o, b ≠ dx → hp.get? b = some o → h'.get? b = some o) → h'.Ns1 dx (fun y => if y = name then some v else m0 y) → R (.ok (.ret .none)) ⟨h', g, d, tk', os⟩) :
    codeAny (model prog w) A (.call (.builtin "object.__setattr__") ⟨[.ref x, .str name tk, v], []⟩) R ⟨hp, g, d, t, os⟩ := by
  obtain ⟨oD, _, _, gD, _, _⟩ := nd.count wi
  have lk : PySem.W.Looks (model prog w) hp (classData C) cd := PySem.W.looks_clsIn X hcd
  refine PySem.W.osa_openX SF X (ox := { cls := .ref C, dict := some dx, data := .fields fv }) (od := some oD) ⟨hx, rfl, rfl, gD⟩ ov ha fun b => ?_
  show wpAny _ _ (storeInOwnDict (.ref x) (.ref C) (.str name tk) name v b) _ _ _
  obtain ⟨nm, bs, mro, ns, qn, hd, sn, sb, ab, col, del⟩ := cd
  dsimp only at hh
  subst hh
  unfold storeInOwnDict ownDictForStores
  repeat (first | with_reducible refine OEX.store_in_old nd wi z ?_ | with_reducible refine wpAny_loadPart_at hx ?_ | with_reducible refine lk.at ?_ | wp_step)
  intro h' tk' ns' same
  exact go h' tk' (fun b o hb ho => (same.2 b hb).trans ho) ns'
end
section
variable {X : Cx} {pins : List (Addr × Obj)} {σ : L2.St} {H : Hp} {s : Shared} {a C dx : Addr} {f : Str} {y : V} {u : Value} {fs : List (Str × V)} {Q : Unit → Shared → Prop} {E : Value → Shared → Prop} {A : Around}
/-- an object written, a new one laid beside it -/
theorem swapNew {φ : Heap → Prop} {oa od : HO} {h' : Heap} {t' : Nat} (I : Inv X pins σ H s) (e : H a = some (.ext φ)) (dn : s.heap.objs.size ≤ dx) (ne : dx ≠ a) (k : ∀ b o, b ≠ a → s.heap.get? b = some o → h'.get? b = some o)
    (hx : ∃ o, h'.get? a = some o) (pa : ∀ H1, ObjOk X.prog X.w H1 h' a oa) (pd : ∀ H1, ObjOk X.prog X.w H1 h' dx od) : Inv X pins σ (upd (upd H dx od) a oa) { s with heap := h', toks := t' } := by
  have n0 : H dx = none := I.hok.fresh dn
  have old : ∀ {b : Addr} {o : Obj}, s.heap.get? b = some o → b ≠ dx := fun q => Nat.ne_of_lt (Nat.lt_of_lt_of_le (Heap.lt_size q) dn)
  have free : ∀ {b : Addr}, H b = none → b ≠ a := fun n z => by
    subst z
    rw [e] at n
    exact nomatch n
  have other : ∀ {b : Addr} {v : HO}, H b = some v → (∀ ψ, v ≠ .ext ψ) → upd (upd H dx od) a oa b = some v := fun {b v} q m => by
    have h1 : b ≠ a := fun z => by
      subst z
      rw [e] at q
      exact m φ (Option.some.inj q).symm
    rw [upd_ne h1, upd_ne (ne_of_none q n0)]
    exact q
  have U : Un X.fs [] H (upd (upd H dx od) a oa) s.heap h' := {
    keep := fun b o q n _ _ => k b o (free n) q
    slot := fun b o q n _ _ => Exists.intro o.slots (k b o (free n) q)
    free := fun b o q n _ => (upd_ne (free n)).trans ((upd_ne (old q)).trans n)
    there := fun b o q _ => if hb : b = a then hb ▸ hx else Exists.intro o (k b o hb q)
    tups := fun b xs q => other q (fun ψ z => nomatch z)
    frzs := fun b o v q => other q (fun ψ z => nomatch z)
    tbls := fun b ps q => Exists.intro #[] (by rw [other q (fun ψ z => nomatch z)]; simp) }
  refine I.un U fun b o q => ?_
  · by_cases hb : b = a
    · subst hb
      rw [upd_same] at q
      obtain rfl := Option.some.inj q
      exact pa _
    · rw [upd_ne hb] at q
      by_cases hd : b = dx
      · subst hd
        rw [upd_same] at q
        obtain rfl := Option.some.inj q
        exact pd _
      · rw [upd_ne hd] at q
        refine (I.hok b o q).stay (fun c v hc z => k c v ?_ z) (fun c hc => other hc (fun ψ z => nomatch z)) fun c xs hc => other hc (fun ψ z => nomatch z)
        rcases hc with rfl | hc
        · exact hb
        · intro z
          subst z
          rw [e] at hc
          exact nomatch hc
theorem taker0 {K : PySem.W.Frag} (h : PySem.W.findIn K (.ref C) f = some none) : PySem.W.takerIn K C f = some none := by
  unfold PySem.W.takerIn
  rw [h]
  rfl
theorem set_new (T : Oex X.K C) (I : Inv X pins σ H s) (e : H a = some (exo a C none)) (no : PySem.W.findIn X.K (.ref C) f = some none) (ry : RelV y u)
    (go : ∀ dx s', H dx = none → dx ≠ a → Inv X pins σ (upd (upd H dx (exd dx [(f, y)])) a (exo a C (some dx))) s' → Q () s') : wpAny (model X.prog X.w) A (setAttr (.ref a) f u) Q E s := by
  obtain ⟨B, newId, initId, bmB, FB, SF, ov, _⟩ := T.ex
  obtain ⟨cd, hcl, hdc⟩ := PySem.W.any_some T.hd
  obtain ⟨t1, ho⟩ := exo_at I.hok e
  obtain ⟨hp, g, d, t, os⟩ := s
  refine PySem.W.set_plain I.kIn (ox := { cls := .ref C, dict := none, data := .fields #[.ref t1, .none, .none, .none, .bool false, .none] }) (od := none) ⟨ho, rfl, rfl, trivial⟩ T.sa ?_
  refine sto_new SF I.kIn ho hcl ov hdc (taker0 no) fun h' tk' dx k dn ne hx hn => ?_
  refine go dx _ (I.hok.fresh dn) ne (swapNew (t' := tk') I e dn ne k ⟨_, hx⟩ (fun H1 => exo_ok hx) fun H1 => exd_ok hn (relO_put (fs := []) ry fun g => True.intro))
theorem set_old (T : Oex X.K C) (I : Inv X pins σ H s) (e : H a = some (exo a C (some dx))) (ed : H dx = some (exd dx fs)) (hl : fs.length ≤ 900) (no : PySem.W.findIn X.K (.ref C) f = some none) (ry : RelV y u)
    (go : ∀ s', Inv X pins σ (upd H dx (exd dx ((f, y) :: fs))) s' → Q () s') : wpAny (model X.prog X.w) A (setAttr (.ref a) f u) Q E s := by
  obtain ⟨B, newId, initId, bmB, FB, SF, ov, _⟩ := T.ex
  obtain ⟨cd, hcl, hdc⟩ := PySem.W.any_some T.hd
  obtain ⟨t1, ho⟩ := exo_at I.hok e
  obtain ⟨mA, hns, rel⟩ := exd_at I.hok ed
  have wi := within_of rel
  obtain ⟨hp, g, d, t, os⟩ := s
  obtain ⟨oD, _, _, hoD, _, _⟩ := hns.count wi
  refine PySem.W.set_plain I.kIn (ox := { cls := .ref C, dict := some dx, data := .fields #[.ref t1, .none, .none, .none, .bool false, .none] }) (od := some oD) ⟨ho, rfl, rfl, hoD⟩ T.sa ?_
  refine sto_old SF I.kIn ho hns wi (by rw [List.length_map]; omega) hcl ov hdc (taker0 no) fun h' tk' k hn => ?_
  have there : ∃ o, h'.get? dx = some o := by
    obtain ⟨o, _, _, e', _⟩ := hn
    exact ⟨o, e'⟩
  exact go _ (I.write (t' := tk') (x := dx) (e := dx) (o := exd dx ((f, y) :: fs)) (by rw [ed]; exact True.intro) (.inl rfl) k there (exd_ok hn (relO_put ry rel)))
end
/-- self.f = e -/
def tSet (K : PySem.W.Frag) (f : Str) (to te : TE) : TS := fun D σ H => te σ H fun y H1 => to σ H1 fun x H2 => ∃ a C : Addr, x = .ref a ∧ Oex K C ∧ PySem.W.findIn K (.ref C) f = some none ∧
  ((H2 a = some (exo a C none) ∧ ∀ dx, H2 dx = none → dx ≠ a → D.nx σ (upd (upd H2 dx (exd dx [(f, y)])) a (exo a C (some dx)))) ∨
    ∃ (dx : Addr) (fs : List (Str × V)), H2 a = some (exo a C (some dx)) ∧ H2 dx = some (exd dx fs) ∧ fs.length ≤ 900 ∧ D.nx σ (upd H2 dx (exd dx ((f, y) :: fs))))
theorem ps_set {X : Cx} {o e : Expr} {to te : TE} {f : Str} {p' pos : Pos} (ho : PE X o to) (he : PE X e te) (hs : swapsWith e (some (.Attribute o f p')) pos.line X.env = pure false := by rfl) : PS X (.Assign [.Attribute o f p'] e pos) (tSet X.K f to te) := by
  refine ⟨fun pins s σ H D I h => plainObj_wpAny_Assign_Attribute (thn (he.run pins s σ H _ I h) fun v s1 ⟨y, H1, I1, r1, q1⟩ => thn (ho.run pins s1 σ H1 _ I1 q1) fun u s2 ⟨x, H2, I2, r2, a, C, ex, T, no, q⟩ => ?_) hs⟩
  subst ex
  obtain rfl : u = Value.ref a := r2
  rcases q with ⟨ea, q⟩ | ⟨dx, fs, ea, ed, hl, q⟩
  · exact set_new T I2 ea no r1 fun dx s' n ne J => ⟨σ, _, J, q dx n ne⟩
  · exact set_old T I2 ea ed hl no r1 fun s' J => ⟨σ, _, J, q⟩
/-- an exception stands at a: its class, its attributes -/
def ExAt (H : Hp) (a C : Addr) (fs : List (Str × V)) : Prop := (fs = [] ∧ H a = some (exo a C none)) ∨ ∃ dx, H a = some (exo a C (some dx)) ∧ H dx = some (exd dx fs)
theorem ExAt.same {H H' : Hp} {a C : Addr} {fs : List (Str × V)} (h : ExAt H a C fs) (s : Same H H') : ExAt H' a C fs := by
  rcases h with ⟨e, h⟩ | ⟨dx, h1, h2⟩
  · exact .inl ⟨e, s _ _ h⟩
  · exact .inr ⟨dx, s _ _ h1, s _ _ h2⟩
section
variable {X : Cx} {pins : List (Addr × Obj)} {σ : L2.St} {H : Hp} {s : Shared} {a C : Addr} {fs : List (Str × V)}
theorem ExAt.inst (h : ExAt H a C fs) (I : Inv X pins σ H s) : ∃ ox od, PySem.W.InstAt s.heap a ox C od := by
  rcases h with ⟨_, h⟩ | ⟨dx, h1, h2⟩
  · obtain ⟨t1, ho⟩ := exo_at I.hok h
    exact ⟨_, none, ho, rfl, rfl, trivial⟩
  · obtain ⟨t1, ho⟩ := exo_at I.hok h1
    obtain ⟨mA, hns, _⟩ := exd_at I.hok h2
    obtain ⟨od, hod, _⟩ := lookIn_ns hns
    exact ⟨_, some od, ho, rfl, rfl, hod⟩
/-- isinstance(e, c) -/
def rIsV (K : PySem.W.Frag) : List V → Hp → VK → Prop := fun xs H Q => ∃ (a C : Addr) (fs : List (Str × V)) (c : V) (cv : Value) (b : Bool), xs = [.ref a, c] ∧ ExAt H a C fs ∧ (∀ u, RelV c u → u = cv) ∧ ExcC K C ∧ PySem.W.kitOne K (.ref C) cv = some b ∧ Q (.bl b) H
theorem call_isV : CallR X (.builtin "isinstance") (rIsV X.K) := by
  intro pins s σ H xs us Q I r h
  obtain ⟨a, C, fs, c, cv, b, rfl, hx, hcv, T, e, q⟩ := h
  obtain ⟨u1, u2, rfl, r1, r2⟩ := vals2 r
  cases r1
  obtain rfl := hcv _ r2
  obtain ⟨ox, od, J⟩ := hx.inst I
  have hcl : (PySem.W.clsIn X.K C).isSome = true := by
    obtain ⟨cd, hc, _⟩ := PySem.W.any_some T.hd
    rw [hc]
    rfl
  exact PySem.W.kia_one (PySem.W.kitx_exc hcl T.hg T.hk T.hs T.ha T.hn T.ht T.hm) I.kIn J e (fun z => nomatch z) fun tk => ⟨.bl b, H, I.kept (t' := tk) fun _ _ z => z, rfl, q⟩
end
/-- e.f of an exception held as a value -/
def tFv (K : PySem.W.Frag) (f : Str) (te : TE) : TE := fun σ H Q => te σ H fun x H1 => ∃ (a C : Addr) (fs : List (Str × V)) (v : V), x = .ref a ∧ ExAt H1 a C fs ∧ XfC K C ∧ PySem.W.findIn K (.ref C) f = some none ∧ fs.lookup f = some v ∧ Q v H1
theorem pe_fv {X : Cx} {e : Expr} {te : TE} {pos : Pos} {n : Str} (he : PE X e te) (hb : attributeBase e n X.env (eval e X.env) = eval e X.env := by rfl) : PE X (.Attribute e n pos) (tFv X.K n te) := by
  refine ⟨fun pins s σ H Q I h => attr_of hb (thn (he.run pins s σ H _ I h) fun u s1 hh => ?_)⟩
  obtain ⟨x, H1, I1, rx, a, C, fs, v, ex, ea, T, no, l, q⟩ := hh
  subst ex
  obtain rfl : u = Value.ref a := rx
  rcases ea with ⟨rfl, _⟩ | ⟨dx, h1, h2⟩
  · exact nomatch l
  · obtain ⟨t1, ho⟩ := exo_at I1.hok h1
    obtain ⟨mA, hns, rel⟩ := exd_at I1.hok h2
    obtain ⟨od, hod, hl⟩ := lookIn_ns hns
    obtain ⟨u, hu, ru⟩ := RelO.some_of (v := v) (o := mA n) (by rw [← l]; exact rel n)
    have J : PySem.W.InstAt s1.heap a _ C (some od) := ⟨ho, rfl, rfl, hod⟩
    exact HandSPX.exc_get I1.kIn J T.ga T.gg T.exC (PySem.W.findObj_own T.hdC no rfl (by rw [hl, hu])) (handed_of ru) ⟨v, H1, I1.tok _, ru, q⟩
end Ex
namespace Ex
open PySem PySem.Spec PyProof.Rows L2
open Builtin Builtin.ObjectAttr
section
variable {M : Model} {A : Around} {E : Value → Shared → Prop} {h : Heap} {g : Array GenState} {d : Drawn} {t : Nat} {os : OsState}
variable {nm q : Str} {C N : Addr} {bs bm bmB : List Value} {hdct : Bool} {sn : List Str} {sub : List Value} {ab : Bool} {col : Option Bool} {dd : Option Addr} {k0 k1 k2 k3 k5 : Option Value} {B newId initId : String}
theorem kw_check (FB : ExcBaseFacts B newId initId bmB) (same : ∀ X : String, bm.contains (.type X) = bmB.contains (.type X)) {rest : List Value} {kw : List (Str × Value)} {Q : Unit → Shared → Prop}
    (hC : h.get? C = some (excClassObj nm q C N bs bm hdct sn sub ab col dd k0 k1 k2 k3 k5 newId)) (hq : Q () ⟨h, g, d, t, os⟩) : wpAny M A (checkBuiltinCall newId ⟨.ref C :: rest, kw⟩) Q E ⟨h, g, d, t, os⟩ := by
  have inB : (Value.ref C :: bm).contains (.type B) = true := by rw [List.contains_cons, same, FB.hasB, Bool.or_true]
  have star := FB.noStar
  simp only [checkBuiltinCall, FB.newKind, FB.newSplit, FB.newRow]
  repeat (first
    | refine wpAny_loadPart_at hC ?_
    | (refine wpAny_isSubtype_exc hC ?_; rw [inB])
    | refine wpAny_staticBase_exc hC ?_
    | refine wpAny_madeBy_exc hC ?_
    | simp only [bne_self_eq_false, Bool.false_eq_true, if_false]
    | wp_step)
  exact hq
theorem kw_checkT {rest : List Value} {kw : List (Str × Value)} {Q : Unit → Shared → Prop} (hC : h.get? C = some (excClassObj nm q C N bs bm hdct sn sub ab col dd k0 k1 k2 k3 k5 newId)) (hq : Q () ⟨h, g, d, t, os⟩) :
    wpAny M A (checkBuiltinCall "type.__call__" ⟨.ref C :: rest, kw⟩) Q E ⟨h, g, d, t, os⟩ := by
  have ts := tc_sub
  have ty : (⟨h, g, d, t, os⟩ : Shared).TypeIs (.ref C) "type" := ⟨_, hC, rfl⟩
  simp only [checkBuiltinCall, tc_kind, tc_split]
  repeat (any_goals (first
    | assumption
    | with_reducible refine wpAny_loadPart_at hC ?_
    | with_reducible refine wpAny_onRaise ?_
    | with_reducible refine wpAny_map ?_
    | wp_step))
end
section
variable {prog : Program} {w : World} {A : Around} {E : Value → Shared → Prop} {R : Result → Shared → Prop} {h : Heap} {g : Array GenState} {d : Drawn} {t : Nat} {os : OsState}
variable {nm q : Str} {C N : Addr} {bs bm bmB : List Value} {hdct : Bool} {sn : List Str} {sub : List Value} {ab : Bool} {col : Option Bool} {dd : Option Addr} {k0 k1 k2 k3 k5 : Option Value} {B newId initId : String}
theorem kw_new (FB : ExcBaseFacts B newId initId bmB) (same : ∀ X : String, bm.contains (.type X) = bmB.contains (.type X)) {rest : List Value} {kw : List (Str × Value)} (small : rest.length ≤ sizeLine)
    (hC : h.get? C = some (excClassObj nm q C N bs bm hdct sn sub ab col dd k0 k1 k2 k3 k5 newId))
    (go : R (.ok (.ret (.ref (h.objs.size + 1)))) ⟨(h.push (PySem.W.kdv_tup rest)).push (PySem.HandSPX.excO C h.objs.size), g, d, t, os⟩) :
    codeAny (model prog w) A (.builtin newId ⟨.ref C :: rest, kw⟩) R ⟨h, g, d, t, os⟩ := by
  have ends := FB.ends
  have inB : (Value.ref C :: bm).contains (.type B) = true := by rw [List.contains_cons, same, FB.hasB, Bool.or_true]
  have noA : (Value.ref C :: bm).contains (.type "AttributeError") = false := by rw [List.contains_cons, same, FB.noAttr] <;> rfl
  have noN : (Value.ref C :: bm).contains (.type "NameError") = false := by rw [List.contains_cons, same, FB.noName] <;> rfl
  refine codeAny_builtinAt FB.entry (?_ : PySem.wpAt _ _ _ (Builtin.«BaseException.__new__» _) _ _ _)
  unfold Builtin.«BaseException.__new__»
  refine PySem.wpAt_bind (?_ : PySem.wpAt _ _ _ (stack >>= _) _ _ _)
  refine PySem.wpAt_bind (PySem.wpAt_stack fun p below => PySem.wpAt_of_wpAny ?_)
  wp_walk
  refine PySem.wpAt_of_wpAny ?_
  rw [FB.owner]
  repeat (first
    | with_reducible refine wpAny_madeHere_exc FB.canon hC ?_
    | with_reducible refine wpAny_loadPart_at hC ?_
    | (with_reducible refine wpAny_isSubtype_exc hC ?_; first | rw [inB] | rw [noA] | rw [noN])
    | wp_step)
  show R _ _
  rw [Heap.size_push] <;> exact go
theorem kw_typeCall (FB : ExcBaseFacts B newId initId bmB) (same : ∀ X : String, bm.contains (.type X) = bmB.contains (.type X)) {rest : List Value} {kw : List (Str × Value)} {fI : Addr} {Q : Fin → Shared → Prop} (small : rest.length ≤ sizeLine)
    (hC : h.get? C = some (excClassObj nm q C N bs bm hdct sn sub ab col dd k0 k1 k2 k3 k5 newId))
    (li : PySem.W.Looks (model prog w) h (typeLookup (.ref C) "__init__") (some (.ref fI))) (lb : ∀ self, PySem.W.Looks (model prog w) h (bindSpecial (.ref fI) self) (.ref fI, [self]))
    (go : codeAny (model prog w) A (.call (.ref fI) ⟨.ref (h.objs.size + 1) :: rest, kw⟩)
      (fun r s' => match r with | .ok (.ret v) => v = .none ∧ Q (.done (.ret (.ref (h.objs.size + 1)))) s' | .ok _ => False | .error e => E e s')
      ⟨(h.push (PySem.W.kdv_tup rest)).push (PySem.HandSPX.excO C h.objs.size), g, d, t, os⟩) :
    wpAny (model prog w) A (Builtin.«type.__call__» ⟨.ref C :: rest, kw⟩) Q E ⟨h, g, d, t, os⟩ := by
  repeat (first
    | with_reducible refine wpAny_loadPart_at hC ?_
    | with_reducible refine wpAny_madeBy_exc hC ?_
    | wp_step)
  refine codeAny_call_builtin_code (Code.quiet_builtin _ FB.quiet) (kw_check FB same hC (kw_new FB same small hC ?_))
  have kp : ∀ b o, h.get? b = some o → ((h.push (PySem.W.kdv_tup rest)).push (PySem.HandSPX.excO C h.objs.size)).get? b = some o := fun b o e => Heap.get?_push_of_some _ (Heap.get?_push_of_some _ e)
  have hC1 := kp _ _ hC
  have at1 : ((h.push (PySem.W.kdv_tup rest)).push (PySem.HandSPX.excO C h.objs.size)).get? (h.objs.size + 1) = some (PySem.HandSPX.excO C h.objs.size) := by heap_get
  have self0 : (Value.ref C :: bm).contains (.ref C) = true := by simp
  have li1 := li.keeps kp
  have lb1 := (lb (.ref (h.objs.size + 1))).keeps kp
  show wpAny _ _ _ _ _ _
  unfold isInstance
  repeat (first
    | with_reducible refine wpAny_loadPart_at at1 ?_
    | (with_reducible refine wpAny_isSubtype_exc hC1 ?_; rw [self0])
    | wp_step)
  show wpAny _ _ (typeLookup (.ref C) _) _ _ _
  refine li1.at (wpAny_holding (wpAny_bind (lb1.at (wpAny_bind (wpAny_call (codeAny_mono go fun r s' z => ?_))))))
  rcases r with e | (v | _ | _ | _) <;> first | exact z | exact z.elim | skip
  obtain ⟨rfl, z⟩ := z
  first
    | exact wpAny_pure (wpAny_pure z)
    | (wp_walk; exact z)
theorem kw_call (FB : ExcBaseFacts B newId initId bmB) (same : ∀ X : String, bm.contains (.type X) = bmB.contains (.type X)) {rest : List Value} {kw : List (Str × Value)} {fI : Addr} (small : rest.length ≤ sizeLine)
    (hC : h.get? C = some (excClassObj nm q C N bs bm hdct sn sub ab col dd k0 k1 k2 k3 k5 newId))
    (li : PySem.W.Looks (model prog w) h (typeLookup (.ref C) "__init__") (some (.ref fI))) (lb : ∀ self, PySem.W.Looks (model prog w) h (bindSpecial (.ref fI) self) (.ref fI, [self]))
    (go : codeAny (model prog w) (A.under (.builtin "type.__call__" ⟨.ref C :: rest, kw⟩)) (.call (.ref fI) ⟨.ref (h.objs.size + 1) :: rest, kw⟩) (PySem.W.InitBack (h.objs.size + 1) R)
      ⟨(h.push (PySem.W.kdv_tup rest)).push (PySem.HandSPX.excO C h.objs.size), g, d, t, os⟩) :
    codeAny (model prog w) A (.call (.ref C) ⟨rest, kw⟩) R ⟨h, g, d, t, os⟩ := by
  have f1 := tc_lookup
  have f2 := tc_bind (.ref C)
  have ty : (⟨h, g, d, t, os⟩ : Shared).TypeIs (.ref C) "type" := ⟨_, hC, rfl⟩
  refine codeAny_of_tree (?_ : wpAny _ _ (callAny (.ref C) _) _ _ _)
  repeat (any_goals (first
    | assumption
    | with_reducible refine wpAny_loadPart_at hC ?_
    | wp_step))
  refine ⟨rfl, codeAny_call_builtin_at (Code.quiet_builtin _ (by decide +kernel)) entry_typeCall (kw_checkT hC (kw_typeCall FB same small hC li lb (codeAny_mono go fun r s' z => ?_)))⟩
  rcases r with e | (v | _ | _ | _) <;> exact z
end
/-- C(e, ..) as a value; sp: its __init__ -/
def tMkV (C : Addr) (sp : Sp) (t : TA) : TE := fun σ H Q => t σ H fun vs H1 => vs.length ≤ 1000 ∧ ∀ a, H1 a = none → sp (.ref a :: vs) (upd H1 a (exo a C none)) (fun v H2 => v = .non ∧ Q (.ref a) H2) (fun _ _ _ => False)
/-- C(e, .., k = v, ..) as a value -/
def tMkKV (C : Addr) (n m : Nat) (sp : Sp) (gV : List V → List V → List V) (t tk : TA) : TE := fun σ H Q => t σ H fun vs H1 => tk σ H1 fun zs H2 => vs.length ≤ 1000 ∧ vs.length = n ∧ zs.length = m ∧ ∀ a, H2 a = none → sp (gV (.ref a :: vs) zs) (upd H2 a (exo a C none)) (fun v H3 => v = .non ∧ Q (.ref a) H3) (fun _ _ _ => False)
section
variable {X : Cx} {CX : CXT} {k n : Nat} {fI C : Addr} {fd : FuncData} {ps ks : List Str} {sp : Sp} {x : Str} {p pos : Pos} {e : Expr} {es : List Expr} {kws : List Keyword} {t tk : TA} {g : List Value → List Value → List Value} {gV : List V → List V → List V}
theorem made_end {pins : List (Addr × Obj)} {σ : L2.St} {H1 : Hp} {hp : Heap} {gs : Array GenState} {d : Drawn} {tk : Nat} {os : OsState} {us : List Value} {Q : VK} {r : Result} {s' : Shared}
    (I2 : Inv X pins σ (upd H1 (hp.objs.size + 1) (exo (hp.objs.size + 1) C none)) ⟨(hp.push (PySem.W.kdv_tup us)).push (PySem.HandSPX.excO C hp.objs.size), gs, d, tk, os⟩) (hx : Passes CX X (fun _ _ _ => False))
    (z : CR CX X.stack X.prog X.w (upd H1 (hp.objs.size + 1) (exo (hp.objs.size + 1) C none)) ⟨(hp.push (PySem.W.kdv_tup us)).push (PySem.HandSPX.excO C hp.objs.size), gs, d, tk, os⟩ (fun v H3 => v = .non ∧ Q (.ref (hp.objs.size + 1)) H3) (fun _ _ _ => False) r s') :
    PySem.W.InitBack (hp.objs.size + 1) (fun r s' => match r with | .ok (.ret u) => EP X pins σ Q u s' | .ok _ => False | .error e => X.xe e s') r s' := by
  cases r with
  | error er => exact hx pins σ _ _ er s' I2 z
  | ok fl =>
    cases fl with
    | next => exact False.elim z
    | brk => exact False.elim z
    | cont => exact False.elim z
    | ret u =>
      obtain ⟨v, H', I4, rv, ev, q⟩ := I2.after z
      subst ev
      exact ⟨rv, ⟨V.ref (hp.objs.size + 1), H', I4, rfl, q⟩⟩
theorem pe_mkV (T : Oex X.K C) (iC : PySem.W.findIn X.K (.ref C) "__init__" = some (some (.ref fI))) (tI : PySem.W.typeIn X.K (.ref fI) = some (.type "function")) (F1 : FnOk X.prog X.w X.K X.mg X.base CX k fI fd ps sp) (hr : Room (k + 1) X.A) (hb : Binds X.K fd ps [])
    (hx : Passes CX X (fun _ _ _ => False)) (hg : Gl X x) (hm : X.mg x = some (.ref C)) (ha : PA X (e :: es) t) (hdb : (x == ("__debug__" : Str)) = false := by decide)
    (he : starEach (e :: es) X.env = (false, eval e X.env) :: starEach es X.env := by rfl) (hpl : (backTo pos (starEach es X.env)).any (·.1) = false := by rfl) : PE X (.Call (.Name x p) (e :: es) [] pos) (tMkV C sp t) := by
  refine ⟨fun pins s σ H Q I h => wpAny_Call_Name_kw (ld_glob I hg hm ?_ hdb)⟩
  obtain ⟨B, newId, initId, bmB, FB, SF, ov, ii⟩ := T.ex
  refine PySem.W.callWith_K (h₀ := X.base) I.ok.mod.kin T.kC (thn (ha.run pos pins s σ H _ I h) fun us s1 ⟨vs, H1, I1, r1, hz, q1⟩ => ⟨I1.kIn, ?_⟩) he hpl
  show wpAny _ _ (call (.ref C) us) _ _ _
  obtain ⟨nm, N, qn, bs, bm, hdct, sn, sub, ab, col, dd, k0, k1, k2, k3, k5, hC, same⟩ := PySem.W.excInit_of I1.kIn ii
  obtain ⟨hp, gs, dr, tk, os⟩ := s1
  have up : hp.objs.size ≤ hp.objs.size + 1 := Nat.le_succ _
  have hq := q1 (hp.objs.size + 1) (I1.hok.fresh up)
  have kp : ∀ b o, hp.get? b = some o → ((hp.push (PySem.W.kdv_tup us)).push (PySem.HandSPX.excO C hp.objs.size)).get? b = some o := fun b o e => Heap.get?_push_of_some _ (Heap.get?_push_of_some _ e)
  have I2 := I1.laid (t' := tk) (a := hp.objs.size + 1) (o := exo (hp.objs.size + 1) C none) (h' := (hp.push (PySem.W.kdv_tup us)).push (PySem.HandSPX.excO C hp.objs.size)) kp up (exo_ok (t1 := hp.objs.size) (by heap_get))
  have r2 : Vals (V.ref (hp.objs.size + 1) :: vs) (Value.ref (hp.objs.size + 1) :: us) := .cons rfl r1
  have lus : us.length ≤ sizeLine := by
    rw [← Paired.length r1, sizeLine_eq]
    omega
  have lps : ((Value.ref (hp.objs.size + 1) :: us) ++ []).length = ps.length := by
    rw [List.append_nil, ← Paired.length r2]
    exact F1.len _ _ _ _ hq
  have bd := hb _ (Value.ref (hp.objs.size + 1) :: us) I2.kIn lps
  rw [List.append_nil] at bd
  refine wpAny_call (codeAny_mono (kw_call (R := fun r s' => match r with | .ok (.ret u) => EP X pins σ Q u s' | .ok _ => False | .error e => X.xe e s') FB same lus hC (PySem.W.looks_findIn I1.kIn iC) (fun self => PySem.W.bind_fn I1.kIn self tI)
    (codeAny_mono (F1.run _ X.stack _ _ ⟨Value.ref (hp.objs.size + 1) :: us, []⟩ _ _ _ (fun _ _ _ => False) (hr.make C us []) (I2.env0.make C us []) bd r2 hq) fun r s' z => made_end I2 hx z)) fun r s' z => ?_)
  cases r with
  | error er => exact z
  | ok fl =>
    cases fl with
    | next => exact z
    | brk => exact z
    | cont => exact z
    | ret u => exact z
theorem pe_mkKV (T : Oex X.K C) (iC : PySem.W.findIn X.K (.ref C) "__init__" = some (some (.ref fI))) (tI : PySem.W.typeIn X.K (.ref fI) = some (.type "function")) (F1 : FnOk X.prog X.w X.K X.mg X.base CX k fI fd ps sp) (hr : Room (k + 1) X.A) (hb : KBn X.K fd ps (n + 1) ks g gV)
    (hx : Passes CX X (fun _ _ _ => False)) (hg : Gl X x) (hm : X.mg x = some (.ref C)) (ha : PA X (e :: es) t) (hk : PK X kws tk)
    (c1 : (backToKw pos (keywordEach kws X.env)).all (·.1.isSome) = true := by rfl) (c2 : (backToKw pos (keywordEach kws X.env)).filterMap (·.1) = ks := by rfl) (c3 : (x == ("__debug__" : Str)) = false := by decide)
    (c4 : starEach (e :: es) X.env = (false, eval e X.env) :: starEach es X.env := by rfl) (c5 : ((backTo pos (starEach (e :: es) X.env)).any (·.1) || (backToKw pos (keywordEach kws X.env)).any (·.1.isNone)) = false := by rfl) :
    PE X (.Call (.Name x p) (e :: es) kws pos) (tMkKV C n ks.length sp gV t tk) := by
  refine ⟨fun pins s σ H Q I h => wpAny_Call_Name_kw (ld_glob I hg hm ?_ c3)⟩
  obtain ⟨B, newId, initId, bmB, FB, SF, ov, ii⟩ := T.ex
  refine PySem.W.callWith_KW (h₀ := X.base) I.ok.mod.kin T.kC c1 (thn (ha.run pos pins s σ H _ I h) fun us s1 ⟨vs, H1, I1, r1, q1⟩ => ?_) c5 c4
  refine thn (hk.run pos pins s1 σ H1 _ I1 q1) fun ws s2 ⟨zs, H2, I2, rz, hz, l1, l2, q2⟩ => ⟨I2.kIn, ?_⟩
  rw [c2]
  obtain ⟨nm, N, qn, bs, bm, hdct, sn, sub, ab, col, dd, k0, k1, k2, k3, k5, hC, same⟩ := PySem.W.excInit_of I2.kIn ii
  obtain ⟨hp, gs, dr, tk, os⟩ := s2
  have up : hp.objs.size ≤ hp.objs.size + 1 := Nat.le_succ _
  have hq := q2 (hp.objs.size + 1) (I2.hok.fresh up)
  have kp : ∀ b o, hp.get? b = some o → ((hp.push (PySem.W.kdv_tup us)).push (PySem.HandSPX.excO C hp.objs.size)).get? b = some o := fun b o e => Heap.get?_push_of_some _ (Heap.get?_push_of_some _ e)
  have I3 := I2.laid (t' := tk) (a := hp.objs.size + 1) (o := exo (hp.objs.size + 1) C none) (h' := (hp.push (PySem.W.kdv_tup us)).push (PySem.HandSPX.excO C hp.objs.size)) kp up (exo_ok (t1 := hp.objs.size) (by heap_get))
  have r2 := hb.rel (show Vals (V.ref (hp.objs.size + 1) :: vs) (Value.ref (hp.objs.size + 1) :: us) from .cons rfl r1) rz
  have lus : us.length ≤ sizeLine := by
    rw [← Paired.length r1, sizeLine_eq]
    omega
  have lS : (Value.ref (hp.objs.size + 1) :: us).length = n + 1 := by
    rw [List.length_cons, ← Paired.length r1, l1]
  refine wpAny_call (codeAny_mono (kw_call (R := fun r s' => match r with | .ok (.ret u) => EP X pins σ Q u s' | .ok _ => False | .error e => X.xe e s') FB same lus hC (PySem.W.looks_findIn I2.kIn iC) (fun self => PySem.W.bind_fn I2.kIn self tI)
    (codeAny_mono (F1.run _ X.stack _ _ ⟨Value.ref (hp.objs.size + 1) :: us, ks.zip ws⟩ _ _ _ (fun _ _ _ => False) (hr.make C us (ks.zip ws)) (I3.env0.make C us (ks.zip ws)) (hb.to _ (Value.ref (hp.objs.size + 1) :: us) ws I3.kIn lS (by rw [← Paired.length rz, l2])) r2 hq) fun r s' z => made_end I3 hx z)) fun r s' z => ?_)
  cases r with
  | error er => exact z
  | ok fl =>
    cases fl with
    | next => exact z
    | brk => exact z
    | cont => exact z
    | ret u => exact z
/-- C(), a class without an __init__ of its own, as a value -/
theorem pe_mk0V {B newId initId : String} {bmB : List Value} (FB : ExcBaseFacts B newId initId bmB) (q : PySem.W.excIn X.K C bmB newId = true) (kC : PySem.W.keepIn X.K (.ref C) = true) (hg : Gl X x) (hm : X.mg x = some (.ref C)) (hdb : (x == ("__debug__" : Str)) = false := by decide)
    : PE X (.Call (.Name x p) [] [] pos) (fun σ H Q => ∀ a, H a = none → Q (.ref a) (upd H a (exo a C none))) := by
  refine ⟨fun pins s σ H Q I h => wpAny_Call_Name_kw (ld_glob I hg hm ?_ hdb)⟩
  refine PySem.W.callWith_K0 (show X.K.In s.heap from I.kIn) kC ?_
  show wpAny _ _ (call (.ref C) []) _ _ _
  obtain ⟨bm, N, nm, qn, bs, hdct, sn, sub, ab, col, dd, k0, k1, k2, k3, k5, mN, hC, hN, hni, T⟩ := exc_obj I.kIn q
  refine wpAny_call_exc_subT FB T hC hN hni (fun h' a hm => ?_) (by show 0 ≤ sizeLine; rw [sizeLine_eq]; omega)
  have hn : H a = none := I.hok.gone hm.new
  obtain ⟨t, ht, _, _⟩ := hm.there
  exact ⟨.ref a, upd H a (exo a C none), (I.tok _).laidN hm.keeps hm.new hn (exo_ok ht), rfl, h a hn⟩
end
end Ex
namespace Dr
open PySem PySem.Spec PyProof.Rows L2
def topS (i : Nat) : Stmt := PySem.Challenge.pw_oncedefaults_k13_errors_made.main.body.getD i (.Pass ⟨0, 0, 0, 0⟩)
abbrev sBag : Stmt := topS 33
abbrev sTake : Stmt := topS 34
theorem scBag : FnScope ["_law_script", "_law_at", "_law_cell", "_law_blend", "_law_k", "_law_each"] ["_law_script", "_law_at"] (defScope sBag) := ⟨rfl, rfl, rfl, by decide +kernel, rfl, by decide +kernel, by decide +kernel⟩
theorem scTake : FnScope ["_law_bag_here", "_law_many", "_law_digit"] ["_law_bag_here", "_law_many"] (defScope sTake) := ⟨rfl, rfl, rfl, by decide +kernel, rfl, by decide +kernel, by decide +kernel⟩
/-- the built-in names that the draws use are the built-in ones -/
structure Blt (mg : Str → Option Value) : Prop where
  len : mg "len" = none
  int : mg "int" = none
  abs : mg "abs" = none
  enum : mg "enumerate" = none
theorem same_upd {H : Hp} {p : Addr} {o : HO} (h : H p = none) : Same H (upd H p o) := fun b x e => by
  rw [upd_ne (ne_of_none e h)]
  exact e
/-- a bag stands at p -/
def Bag (H : Hp) (p : Addr) : Prop := ∃ u v : Int, H p = some (.lst [.int u, .int v]) ∧ 0 ≤ u ∧ 0 ≤ v ∧ v < 2147483648
/-- all but the bag is as it was, the bag is a bag -/
def Kp (p : Addr) (H H' : Hp) : Prop := (∀ b o, b ≠ p → H b = some o → H' b = some o) ∧ Bag H' p
theorem Kp.refl {p : Addr} {H : Hp} (h : Bag H p) : Kp p H H := ⟨fun _ _ _ e => e, h⟩
theorem Kp.trans {p : Addr} {H H1 H2 : Hp} (a : Kp p H H1) (b : Kp p H1 H2) : Kp p H H2 := ⟨fun c o n e => b.1 c o n (a.1 c o n e), b.2⟩
theorem Bag.same {p : Addr} {H H' : Hp} (b : Bag H p) (s : Same H H') : Bag H' p := by
  obtain ⟨u, v, e, q⟩ := b
  exact ⟨u, v, s _ _ e, q⟩
theorem Kp.same {p : Addr} {H H1 H2 : Hp} (a : Kp p H H1) (s : Same H1 H2) : Kp p H H2 := ⟨fun c o n e => s c o (a.1 c o n e), a.2.same s⟩
theorem Kp.of {p : Addr} {H H' : Hp} (b : Bag H p) (s : Same H H') : Kp p H H' := (Kp.refl b).same s
section
variable {X : Cx}
/-- // by a divisor of any size up to thousands of digits -/
theorem op_fdivW : OpR X (binaryOp .FloorDiv) (rI (fun _ j => j ≠ 0 ∧ j.natAbs.log2 < 9000) fun i j => .int (i.fdiv j)) := opI fun _ _ _ _ _ _ _ hc q => floordiv_int hc.1 q (.inl (PyProof.noPylong_of_log2 hc.2))
end
theorem log_ok {m : Int} (h0 : 1 ≤ m) (h : m < 2 ^ 200) : m ≠ 0 ∧ m.natAbs.log2 < 9000 := by
  refine ⟨by omega, ?_⟩
  have hn : m.natAbs ≠ 0 := by omega
  have h2 : m.natAbs < 2 ^ 200 := by omega
  exact Nat.lt_trans ((Nat.log2_lt hn).mpr h2) (by decide)
section
variable {P : Program} {w : World} {K : PySem.W.Frag} {mg : Str → Option Value} {base : Heap}
def spBag (K : PySem.W.Frag) : Sp := fun vs H Q _ => ∃ (a : Addr) (ns : List Int) (i : Int), vs = [.ref a, .int i] ∧ SqL K H a (ns.map V.int) ∧ ns.length ≤ 63 ∧ 0 ≤ i ∧ i ≤ 100 ∧
  ∀ H' p, Same H H' → H p = none → Bag H' p → Q (.ref p) H'
theorem bag_turn {b e k : Int} (k0 : 0 ≤ k) (hb : 0 ≤ b) (hb2 : b < 2147483648) : 0 ≤ (b * 44017 + e % 2147483563 + 59 * k) % 2147483399 ∧ (b * 44017 + e % 2147483563 + 59 * k) % 2147483399 < 2147483648 := by
  omega
theorem ok_bag {f : Addr} {fd : FuncData} (F : Fun K "_law_bag" "_law_bag" sBag f fd) (T : Blt mg) : FnOk P w K mg base CX0 1 f fd ["_law_script", "_law_at"] (spBag K) := by
  refine F.ok scBag (fun vs H Q E h => ?_) (fun cdv A outer s H vs Q E hr h => ?_)
  · obtain ⟨a, ns, i, rfl, _⟩ := h
    rfl
  · obtain ⟨a, ns, i, rfl, hS, hlen, hi0, hi1, q⟩ := h
    refine ⟨_, C8.pss_cut (ps_set (i := 2) scBag.nd rfl (.inl rfl) (pe_ifExp (pt_cmpR op_lt (pv 1) (pe_callB call_len_seq (by rfl) T.len PySem.boot_len (pa_cons (pv 0) pa_nil)) (nomark _)) (pe_ix ix_list (pv 0) (pv 1) (fun _ _ => rfl)) pe_int))
      (pss_cons (ps_set (i := 3) scBag.nd rfl (.inl rfl) (pe_op op_add (pe_op op_mul pe_int (pv 1)) pe_int))
      (pss_cons (ps_for PassesOwn.never rfl (pi_enum (by rfl) T.enum (pa_cons (pe_slice sl_list (pv 0) po_none (po_some pe_int)) pa_nil))
          (pg_tup rfl (pgs_cons (pg_name (i := 4) scBag.nd rfl (.inl rfl)) (pgs_cons (pg_name (i := 5) scBag.nd rfl (.inl rfl)) pgs_nil)))
        (pss_one (ps_set (i := 3) scBag.nd rfl (.inl rfl) (pe_op op_mod (pe_callTy call_int1 (by rfl) T.int (by decide +kernel) (pa_cons
          (pe_op op_add (pe_op op_add (pe_op op_mul (pv 3) pe_int) (pe_op op_mod (pe_callTy call_int1 (by rfl) T.int (by decide +kernel) (pa_cons (pv 5) pa_nil)) pe_int)) (pe_op op_mul pe_int (pv 4))) pa_nil)) pe_int))))
      (pss_one (ps_ret (pe_lst (pa_cons (pe_ifExp (pt_cmpR op_ge (pe_callB call_abs (by rfl) T.abs (by decide +kernel) (pa_cons (pv 2) pa_nil)) (pe_op op_pow pe_int pe_int) (nomark _)) (pe_callB call_abs (by rfl) T.abs (by decide +kernel) (pa_cons (pv 2) pa_nil)) pe_int) (pa_cons (pv 3) pa_nil))))))), ?_⟩
    refine ⟨fun σ' H' => H' = H ∧ ∃ c : Int, σ' = [some (.ref a), some (.int i), some (.int c), none, none, none], ?_, fun σ' H' hM => ?_⟩
    · refine ⟨_, rfl, _, rfl, a, _, rfl, .inl hS, _, _, rfl, rfl, _, rfl, ite2 (fun hlt => ?_) (fun _ => ⟨rfl, 0, rfl⟩)⟩
      have hl : i < (ns.map V.int).length := of_decide_eq_true hlt
      rw [List.length_map] at hl
      obtain ⟨j, rfl⟩ : ∃ j : Nat, i = (j : Int) := ⟨i.toNat, by omega⟩
      have hj : j < ns.length := by omega
      exact ⟨_, rfl, _, rfl, a, _, _, _, rfl, rfl, hS, atI_nat (by rw [List.getElem?_map, List.getElem?_eq_getElem hj]; rfl), rfl, _, rfl⟩
    · obtain ⟨rfl, c, rfl⟩ := hM
      -- the blend
      refine ⟨.int i, rfl, _, i, rfl, rfl, .inl ⟨by decide, by decide⟩, _, _, rfl, rfl, ?_⟩
      -- the loop over a copy
      refine ⟨.ref a, rfl, 63, rfl, a, ns.map V.int, rfl, hS, fun l nl => ?_⟩
      have s1 : Same H' (upd H' l (.lst (cutV (ns.map V.int) none (some 63)))) := same_upd nl
      have ecut : cutV (ns.map V.int) none (some 63) = ns.map V.int := by
        unfold cutV
        rw [show HT.sIx (ns.map V.int).length (ns.map V.int).length (some 63) = min 63 (ns.map V.int).length from HT.sIx_nat _ _ 63, HT.sIx_none]
        rw [List.drop_zero, List.take_of_length_le]
        rw [List.length_map]
        omega
      rw [ecut] at s1 ⊢
      refine ⟨l, ns.map V.int, rfl, .inl (.inl upd_same), for_it walk_enum (fun _ σ H1 => Same H' H1 ∧ H1 l = some (.lst (ns.map V.int)) ∧ ∃ (b : Int) (x y : Option V), σ = [some (.ref a), some (.int i), some (.int c), some (.int b), x, y] ∧ 0 ≤ b ∧ b < 2147483648)
        ⟨s1, upd_same, _, _, _, rfl, by omega, by omega⟩ (fun n σ H1 _ h => .inl (.inl h.2.1)) ?_ ?_⟩
      · rintro n y σ H1 H2 hn ⟨sm, hl, b, x5, x6, rfl, b0, b1⟩ ⟨T', x, e, rfl, nT, rfl, e1, e2⟩
        rw [List.length_map] at hn
        obtain rfl := Option.some.inj e1
        have e2 := (show (ns.map V.int)[n]? = some _ from e2)
        rw [List.getElem?_map, List.getElem?_eq_getElem hn] at e2
        obtain rfl := Option.some.inj e2
        have sT : Same H1 (upd H1 T' (.tup [.int (n : Int), .int ns[n]])) := same_upd nT
        refine ⟨T', _, rfl, .inl (.inl upd_same), rfl, _, _, rfl, _, _, rfl, rfl, ?_⟩
        refine ⟨_, rfl, b, _, rfl, rfl, .inr ⟨by decide, by decide⟩, _, rfl, .inl ⟨_, rfl, _, _, rfl, rfl, (by show (0 : Int) < 2147483563; decide), _, _, rfl, rfl, _, rfl, _, _, rfl, rfl, .inl ⟨by decide, by decide⟩, _, _, rfl, rfl, .inl ⟨_, rfl, _, _, rfl, rfl, (by show (0 : Int) < 2147483399; decide), ?_⟩⟩⟩
        have hb := bag_turn (b := b) (e := ns[n]) (k := (n : Int)) (by omega) b0 b1
        exact ⟨sm.trans sT, sT _ _ hl, _, _, _, rfl, hb.1, hb.2⟩
      · rintro σ H1 ⟨sm, hl, b, x5, x6, rfl, b0, b1⟩
        refine ⟨_, rfl, _, rfl, _, _, rfl, rfl, ⟨by decide, by decide, by decide⟩, _, _, rfl, rfl, _, rfl, ite2 (fun hge => ?_) (fun _ => ?_)⟩
        · refine ⟨_, rfl, _, rfl, _, rfl, by show 2 ≤ sizeLine; decide, fun p np => q _ _ (sm.trans (same_upd np)) (sm.free np) ⟨_, b, upd_same, ?_, b0, b1⟩⟩
          split <;> omega
        · refine ⟨_, rfl, by show 2 ≤ sizeLine; decide, fun p np => q _ _ (sm.trans (same_upd np)) (sm.free np) ⟨0, b, upd_same, by omega, b0, b1⟩⟩
def spTake : Sp := fun vs H Q _ => ∃ (p : Addr) (m : Int), vs = [.ref p, .int m] ∧ Bag H p ∧ 1 ≤ m ∧ m < 2 ^ 200 ∧ ∀ H' r, Kp p H H' → 0 ≤ r → r < m → Q (.int r) H'
theorem kp_upd {p : Addr} {H : Hp} {u v : Int} (h0 : 0 ≤ u) (h1 : 0 ≤ v) (h2 : v < 2147483648) : Kp p H (upd H p (.lst [.int u, .int v])) := ⟨fun b o n e => by
  rw [upd_ne n]
  exact e, u, v, upd_same, h0, h1, h2⟩
theorem ok_take {f : Addr} {fd : FuncData} (F : Fun K "_law_take" "_law_take" sTake f fd) (T : Blt mg) : FnOk P w K mg base CX0 1 f fd ["_law_bag_here", "_law_many"] spTake := by
  refine F.ok scTake (fun vs H Q E h => ?_) (fun cdv A outer s H vs Q E hr h => ?_)
  · obtain ⟨p, m, rfl, _⟩ := h
    rfl
  · obtain ⟨p, m, rfl, ⟨u, v, hp, u0, v0, v1⟩, m0, m1, q⟩ := h
    refine ⟨_, pss_cons (ps_if (pt_cmpR op_gt (pe_ix ix_list (pv 0) pe_int (fun _ _ => rfl)) pe_int (nomark _))
        (pss_cons (ps_set (i := 2) scTake.nd rfl (.inl rfl) (pe_op op_modN (pe_callTy call_int1 (by rfl) T.int (by decide +kernel) (pa_cons (pe_ix ix_list (pv 0) pe_int (fun _ _ => rfl)) pa_nil)) (pv 1)))
        (pss_cons (ps_asg (pe_op op_fdivW (pe_ix ix_list (pv 0) pe_int (fun _ _ => rfl)) (pv 1)) (pg_sub (pv 0) pe_int set_list))
        (pss_one (ps_ret (pv 2))))) pss_nil)
      (pss_cons (ps_asg (pe_op op_mod (pe_callTy call_int1 (by rfl) T.int (by decide +kernel) (pa_cons (pe_op op_add (pe_op op_mul (pe_ix ix_list (pv 0) pe_int (fun _ _ => rfl)) pe_int) pe_int) pa_nil)) pe_int) (pg_sub (pv 0) pe_int set_list))
      (pss_one (ps_ret (pe_op op_modN (pe_op op_fdiv (pe_op op_mod (pe_callTy call_int1 (by rfl) T.int (by decide +kernel) (pa_cons (pe_op op_mul (pe_op op_fdiv (pe_ix ix_list (pv 0) pe_int (fun _ _ => rfl)) pe_int) pe_int) pa_nil)) pe_int) pe_int) (pv 1))))), ?_⟩
    have g0 : atI [V.int u, V.int v] 0 = some (.int u) := atI_nat (j := 0) rfl
    have g1 : atI [V.int u, V.int v] 1 = some (.int v) := atI_nat (j := 1) rfl
    refine ⟨.ref p, rfl, p, _, 0, _, rfl, rfl, SqL.of hp, g0, _, _, rfl, rfl, _, rfl, ite2 (fun hpos => ?_) (fun _ => ?_)⟩
    · have hu : 0 < u := of_decide_eq_true hpos
      refine ⟨.ref p, rfl, p, _, 0, _, rfl, rfl, SqL.of hp, g0, .inl ⟨u, rfl, _, rfl, u, m, rfl, rfl, by omega, ?_⟩⟩
      refine ⟨.ref p, rfl, p, _, 0, _, rfl, rfl, SqL.of hp, g0, _, rfl, u, m, rfl, rfl, log_ok m0 m1, ?_⟩
      refine ⟨.ref p, rfl, p, _, 0, 0, rfl, rfl, hp, rfl, ?_⟩
      refine ⟨_, rfl, ?_⟩
      have e1 : u.fdiv m = u / m := Int.fdiv_eq_ediv_of_nonneg _ (by omega)
      have e2 : u.fmod m = u % m := Int.fmod_eq_emod_of_nonneg _ (by omega)
      exact q _ _ (kp_upd (by rw [e1]; exact Int.ediv_nonneg (by omega) (by omega)) v0 v1) (by rw [e2]; exact Int.emod_nonneg _ (by omega)) (by rw [e2]; exact Int.emod_lt_of_pos _ (by omega))
    · refine ⟨.ref p, rfl, p, _, 1, _, rfl, rfl, SqL.of hp, g1, v, _, rfl, rfl, .inr ⟨by decide, by decide⟩, _, _, rfl, rfl, .inl ⟨_, rfl, _, _, rfl, rfl, (by show (0 : Int) < 2147483629; decide), ?_⟩⟩
      refine ⟨.ref p, rfl, p, _, 1, 1, rfl, rfl, hp, rfl, ?_⟩
      have hv : 0 ≤ (v * 48271 + 90001) % 2147483629 ∧ (v * 48271 + 90001) % 2147483629 < 2147483648 := by omega
      have hz : (upd H p (.lst [V.int u, V.int ((v * 48271 + 90001) % 2147483629)])) p = some (.lst [V.int u, V.int ((v * 48271 + 90001) % 2147483629)]) := upd_same
      have g2 : atI [V.int u, V.int ((v * 48271 + 90001) % 2147483629)] 1 = some (.int ((v * 48271 + 90001) % 2147483629)) := atI_nat (j := 1) rfl
      refine ⟨.ref p, rfl, p, _, 1, _, rfl, rfl, SqL.of hz, g2, _, _, rfl, rfl, ⟨by decide, by decide⟩, _, _, rfl, rfl, .inr ⟨by decide, by decide⟩, .inl ⟨_, rfl, _, _, rfl, rfl, (by show (0 : Int) < 2147483647; decide), _, _, rfl, rfl, ⟨by decide, by decide⟩, .int m, rfl, _, m, rfl, rfl, by omega, ?_⟩⟩
      have e2 : ∀ y : Int, y.fmod m = y % m := fun y => Int.fmod_eq_emod_of_nonneg _ (by omega)
      exact q _ _ (kp_upd u0 hv.1 hv.2) (by rw [e2]; exact Int.emod_nonneg _ (by omega)) (by rw [e2]; exact Int.emod_lt_of_pos _ (by omega))
end
end Dr
namespace Dr
open PySem PySem.Spec PyProof.Rows L2
/-- what the written part says of one exception class -/
structure Er (K : PySem.W.Frag) (mg : Str → Option Value) (x f : Str) (C gI : Addr) : Prop where
  c : Ex.Xc K C
  i : PySem.W.findIn K (.ref C) "__init__" = some (some (.ref gI))
  t : PySem.W.typeIn K (.ref gI) = some (.type "function")
  n : PySem.W.findIn K (.ref C) f = some none
  g : mg x = some (.ref C)
def spI (C : Addr) (f : Str) : Sp := fun vs H Q _ => ∃ (a : Addr) (y : V), vs = [.ref a, y] ∧ H a = some (exo a C none) ∧ ∀ d, H d = none → d ≠ a → Q .non (upd (upd H d (exd d [(f, y)])) a (exo a C (some d)))
def spI2 (C : Addr) (f g : Str) : Sp := fun vs H Q _ => ∃ (a : Addr) (y z : V), vs = [.ref a, y, z] ∧ H a = some (exo a C none) ∧
  ∀ d, H d = none → d ≠ a → Q .non (upd (upd (upd H d (exd d [(f, y)])) a (exo a C (some d))) d (exd d [(g, z), (f, y)]))
abbrev sIBadName : Stmt := inClass (topS 3) 0
theorem scIBadName : FnScope ["self", "name"] ["self", "name"] (defScope sIBadName) := ⟨rfl, rfl, rfl, by decide +kernel, rfl, by decide +kernel, by decide +kernel⟩
abbrev sIBadParam : Stmt := inClass (topS 4) 0
theorem scIBadParam : FnScope ["self", "part"] ["self", "part"] (defScope sIBadParam) := ⟨rfl, rfl, rfl, by decide +kernel, rfl, by decide +kernel, by decide +kernel⟩
abbrev sIBadRow : Stmt := inClass (topS 5) 0
theorem scIBadRow : FnScope ["self", "at"] ["self", "at"] (defScope sIBadRow) := ⟨rfl, rfl, rfl, by decide +kernel, rfl, by decide +kernel, by decide +kernel⟩
abbrev sIBadValue : Stmt := inClass (topS 6) 0
theorem scIBadValue : FnScope ["self", "at"] ["self", "at"] (defScope sIBadValue) := ⟨rfl, rfl, rfl, by decide +kernel, rfl, by decide +kernel, by decide +kernel⟩
abbrev sIBadMarks : Stmt := inClass (topS 7) 0
theorem scIBadMarks : FnScope ["self", "marks"] ["self", "marks"] (defScope sIBadMarks) := ⟨rfl, rfl, rfl, by decide +kernel, rfl, by decide +kernel, by decide +kernel⟩
abbrev sIBadOrder : Stmt := inClass (topS 8) 0
theorem scIBadOrder : FnScope ["self", "name"] ["self", "name"] (defScope sIBadOrder) := ⟨rfl, rfl, rfl, by decide +kernel, rfl, by decide +kernel, by decide +kernel⟩
abbrev sITwice : Stmt := inClass (topS 9) 0
theorem scITwice : FnScope ["self", "name"] ["self", "name"] (defScope sITwice) := ⟨rfl, rfl, rfl, by decide +kernel, rfl, by decide +kernel, by decide +kernel⟩
abbrev sIClash : Stmt := inClass (topS 10) 0
theorem scIClash : FnScope ["self", "name"] ["self", "name"] (defScope sIClash) := ⟨rfl, rfl, rfl, by decide +kernel, rfl, by decide +kernel, by decide +kernel⟩
abbrev sINoBase : Stmt := inClass (topS 11) 0
theorem scINoBase : FnScope ["self", "base"] ["self", "base"] (defScope sINoBase) := ⟨rfl, rfl, rfl, by decide +kernel, rfl, by decide +kernel, by decide +kernel⟩
abbrev sINoMark : Stmt := inClass (topS 12) 0
theorem scINoMark : FnScope ["self", "mark"] ["self", "mark"] (defScope sINoMark) := ⟨rfl, rfl, rfl, by decide +kernel, rfl, by decide +kernel, by decide +kernel⟩
abbrev sINoValue : Stmt := inClass (topS 13) 0
theorem scINoValue : FnScope ["self", "owner", "value"] ["self", "owner", "value"] (defScope sINoValue) := ⟨rfl, rfl, rfl, by decide +kernel, rfl, by decide +kernel, by decide +kernel⟩
abbrev sINoDefault : Stmt := inClass (topS 14) 0
theorem scINoDefault : FnScope ["self", "place"] ["self", "place"] (defScope sINoDefault) := ⟨rfl, rfl, rfl, by decide +kernel, rfl, by decide +kernel, by decide +kernel⟩
abbrev sIBadText : Stmt := inClass (topS 15) 0
theorem scIBadText : FnScope ["self", "at"] ["self", "at"] (defScope sIBadText) := ⟨rfl, rfl, rfl, by decide +kernel, rfl, by decide +kernel, by decide +kernel⟩
abbrev sIBadHistory : Stmt := inClass (topS 16) 0
theorem scIBadHistory : FnScope ["self", "at"] ["self", "at"] (defScope sIBadHistory) := ⟨rfl, rfl, rfl, by decide +kernel, rfl, by decide +kernel, by decide +kernel⟩
abbrev sIBadCallers : Stmt := inClass (topS 17) 0
theorem scIBadCallers : FnScope ["self", "part"] ["self", "part"] (defScope sIBadCallers) := ⟨rfl, rfl, rfl, by decide +kernel, rfl, by decide +kernel, by decide +kernel⟩
abbrev sIBadWorld : Stmt := inClass (topS 18) 0
theorem scIBadWorld : FnScope ["self", "given"] ["self", "given"] (defScope sIBadWorld) := ⟨rfl, rfl, rfl, by decide +kernel, rfl, by decide +kernel, by decide +kernel⟩
abbrev sINoWorld : Stmt := inClass (topS 19) 0
theorem scINoWorld : FnScope ["self", "index"] ["self", "index"] (defScope sINoWorld) := ⟨rfl, rfl, rfl, by decide +kernel, rfl, by decide +kernel, by decide +kernel⟩
abbrev sITooMany : Stmt := inClass (topS 21) 0
theorem scITooMany : FnScope ["self", "what"] ["self", "what"] (defScope sITooMany) := ⟨rfl, rfl, rfl, by decide +kernel, rfl, by decide +kernel, by decide +kernel⟩
abbrev sIBadStep : Stmt := inClass (topS 22) 0
theorem scIBadStep : FnScope ["self", "given"] ["self", "given"] (defScope sIBadStep) := ⟨rfl, rfl, rfl, by decide +kernel, rfl, by decide +kernel, by decide +kernel⟩
abbrev sINoKind : Stmt := inClass (topS 23) 0
theorem scINoKind : FnScope ["self", "kind"] ["self", "kind"] (defScope sINoKind) := ⟨rfl, rfl, rfl, by decide +kernel, rfl, by decide +kernel, by decide +kernel⟩
abbrev sINoMethod : Stmt := inClass (topS 24) 0
theorem scINoMethod : FnScope ["self", "name"] ["self", "name"] (defScope sINoMethod) := ⟨rfl, rfl, rfl, by decide +kernel, rfl, by decide +kernel, by decide +kernel⟩
abbrev sITooManyArguments : Stmt := inClass (topS 25) 0
theorem scITooManyArguments : FnScope ["self", "count"] ["self", "count"] (defScope sITooManyArguments) := ⟨rfl, rfl, rfl, by decide +kernel, rfl, by decide +kernel, by decide +kernel⟩
abbrev sINoOption : Stmt := inClass (topS 26) 0
theorem scINoOption : FnScope ["self", "name"] ["self", "name"] (defScope sINoOption) := ⟨rfl, rfl, rfl, by decide +kernel, rfl, by decide +kernel, by decide +kernel⟩
abbrev sIGivenTwice : Stmt := inClass (topS 27) 0
theorem scIGivenTwice : FnScope ["self", "name"] ["self", "name"] (defScope sIGivenTwice) := ⟨rfl, rfl, rfl, by decide +kernel, rfl, by decide +kernel, by decide +kernel⟩
abbrev sIMissing : Stmt := inClass (topS 28) 0
theorem scIMissing : FnScope ["self", "name"] ["self", "name"] (defScope sIMissing) := ⟨rfl, rfl, rfl, by decide +kernel, rfl, by decide +kernel, by decide +kernel⟩
abbrev sIBadArgument : Stmt := inClass (topS 29) 0
theorem scIBadArgument : FnScope ["self", "name"] ["self", "name"] (defScope sIBadArgument) := ⟨rfl, rfl, rfl, by decide +kernel, rfl, by decide +kernel, by decide +kernel⟩
abbrev sINoBox : Stmt := inClass (topS 30) 0
theorem scINoBox : FnScope ["self", "k"] ["self", "k"] (defScope sINoBox) := ⟨rfl, rfl, rfl, by decide +kernel, rfl, by decide +kernel, by decide +kernel⟩
abbrev sIBadMark : Stmt := inClass (topS 31) 0
theorem scIBadMark : FnScope ["self", "mark"] ["self", "mark"] (defScope sIBadMark) := ⟨rfl, rfl, rfl, by decide +kernel, rfl, by decide +kernel, by decide +kernel⟩
section
variable {P : Program} {w : World} {K : PySem.W.Frag} {mg : Str → Option Value} {base : Heap}
/-- an exception class of one attribute, ready to be called -/
structure Mk1 (P : Program) (w : World) (K : PySem.W.Frag) (mg : Str → Option Value) (base : Heap) (x f : Str) (C : Addr) : Prop where
  ex : ∃ (gI : Addr) (fd : FuncData) (y : Str), Er K mg x f C gI ∧ FnOk P w K mg base CX0 1 gI fd ["self", y] (spI C f) ∧ Binds K fd ["self", y] []
theorem mkBadName {C gI : Addr} {fd : FuncData} (E : Er K mg "BadName" "name" C gI) (F : Fun K "__init__" "BadName.__init__" sIBadName gI fd) : Mk1 P w K mg base "BadName" "name" C := by
  refine ⟨gI, fd, "name", E, F.ok scIBadName (fun vs H Q E h => ?_) (fun cdv A outer s H vs Q E' hr h => ?_), F.binds fun _ _ _ _ _ _ us hl => match us, hl with | [_, _], _ => rfl⟩
  · obtain ⟨a, y, rfl, _⟩ := h
    rfl
  · obtain ⟨a, y, rfl, ha, q⟩ := h
    exact ⟨_, pss_one (Ex.ps_set (pv 0) (pv 1)), y, rfl, .ref a, rfl, a, C, rfl, E.c.o, E.n, .inl ⟨ha, fun d nd ne => q d nd ne⟩⟩
theorem mkBadParam {C gI : Addr} {fd : FuncData} (E : Er K mg "BadParam" "part" C gI) (F : Fun K "__init__" "BadParam.__init__" sIBadParam gI fd) : Mk1 P w K mg base "BadParam" "part" C := by
  refine ⟨gI, fd, "part", E, F.ok scIBadParam (fun vs H Q E h => ?_) (fun cdv A outer s H vs Q E' hr h => ?_), F.binds fun _ _ _ _ _ _ us hl => match us, hl with | [_, _], _ => rfl⟩
  · obtain ⟨a, y, rfl, _⟩ := h
    rfl
  · obtain ⟨a, y, rfl, ha, q⟩ := h
    exact ⟨_, pss_one (Ex.ps_set (pv 0) (pv 1)), y, rfl, .ref a, rfl, a, C, rfl, E.c.o, E.n, .inl ⟨ha, fun d nd ne => q d nd ne⟩⟩
theorem mkBadRow {C gI : Addr} {fd : FuncData} (E : Er K mg "BadRow" "at" C gI) (F : Fun K "__init__" "BadRow.__init__" sIBadRow gI fd) : Mk1 P w K mg base "BadRow" "at" C := by
  refine ⟨gI, fd, "at", E, F.ok scIBadRow (fun vs H Q E h => ?_) (fun cdv A outer s H vs Q E' hr h => ?_), F.binds fun _ _ _ _ _ _ us hl => match us, hl with | [_, _], _ => rfl⟩
  · obtain ⟨a, y, rfl, _⟩ := h
    rfl
  · obtain ⟨a, y, rfl, ha, q⟩ := h
    exact ⟨_, pss_one (Ex.ps_set (pv 0) (pv 1)), y, rfl, .ref a, rfl, a, C, rfl, E.c.o, E.n, .inl ⟨ha, fun d nd ne => q d nd ne⟩⟩
theorem mkBadValue {C gI : Addr} {fd : FuncData} (E : Er K mg "BadValue" "at" C gI) (F : Fun K "__init__" "BadValue.__init__" sIBadValue gI fd) : Mk1 P w K mg base "BadValue" "at" C := by
  refine ⟨gI, fd, "at", E, F.ok scIBadValue (fun vs H Q E h => ?_) (fun cdv A outer s H vs Q E' hr h => ?_), F.binds fun _ _ _ _ _ _ us hl => match us, hl with | [_, _], _ => rfl⟩
  · obtain ⟨a, y, rfl, _⟩ := h
    rfl
  · obtain ⟨a, y, rfl, ha, q⟩ := h
    exact ⟨_, pss_one (Ex.ps_set (pv 0) (pv 1)), y, rfl, .ref a, rfl, a, C, rfl, E.c.o, E.n, .inl ⟨ha, fun d nd ne => q d nd ne⟩⟩
theorem mkBadMarks {C gI : Addr} {fd : FuncData} (E : Er K mg "BadMarks" "marks" C gI) (F : Fun K "__init__" "BadMarks.__init__" sIBadMarks gI fd) : Mk1 P w K mg base "BadMarks" "marks" C := by
  refine ⟨gI, fd, "marks", E, F.ok scIBadMarks (fun vs H Q E h => ?_) (fun cdv A outer s H vs Q E' hr h => ?_), F.binds fun _ _ _ _ _ _ us hl => match us, hl with | [_, _], _ => rfl⟩
  · obtain ⟨a, y, rfl, _⟩ := h
    rfl
  · obtain ⟨a, y, rfl, ha, q⟩ := h
    exact ⟨_, pss_one (Ex.ps_set (pv 0) (pv 1)), y, rfl, .ref a, rfl, a, C, rfl, E.c.o, E.n, .inl ⟨ha, fun d nd ne => q d nd ne⟩⟩
theorem mkBadOrder {C gI : Addr} {fd : FuncData} (E : Er K mg "BadOrder" "name" C gI) (F : Fun K "__init__" "BadOrder.__init__" sIBadOrder gI fd) : Mk1 P w K mg base "BadOrder" "name" C := by
  refine ⟨gI, fd, "name", E, F.ok scIBadOrder (fun vs H Q E h => ?_) (fun cdv A outer s H vs Q E' hr h => ?_), F.binds fun _ _ _ _ _ _ us hl => match us, hl with | [_, _], _ => rfl⟩
  · obtain ⟨a, y, rfl, _⟩ := h
    rfl
  · obtain ⟨a, y, rfl, ha, q⟩ := h
    exact ⟨_, pss_one (Ex.ps_set (pv 0) (pv 1)), y, rfl, .ref a, rfl, a, C, rfl, E.c.o, E.n, .inl ⟨ha, fun d nd ne => q d nd ne⟩⟩
theorem mkTwice {C gI : Addr} {fd : FuncData} (E : Er K mg "Twice" "name" C gI) (F : Fun K "__init__" "Twice.__init__" sITwice gI fd) : Mk1 P w K mg base "Twice" "name" C := by
  refine ⟨gI, fd, "name", E, F.ok scITwice (fun vs H Q E h => ?_) (fun cdv A outer s H vs Q E' hr h => ?_), F.binds fun _ _ _ _ _ _ us hl => match us, hl with | [_, _], _ => rfl⟩
  · obtain ⟨a, y, rfl, _⟩ := h
    rfl
  · obtain ⟨a, y, rfl, ha, q⟩ := h
    exact ⟨_, pss_one (Ex.ps_set (pv 0) (pv 1)), y, rfl, .ref a, rfl, a, C, rfl, E.c.o, E.n, .inl ⟨ha, fun d nd ne => q d nd ne⟩⟩
theorem mkClash {C gI : Addr} {fd : FuncData} (E : Er K mg "Clash" "name" C gI) (F : Fun K "__init__" "Clash.__init__" sIClash gI fd) : Mk1 P w K mg base "Clash" "name" C := by
  refine ⟨gI, fd, "name", E, F.ok scIClash (fun vs H Q E h => ?_) (fun cdv A outer s H vs Q E' hr h => ?_), F.binds fun _ _ _ _ _ _ us hl => match us, hl with | [_, _], _ => rfl⟩
  · obtain ⟨a, y, rfl, _⟩ := h
    rfl
  · obtain ⟨a, y, rfl, ha, q⟩ := h
    exact ⟨_, pss_one (Ex.ps_set (pv 0) (pv 1)), y, rfl, .ref a, rfl, a, C, rfl, E.c.o, E.n, .inl ⟨ha, fun d nd ne => q d nd ne⟩⟩
theorem mkNoBase {C gI : Addr} {fd : FuncData} (E : Er K mg "NoBase" "base" C gI) (F : Fun K "__init__" "NoBase.__init__" sINoBase gI fd) : Mk1 P w K mg base "NoBase" "base" C := by
  refine ⟨gI, fd, "base", E, F.ok scINoBase (fun vs H Q E h => ?_) (fun cdv A outer s H vs Q E' hr h => ?_), F.binds fun _ _ _ _ _ _ us hl => match us, hl with | [_, _], _ => rfl⟩
  · obtain ⟨a, y, rfl, _⟩ := h
    rfl
  · obtain ⟨a, y, rfl, ha, q⟩ := h
    exact ⟨_, pss_one (Ex.ps_set (pv 0) (pv 1)), y, rfl, .ref a, rfl, a, C, rfl, E.c.o, E.n, .inl ⟨ha, fun d nd ne => q d nd ne⟩⟩
theorem mkNoMark {C gI : Addr} {fd : FuncData} (E : Er K mg "NoMark" "mark" C gI) (F : Fun K "__init__" "NoMark.__init__" sINoMark gI fd) : Mk1 P w K mg base "NoMark" "mark" C := by
  refine ⟨gI, fd, "mark", E, F.ok scINoMark (fun vs H Q E h => ?_) (fun cdv A outer s H vs Q E' hr h => ?_), F.binds fun _ _ _ _ _ _ us hl => match us, hl with | [_, _], _ => rfl⟩
  · obtain ⟨a, y, rfl, _⟩ := h
    rfl
  · obtain ⟨a, y, rfl, ha, q⟩ := h
    exact ⟨_, pss_one (Ex.ps_set (pv 0) (pv 1)), y, rfl, .ref a, rfl, a, C, rfl, E.c.o, E.n, .inl ⟨ha, fun d nd ne => q d nd ne⟩⟩
theorem mkNoDefault {C gI : Addr} {fd : FuncData} (E : Er K mg "NoDefault" "place" C gI) (F : Fun K "__init__" "NoDefault.__init__" sINoDefault gI fd) : Mk1 P w K mg base "NoDefault" "place" C := by
  refine ⟨gI, fd, "place", E, F.ok scINoDefault (fun vs H Q E h => ?_) (fun cdv A outer s H vs Q E' hr h => ?_), F.binds fun _ _ _ _ _ _ us hl => match us, hl with | [_, _], _ => rfl⟩
  · obtain ⟨a, y, rfl, _⟩ := h
    rfl
  · obtain ⟨a, y, rfl, ha, q⟩ := h
    exact ⟨_, pss_one (Ex.ps_set (pv 0) (pv 1)), y, rfl, .ref a, rfl, a, C, rfl, E.c.o, E.n, .inl ⟨ha, fun d nd ne => q d nd ne⟩⟩
theorem mkBadText {C gI : Addr} {fd : FuncData} (E : Er K mg "BadText" "at" C gI) (F : Fun K "__init__" "BadText.__init__" sIBadText gI fd) : Mk1 P w K mg base "BadText" "at" C := by
  refine ⟨gI, fd, "at", E, F.ok scIBadText (fun vs H Q E h => ?_) (fun cdv A outer s H vs Q E' hr h => ?_), F.binds fun _ _ _ _ _ _ us hl => match us, hl with | [_, _], _ => rfl⟩
  · obtain ⟨a, y, rfl, _⟩ := h
    rfl
  · obtain ⟨a, y, rfl, ha, q⟩ := h
    exact ⟨_, pss_one (Ex.ps_set (pv 0) (pv 1)), y, rfl, .ref a, rfl, a, C, rfl, E.c.o, E.n, .inl ⟨ha, fun d nd ne => q d nd ne⟩⟩
theorem mkBadHistory {C gI : Addr} {fd : FuncData} (E : Er K mg "BadHistory" "at" C gI) (F : Fun K "__init__" "BadHistory.__init__" sIBadHistory gI fd) : Mk1 P w K mg base "BadHistory" "at" C := by
  refine ⟨gI, fd, "at", E, F.ok scIBadHistory (fun vs H Q E h => ?_) (fun cdv A outer s H vs Q E' hr h => ?_), F.binds fun _ _ _ _ _ _ us hl => match us, hl with | [_, _], _ => rfl⟩
  · obtain ⟨a, y, rfl, _⟩ := h
    rfl
  · obtain ⟨a, y, rfl, ha, q⟩ := h
    exact ⟨_, pss_one (Ex.ps_set (pv 0) (pv 1)), y, rfl, .ref a, rfl, a, C, rfl, E.c.o, E.n, .inl ⟨ha, fun d nd ne => q d nd ne⟩⟩
theorem mkBadCallers {C gI : Addr} {fd : FuncData} (E : Er K mg "BadCallers" "part" C gI) (F : Fun K "__init__" "BadCallers.__init__" sIBadCallers gI fd) : Mk1 P w K mg base "BadCallers" "part" C := by
  refine ⟨gI, fd, "part", E, F.ok scIBadCallers (fun vs H Q E h => ?_) (fun cdv A outer s H vs Q E' hr h => ?_), F.binds fun _ _ _ _ _ _ us hl => match us, hl with | [_, _], _ => rfl⟩
  · obtain ⟨a, y, rfl, _⟩ := h
    rfl
  · obtain ⟨a, y, rfl, ha, q⟩ := h
    exact ⟨_, pss_one (Ex.ps_set (pv 0) (pv 1)), y, rfl, .ref a, rfl, a, C, rfl, E.c.o, E.n, .inl ⟨ha, fun d nd ne => q d nd ne⟩⟩
theorem mkBadWorld {C gI : Addr} {fd : FuncData} (E : Er K mg "BadWorld" "given" C gI) (F : Fun K "__init__" "BadWorld.__init__" sIBadWorld gI fd) : Mk1 P w K mg base "BadWorld" "given" C := by
  refine ⟨gI, fd, "given", E, F.ok scIBadWorld (fun vs H Q E h => ?_) (fun cdv A outer s H vs Q E' hr h => ?_), F.binds fun _ _ _ _ _ _ us hl => match us, hl with | [_, _], _ => rfl⟩
  · obtain ⟨a, y, rfl, _⟩ := h
    rfl
  · obtain ⟨a, y, rfl, ha, q⟩ := h
    exact ⟨_, pss_one (Ex.ps_set (pv 0) (pv 1)), y, rfl, .ref a, rfl, a, C, rfl, E.c.o, E.n, .inl ⟨ha, fun d nd ne => q d nd ne⟩⟩
theorem mkNoWorld {C gI : Addr} {fd : FuncData} (E : Er K mg "NoWorld" "index" C gI) (F : Fun K "__init__" "NoWorld.__init__" sINoWorld gI fd) : Mk1 P w K mg base "NoWorld" "index" C := by
  refine ⟨gI, fd, "index", E, F.ok scINoWorld (fun vs H Q E h => ?_) (fun cdv A outer s H vs Q E' hr h => ?_), F.binds fun _ _ _ _ _ _ us hl => match us, hl with | [_, _], _ => rfl⟩
  · obtain ⟨a, y, rfl, _⟩ := h
    rfl
  · obtain ⟨a, y, rfl, ha, q⟩ := h
    exact ⟨_, pss_one (Ex.ps_set (pv 0) (pv 1)), y, rfl, .ref a, rfl, a, C, rfl, E.c.o, E.n, .inl ⟨ha, fun d nd ne => q d nd ne⟩⟩
theorem mkTooMany {C gI : Addr} {fd : FuncData} (E : Er K mg "TooMany" "what" C gI) (F : Fun K "__init__" "TooMany.__init__" sITooMany gI fd) : Mk1 P w K mg base "TooMany" "what" C := by
  refine ⟨gI, fd, "what", E, F.ok scITooMany (fun vs H Q E h => ?_) (fun cdv A outer s H vs Q E' hr h => ?_), F.binds fun _ _ _ _ _ _ us hl => match us, hl with | [_, _], _ => rfl⟩
  · obtain ⟨a, y, rfl, _⟩ := h
    rfl
  · obtain ⟨a, y, rfl, ha, q⟩ := h
    exact ⟨_, pss_one (Ex.ps_set (pv 0) (pv 1)), y, rfl, .ref a, rfl, a, C, rfl, E.c.o, E.n, .inl ⟨ha, fun d nd ne => q d nd ne⟩⟩
theorem mkBadStep {C gI : Addr} {fd : FuncData} (E : Er K mg "BadStep" "given" C gI) (F : Fun K "__init__" "BadStep.__init__" sIBadStep gI fd) : Mk1 P w K mg base "BadStep" "given" C := by
  refine ⟨gI, fd, "given", E, F.ok scIBadStep (fun vs H Q E h => ?_) (fun cdv A outer s H vs Q E' hr h => ?_), F.binds fun _ _ _ _ _ _ us hl => match us, hl with | [_, _], _ => rfl⟩
  · obtain ⟨a, y, rfl, _⟩ := h
    rfl
  · obtain ⟨a, y, rfl, ha, q⟩ := h
    exact ⟨_, pss_one (Ex.ps_set (pv 0) (pv 1)), y, rfl, .ref a, rfl, a, C, rfl, E.c.o, E.n, .inl ⟨ha, fun d nd ne => q d nd ne⟩⟩
theorem mkNoKind {C gI : Addr} {fd : FuncData} (E : Er K mg "NoKind" "kind" C gI) (F : Fun K "__init__" "NoKind.__init__" sINoKind gI fd) : Mk1 P w K mg base "NoKind" "kind" C := by
  refine ⟨gI, fd, "kind", E, F.ok scINoKind (fun vs H Q E h => ?_) (fun cdv A outer s H vs Q E' hr h => ?_), F.binds fun _ _ _ _ _ _ us hl => match us, hl with | [_, _], _ => rfl⟩
  · obtain ⟨a, y, rfl, _⟩ := h
    rfl
  · obtain ⟨a, y, rfl, ha, q⟩ := h
    exact ⟨_, pss_one (Ex.ps_set (pv 0) (pv 1)), y, rfl, .ref a, rfl, a, C, rfl, E.c.o, E.n, .inl ⟨ha, fun d nd ne => q d nd ne⟩⟩
theorem mkNoMethod {C gI : Addr} {fd : FuncData} (E : Er K mg "NoMethod" "name" C gI) (F : Fun K "__init__" "NoMethod.__init__" sINoMethod gI fd) : Mk1 P w K mg base "NoMethod" "name" C := by
  refine ⟨gI, fd, "name", E, F.ok scINoMethod (fun vs H Q E h => ?_) (fun cdv A outer s H vs Q E' hr h => ?_), F.binds fun _ _ _ _ _ _ us hl => match us, hl with | [_, _], _ => rfl⟩
  · obtain ⟨a, y, rfl, _⟩ := h
    rfl
  · obtain ⟨a, y, rfl, ha, q⟩ := h
    exact ⟨_, pss_one (Ex.ps_set (pv 0) (pv 1)), y, rfl, .ref a, rfl, a, C, rfl, E.c.o, E.n, .inl ⟨ha, fun d nd ne => q d nd ne⟩⟩
theorem mkTooManyArguments {C gI : Addr} {fd : FuncData} (E : Er K mg "TooManyArguments" "count" C gI) (F : Fun K "__init__" "TooManyArguments.__init__" sITooManyArguments gI fd) : Mk1 P w K mg base "TooManyArguments" "count" C := by
  refine ⟨gI, fd, "count", E, F.ok scITooManyArguments (fun vs H Q E h => ?_) (fun cdv A outer s H vs Q E' hr h => ?_), F.binds fun _ _ _ _ _ _ us hl => match us, hl with | [_, _], _ => rfl⟩
  · obtain ⟨a, y, rfl, _⟩ := h
    rfl
  · obtain ⟨a, y, rfl, ha, q⟩ := h
    exact ⟨_, pss_one (Ex.ps_set (pv 0) (pv 1)), y, rfl, .ref a, rfl, a, C, rfl, E.c.o, E.n, .inl ⟨ha, fun d nd ne => q d nd ne⟩⟩
theorem mkNoOption {C gI : Addr} {fd : FuncData} (E : Er K mg "NoOption" "name" C gI) (F : Fun K "__init__" "NoOption.__init__" sINoOption gI fd) : Mk1 P w K mg base "NoOption" "name" C := by
  refine ⟨gI, fd, "name", E, F.ok scINoOption (fun vs H Q E h => ?_) (fun cdv A outer s H vs Q E' hr h => ?_), F.binds fun _ _ _ _ _ _ us hl => match us, hl with | [_, _], _ => rfl⟩
  · obtain ⟨a, y, rfl, _⟩ := h
    rfl
  · obtain ⟨a, y, rfl, ha, q⟩ := h
    exact ⟨_, pss_one (Ex.ps_set (pv 0) (pv 1)), y, rfl, .ref a, rfl, a, C, rfl, E.c.o, E.n, .inl ⟨ha, fun d nd ne => q d nd ne⟩⟩
theorem mkGivenTwice {C gI : Addr} {fd : FuncData} (E : Er K mg "GivenTwice" "name" C gI) (F : Fun K "__init__" "GivenTwice.__init__" sIGivenTwice gI fd) : Mk1 P w K mg base "GivenTwice" "name" C := by
  refine ⟨gI, fd, "name", E, F.ok scIGivenTwice (fun vs H Q E h => ?_) (fun cdv A outer s H vs Q E' hr h => ?_), F.binds fun _ _ _ _ _ _ us hl => match us, hl with | [_, _], _ => rfl⟩
  · obtain ⟨a, y, rfl, _⟩ := h
    rfl
  · obtain ⟨a, y, rfl, ha, q⟩ := h
    exact ⟨_, pss_one (Ex.ps_set (pv 0) (pv 1)), y, rfl, .ref a, rfl, a, C, rfl, E.c.o, E.n, .inl ⟨ha, fun d nd ne => q d nd ne⟩⟩
theorem mkMissing {C gI : Addr} {fd : FuncData} (E : Er K mg "Missing" "name" C gI) (F : Fun K "__init__" "Missing.__init__" sIMissing gI fd) : Mk1 P w K mg base "Missing" "name" C := by
  refine ⟨gI, fd, "name", E, F.ok scIMissing (fun vs H Q E h => ?_) (fun cdv A outer s H vs Q E' hr h => ?_), F.binds fun _ _ _ _ _ _ us hl => match us, hl with | [_, _], _ => rfl⟩
  · obtain ⟨a, y, rfl, _⟩ := h
    rfl
  · obtain ⟨a, y, rfl, ha, q⟩ := h
    exact ⟨_, pss_one (Ex.ps_set (pv 0) (pv 1)), y, rfl, .ref a, rfl, a, C, rfl, E.c.o, E.n, .inl ⟨ha, fun d nd ne => q d nd ne⟩⟩
theorem mkBadArgument {C gI : Addr} {fd : FuncData} (E : Er K mg "BadArgument" "name" C gI) (F : Fun K "__init__" "BadArgument.__init__" sIBadArgument gI fd) : Mk1 P w K mg base "BadArgument" "name" C := by
  refine ⟨gI, fd, "name", E, F.ok scIBadArgument (fun vs H Q E h => ?_) (fun cdv A outer s H vs Q E' hr h => ?_), F.binds fun _ _ _ _ _ _ us hl => match us, hl with | [_, _], _ => rfl⟩
  · obtain ⟨a, y, rfl, _⟩ := h
    rfl
  · obtain ⟨a, y, rfl, ha, q⟩ := h
    exact ⟨_, pss_one (Ex.ps_set (pv 0) (pv 1)), y, rfl, .ref a, rfl, a, C, rfl, E.c.o, E.n, .inl ⟨ha, fun d nd ne => q d nd ne⟩⟩
theorem mkNoBox {C gI : Addr} {fd : FuncData} (E : Er K mg "NoBox" "k" C gI) (F : Fun K "__init__" "NoBox.__init__" sINoBox gI fd) : Mk1 P w K mg base "NoBox" "k" C := by
  refine ⟨gI, fd, "k", E, F.ok scINoBox (fun vs H Q E h => ?_) (fun cdv A outer s H vs Q E' hr h => ?_), F.binds fun _ _ _ _ _ _ us hl => match us, hl with | [_, _], _ => rfl⟩
  · obtain ⟨a, y, rfl, _⟩ := h
    rfl
  · obtain ⟨a, y, rfl, ha, q⟩ := h
    exact ⟨_, pss_one (Ex.ps_set (pv 0) (pv 1)), y, rfl, .ref a, rfl, a, C, rfl, E.c.o, E.n, .inl ⟨ha, fun d nd ne => q d nd ne⟩⟩
theorem mkBadMark {C gI : Addr} {fd : FuncData} (E : Er K mg "BadMark" "mark" C gI) (F : Fun K "__init__" "BadMark.__init__" sIBadMark gI fd) : Mk1 P w K mg base "BadMark" "mark" C := by
  refine ⟨gI, fd, "mark", E, F.ok scIBadMark (fun vs H Q E h => ?_) (fun cdv A outer s H vs Q E' hr h => ?_), F.binds fun _ _ _ _ _ _ us hl => match us, hl with | [_, _], _ => rfl⟩
  · obtain ⟨a, y, rfl, _⟩ := h
    rfl
  · obtain ⟨a, y, rfl, ha, q⟩ := h
    exact ⟨_, pss_one (Ex.ps_set (pv 0) (pv 1)), y, rfl, .ref a, rfl, a, C, rfl, E.c.o, E.n, .inl ⟨ha, fun d nd ne => q d nd ne⟩⟩
theorem mkNoValue {C gI : Addr} {fd : FuncData} (E : Er K mg "NoValue" "owner" C gI) (nv : PySem.W.findIn K (.ref C) "value" = some none) (F : Fun K "__init__" "NoValue.__init__" sINoValue gI fd) : FnOk P w K mg base CX0 1 gI fd ["self", "owner", "value"] (spI2 C "owner" "value") := by
  refine F.ok scINoValue (fun vs H Q E h => ?_) (fun cdv A outer s H vs Q E' hr h => ?_)
  · obtain ⟨a, y, z, rfl, _⟩ := h
    rfl
  · obtain ⟨a, y, z, rfl, ha, q⟩ := h
    refine ⟨_, pss_cons (Ex.ps_set (pv 0) (pv 1)) (pss_one (Ex.ps_set (pv 0) (pv 2))), y, rfl, .ref a, rfl, a, C, rfl, E.c.o, E.n, .inl ⟨ha, fun d nd ne => ?_⟩⟩
    exact ⟨z, rfl, .ref a, rfl, a, C, rfl, E.c.o, nv, .inr ⟨d, _, upd_same, (upd_ne ne).trans upd_same, by show 1 ≤ 900; decide, q d nd ne⟩⟩
theorem same_two {H : Hp} {a d : Addr} {u v w : HO} (na : H a = none) (nd : upd H a u d = none) (ne : d ≠ a) : Same H (upd (upd (upd H a u) d v) a w) := fun b o e => by
  rw [upd_ne ne] at nd
  rw [upd_ne (ne_of_none e na), upd_ne (ne_of_none e nd), upd_ne (ne_of_none e na)]
  exact e
theorem e1_end {C a : Addr} {H : Hp} {f : Str} {y : V} {R : Hp → Prop} (na : H a = none) (q : ∀ H', Same H H' → Ex.ExAt H' a C [(f, y)] → R H') :
    spI C f [.ref a, y] (upd H a (exo a C none)) (fun v H2 => v = .non ∧ R H2) (fun _ _ _ => False) :=
  ⟨a, y, rfl, upd_same, fun d nd ne => ⟨rfl, q _ (same_two na nd ne) (.inr ⟨d, upd_same, (upd_ne ne).trans upd_same⟩)⟩⟩
theorem Mk1.xf {x f : Str} {C : Addr} (M : Mk1 P w K mg base x f C) : XfC K C := let ⟨_, _, _, E, _⟩ := M.ex; E.c.f
theorem Mk1.no {x f : Str} {C : Addr} (M : Mk1 P w K mg base x f C) : PySem.W.findIn K (.ref C) f = some none := let ⟨_, _, _, E, _⟩ := M.ex; E.n
theorem Mk1.xc {x f : Str} {C : Addr} (M : Mk1 P w K mg base x f C) : ExcC K C := let ⟨_, _, _, E, _⟩ := M.ex; E.c.x
theorem Mk1.g {x f : Str} {C : Addr} (M : Mk1 P w K mg base x f C) : mg x = some (.ref C) := let ⟨_, _, _, E, _⟩ := M.ex; E.g
end
section
variable {X : Cx} {x f : Str} {C : Addr} {p pos : Pos} {e : Expr} {te : TE}
theorem pe_e1 (M : Mk1 X.prog X.w X.K X.mg X.base x f C) (hr : Room 2 X.A) (hx : Passes CX0 X (fun _ _ _ => False)) (hg : Gl X x) (ha : PE X e te) (hdb : (x == ("__debug__" : Str)) = false := by decide)
    (he : starEach [e] X.env = (false, eval e X.env) :: starEach [] X.env := by rfl) : PE X (.Call (.Name x p) [e] [] pos) (Ex.tMkV C (spI C f) (tCons te tNil)) := by
  obtain ⟨gI, fd, y, E, F, b⟩ := M.ex
  exact Ex.pe_mkV E.c.o E.i E.t F hr b hx hg E.g (pa_cons ha pa_nil he) hdb he
end
end Dr
namespace Dr
open PySem PySem.Spec PyProof.Rows L2
section
variable {X : Cx}
/-- a text, so many times -/
theorem op_mulS : OpR X (binaryOp .Mult) (fun x y H Q => ∃ (z : Str) (n : Int), x = .str z ∧ y = .int n ∧ MulOk z n ∧ Q (.str (Txt.mul z n)) H) := by
  intro pins s σ H x y v u Q I rx ry h
  obtain ⟨z, n, rfl, rfl, ok, q⟩ := h
  obtain ⟨t, rfl⟩ := rx
  obtain ⟨t2, rfl⟩ := ry
  exact PySem.SB.mul ok fun t' k => ⟨.str _, H, I.tok _, ⟨_, rfl⟩, q⟩
end
theorem Same.seqT {K : PySem.W.Frag} {H H' : Hp} {a : Addr} {xs : List V} (e : Same H H') (h : SqT K H a xs) : SqT K H' a xs := by
  rcases h with (h | ⟨o, h⟩) | h
  · exact .inl (.inl (e _ _ h))
  · exact .inl (.inr ⟨o, e _ _ h⟩)
  · exact .inr h
mutual
theorem dp_same {K : PySem.W.Frag} {H H' : Hp} (e : Same H H') : ∀ {v : V} {d : PyData}, Dp K H v d → Dp K H' v d
  | _, _, .non => .non
  | _, _, .bl b => .bl b
  | _, _, .int i => .int i
  | _, _, .str x => .str x
  | _, _, .lst h hs => .lst (e.seq h) (dpAll_same e hs)
  | _, _, .tup h hs => .tup (Same.seqT e h) (dpAll_same e hs)
theorem dpAll_same {K : PySem.W.Frag} {H H' : Hp} (e : Same H H') : ∀ {vs : List V} {ds : List PyData}, DpAll K H vs ds → DpAll K H' vs ds
  | _, _, .nil => .nil
  | _, _, .cons h hs => .cons (dp_same e h) (dpAll_same e hs)
end
theorem dpAll_len {K : PySem.W.Frag} {H : Hp} : ∀ {vs : List V} {ds : List PyData}, DpAll K H vs ds → vs.length = ds.length
  | _, _, .nil => rfl
  | _, _, .cons _ hs => by rw [List.length_cons, List.length_cons, dpAll_len hs]
theorem dpAll_app {K : PySem.W.Frag} {H : Hp} : ∀ {vs : List V} {ds : List PyData} {us : List V} {es : List PyData}, DpAll K H vs ds → DpAll K H us es → DpAll K H (vs ++ us) (ds ++ es)
  | _, _, _, _, .nil, h => h
  | _, _, _, _, .cons h hs, k => .cons h (dpAll_app hs k)
open Classical in
/-- the heap without the places of T -/
noncomputable def hid (T : Addr → Prop) (H : Hp) : Hp := fun b => if T b then none else H b
/-- all places of T are taken -/
def Dom (T : Addr → Prop) (H : Hp) : Prop := ∀ b, T b → H b ≠ none
abbrev Dq (K : PySem.W.Frag) (T : Addr → Prop) (H : Hp) (v : V) (d : PyData) : Prop := Dp K (hid T H) v d
abbrev DqAll (K : PySem.W.Frag) (T : Addr → Prop) (H : Hp) (vs : List V) (ds : List PyData) : Prop := DpAll K (hid T H) vs ds
/-- all but the places of T stays -/
def StT (T : Addr → Prop) (H H' : Hp) : Prop := ∀ b o, ¬ T b → H b = some o → H' b = some o
theorem hid_sub {T : Addr → Prop} {H : Hp} : Same (hid T H) H := fun b o e => by
  unfold hid at e
  split at e
  · cases e
  · exact e
theorem hid_stT {T : Addr → Prop} {H H' : Hp} (s : StT T H H') : Same (hid T H) (hid T H') := fun b o e => by
  unfold hid at e ⊢
  split at e
  · cases e
  · rename_i n
    rw [if_neg n]
    exact s _ _ n e
theorem hid_less {T T' : Addr → Prop} {H : Hp} (i : ∀ b, T b → T' b) : Same (hid T' H) (hid T H) := fun b o e => by
  unfold hid at e ⊢
  split at e
  · cases e
  · rename_i n
    rw [if_neg (fun t => n (i b t))]
    exact e
theorem StT.same {T : Addr → Prop} {H H' : Hp} (s : Same H H') : StT T H H' := fun b o _ e => s b o e
theorem StT.kp {T : Addr → Prop} {p : Addr} {H H' : Hp} (k : Kp p H H') (tp : T p) : StT T H H' := fun b o n e => k.1 b o (fun z => n (z ▸ tp)) e
theorem StT.set {T : Addr → Prop} {H : Hp} {c : Addr} {o : HO} (tc : T c) : StT T H (upd H c o) := fun b u n e => by
  rw [upd_ne (fun z => n (by rw [z]; exact tc))]
  exact e
theorem hid_at {T : Addr → Prop} {q : Addr} {H : Hp} {o : HO} (n : ¬ T q) (h : H q = some o) : hid T H q = some o := by
  unfold hid
  rw [if_neg n]
  exact h
theorem Dom.same {T : Addr → Prop} {H H' : Hp} (d : Dom T H) (s : Same H H') : Dom T H' := fun b t z => by
  cases e : H b with
  | none => exact d b t e
  | some o =>
    rw [s _ _ e] at z
    cases z
theorem Dom.kp {T : Addr → Prop} {p : Addr} {H H' : Hp} (d : Dom T H) (k : Kp p H H') : Dom T H' := fun b t z => by
  by_cases n : b = p
  · subst n
    obtain ⟨_, _, hp, _⟩ := k.2
    rw [hp] at z
    cases z
  · cases e : H b with
    | none => exact d b t e
    | some o =>
      rw [k.1 _ _ n e] at z
      cases z
theorem Dom.new {T : Addr → Prop} {H : Hp} {q : Addr} (d : Dom T H) (n : H q = none) : ¬ T q := fun t => d q t n
theorem Dq.dp {K : PySem.W.Frag} {T : Addr → Prop} {H : Hp} {v : V} {d : PyData} (h : Dq K T H v d) : Dp K H v d := dp_same hid_sub h
theorem Dq.stT {K : PySem.W.Frag} {T : Addr → Prop} {H H' : Hp} {v : V} {d : PyData} (h : Dq K T H v d) (s : StT T H H') : Dq K T H' v d := dp_same (hid_stT s) h
theorem DqAll.stT {K : PySem.W.Frag} {T : Addr → Prop} {H H' : Hp} {v : List V} {d : List PyData} (h : DqAll K T H v d) (s : StT T H H') : DqAll K T H' v d := dpAll_same (hid_stT s) h
theorem bag_ne {p a : Addr} {H : Hp} (b : Bag H p) (h : H a = none) : a ≠ p := fun e => by
  obtain ⟨u, v, hp, _⟩ := b
  rw [e, hp] at h
  cases h
theorem Kp.none {p a : Addr} {H H' : Hp} (k : Kp p H H') (n : a ≠ p) (h : H' a = none) : H a = none := by
  cases e : H a with
  | none => rfl
  | some o =>
    rw [k.1 _ _ n e] at h
    cases h
/-- how long the shown text may be, by the depth -/
def bd : Nat → Nat
  | 0 => 400
  | n + 1 => 3 * bd n + 20
structure Tg (n : Nat) (d : PyData) : Prop where
  sh : d.showable = true
  nd : d.hasDict = false
  dp : d.depth ≤ n
  sz : d.shown.length ≤ bd n
theorem bd_mono {n m : Nat} (h : n ≤ m) : bd n ≤ bd m := by
  induction h with
  | refl => exact Nat.le_refl _
  | step h ih =>
    show _ ≤ 3 * bd _ + 20
    omega
theorem Tg.mono {n m : Nat} {d : PyData} (t : Tg n d) (h : n ≤ m) : Tg m d := ⟨t.sh, t.nd, Nat.le_trans t.dp h, Nat.le_trans t.sz (bd_mono h)⟩
theorem bd0 (n : Nat) : 400 ≤ bd n := bd_mono (Nat.zero_le n)
theorem tg_non {n : Nat} : Tg n .none := ⟨rfl, rfl, Nat.zero_le _, Nat.le_trans (show (4 : Nat) ≤ 400 by decide) (bd0 n)⟩
theorem tg_true {n : Nat} : Tg n (.bool true) := ⟨rfl, rfl, Nat.zero_le _, Nat.le_trans (show (4 : Nat) ≤ 400 by decide) (bd0 n)⟩
theorem tg_int {n : Nat} {i : Int} (h : i.natAbs < 10 ^ 12) : Tg n (.int i) := ⟨by
  refine decide_eq_true ?_
  by_cases z : i.natAbs = 0
  · rw [z]
    decide
  · exact Nat.lt_of_lt_of_le ((Nat.log2_lt z).mpr (Nat.lt_of_lt_of_le h (show 10 ^ 12 ≤ 2 ^ 40 by decide))) (by decide), rfl, Nat.zero_le _, Nat.le_trans (PyData.shown_int_le h) (Nat.le_trans (by decide) (bd0 n))⟩
theorem tg_str {n : Nat} {z : Str} (hz : ∀ c ∈ z.cps.toList, c < 16 ^ 8) (hl : z.length ≤ 30) : Tg n (.str z) := ⟨rfl, rfl, Nat.zero_le _, Nat.le_trans (StrLaws.reprText_len z hz) (Nat.le_trans (by omega) (bd0 n))⟩
theorem tg_all {n : Nat} : ∀ {ds : List PyData}, (∀ d ∈ ds, Tg n d) → PyData.showableAll ds = true ∧ PyData.hasDictAll ds = false ∧ PyData.depthAll ds ≤ n ∧ ((PyData.shownAll ds).map (·.length)).sum ≤ ds.length * bd n ∧ (PyData.shownAll ds).length = ds.length
  | [], _ => ⟨rfl, rfl, Nat.zero_le _, Nat.zero_le _, rfl⟩
  | x :: r, h => by
    obtain ⟨h1, h2, h3, h4, h5⟩ := tg_all (ds := r) fun d m => h d (List.mem_cons_of_mem _ m)
    have t := h x (List.mem_cons_self ..)
    refine ⟨?_, ?_, ?_, ?_, ?_⟩
    · show (x.showable && PyData.showableAll r) = true
      rw [t.sh, h1]
      rfl
    · show (x.hasDict || PyData.hasDictAll r) = false
      rw [t.nd, h2]
      rfl
    · show max x.depth (PyData.depthAll r) ≤ n
      have := t.dp
      omega
    · show x.shown.length + ((PyData.shownAll r).map (·.length)).sum ≤ (r.length + 1) * bd n
      have := t.sz
      rw [Nat.add_mul]
      omega
    · show (PyData.shownAll r).length + 1 = r.length + 1
      rw [h5]
theorem tg_lst {n : Nat} {ds : List PyData} (h : ∀ d ∈ ds, Tg n d) (hl : ds.length ≤ 3) : Tg (n + 1) (.list ds) := by
  obtain ⟨h1, h2, h3, h4, h5⟩ := tg_all h
  refine ⟨h1, h2, Nat.succ_le_succ h3, ?_⟩
  show (listText (PyData.shownAll ds)).length ≤ 3 * bd n + 20
  have a := listText_len_le (PyData.shownAll ds)
  have b : ds.length * bd n ≤ 3 * bd n := Nat.mul_le_mul_right _ hl
  omega
theorem tg_tup {n : Nat} {ds : List PyData} (h : ∀ d ∈ ds, Tg n d) (hl : ds.length ≤ 3) : Tg (n + 1) (.tuple ds) := by
  obtain ⟨h1, h2, h3, h4, h5⟩ := tg_all h
  refine ⟨h1, h2, Nat.succ_le_succ h3, ?_⟩
  show (tupleText (PyData.shownAll ds)).length ≤ 3 * bd n + 20
  have a := tupleText_len_le (PyData.shownAll ds)
  have b : ds.length * bd n ≤ 3 * bd n := Nat.mul_le_mul_right _ hl
  omega
/-- "a" so many times -/
def aas : Nat → Str
  | 0 => Txt.mul "a" 0
  | n + 1 => Txt.mul "a" ((n : Int) + 1)
theorem mul_a {r : Int} (h0 : 0 ≤ r) (h1 : r < 20) : MulOk "a" r ∧ (∀ c ∈ (Txt.mul "a" r).cps.toList, c < 16 ^ 8) ∧ (Txt.mul "a" r).length ≤ 30 := by
  have key : ∀ n : Nat, n < 20 → (decide ((n : Int) < -(2 ^ 63 : Int)) || decide ((n : Int) ≥ 2 ^ 63)) = false ∧ ((∀ c ∈ (Txt.mul "a" (n : Int)).cps.toList, c < 16 ^ 8) ∧ (Txt.mul "a" (n : Int)).length ≤ 30) := by
    intro n hn
    refine ⟨?_, ?_⟩
    · simp only [Bool.or_eq_false_iff, decide_eq_false_iff_not]
      omega
    · have all : ∀ n : Fin 20, (∀ c ∈ (Txt.mul "a" ((n : Nat) : Int)).cps.toList, c < 16 ^ 8) ∧ (Txt.mul "a" ((n : Nat) : Int)).length ≤ 30 := by decide +kernel
      exact all ⟨n, hn⟩
  obtain ⟨n, rfl⟩ : ∃ n : Nat, r = (n : Int) := ⟨r.toNat, by omega⟩
  obtain ⟨k1, k2⟩ := key n (by omega)
  refine ⟨⟨k1, fun a b => ?_, fun a b => ?_⟩, k2⟩
  · have l1 : (("a" : Str).length : Int) = 1 := rfl
    rw [l1]
    have : 1 ≤ (2 ^ 63 - 1 : Int) / (n : Int) := Int.le_ediv_of_mul_le (by omega) (by omega)
    omega
  · have l1 : ("a" : Str).length = 1 := rfl
    rw [l1]
    have all : ∀ n : Fin 20, Builtin.Str.tooLong (1 * ((n : Nat) : Int).toNat) = false := by decide +kernel
    exact all ⟨n, by omega⟩
abbrev sThing : Stmt := topS 35
abbrev nThing : List Str := ["_law_bag_here", "_law_depth", "_law_turn", "_law_row", "_law_k"]
theorem scThing : FnScope nThing ["_law_bag_here", "_law_depth"] (defScope sThing) := ⟨rfl, rfl, rfl, by decide +kernel, rfl, by decide +kernel, by decide +kernel⟩
/-- the built-in names of the draws of objects -/
structure BltT (mg : Str → Option Value) : Prop where
  ran : mg "range" = none
  tup : mg "tuple" = none
section
variable {P : Program} {w : World} {K : PySem.W.Frag} {mg : Str → Option Value} {base : Heap}
def spTh (K : PySem.W.Frag) (n : Nat) : Sp := fun vs H Q _ => ∃ (p : Addr) (dep : Int) (T : Addr → Prop), vs = [.ref p, .int dep] ∧ Bag H p ∧ T p ∧ Dom T H ∧ dep + n = 3 ∧ n ≤ 3 ∧ ∀ H' v d, Kp p H H' → Tg n d → Dq K T H' v d → Q v H'
/-- the def itself, one level up: sp' is what the call within may use -/
theorem th_step {f fT : Addr} {fd fdT : FuncData} (F : Fun K "_law_thing" "_law_thing" sThing f fd) (B : BltT mg) (mF : mg "_law_thing" = some (.ref f))
    (bF : Binds K fd ["_law_bag_here", "_law_depth"] []) (GT : FnOk P w K mg base CX0 1 fT fdT ["_law_bag_here", "_law_many"] spTake) (mT : mg "_law_take" = some (.ref fT)) (kT : PySem.W.keepIn K (.ref fT) = true) (bT : Binds K fdT ["_law_bag_here", "_law_many"] [])
    {sp' : Sp} {k n : Nat} (G : FnOk P w K mg base CX0 (k + 1) f fd ["_law_bag_here", "_law_depth"] sp') (hs : ∀ m, n = m + 1 → sp' = spTh K m) : FnOk P w K mg base CX0 (k + 2) f fd ["_law_bag_here", "_law_depth"] (spTh K n) := by
  refine F.ok scThing (fun vs H Q E h => ?_) (fun cdv A outer s H vs Q E hr h => ?_)
  · obtain ⟨p, dep, T, rfl, _⟩ := h
    rfl
  · obtain ⟨p, dep, T, rfl, hB, hT, hD, hn, hn3, q⟩ := h
    have hr1 := hr.mono (show 1 ≤ k + 1 by omega)
    refine ⟨_, C8.pss_cut (ps_set (i := 2) scThing.nd rfl (.inl rfl) (pe_call GT hr1 (by rfl) mT kT bT .nil pass0 (pa_cons (pv 0) (pa_cons (pe_ifExp (pt_cmpR op_lt (pv 1) pe_int (nomark _)) pe_int pe_int) pa_nil))))
      (pss_cons (ps_if (pt_cmpR op_lt (pv 2) pe_int (nomark _))
          (pss_one (ps_ret (pe_op op_sub (pe_call GT hr1 (by rfl) mT kT bT .nil pass0 (pa_cons (pv 0) (pa_cons (pe_op op_pow pe_int pe_int) pa_nil))) (pe_op op_pow pe_int pe_int)))) pss_nil)
      (pss_cons (ps_if (pt_cmpR op_lt (pv 2) pe_int (nomark _))
          (pss_one (ps_ret (pe_ix ix_list (pe_lst (pa_cons pe_non (pa_cons pe_bl (pa_cons (pe_op op_mulS pe_str (pe_call GT hr1 (by rfl) mT kT bT .nil pass0 (pa_cons (pv 0) (pa_cons pe_int pa_nil)))) pa_nil)))) (pe_op op_sub (pv 2) pe_int) (fun _ _ => rfl)))) pss_nil)
      (pss_cons (ps_setLc (i := 3) (own := [("_law_k", 4)]) (g := gName 4) (tt := tYes) rfl scThing.nd rfl rfl (sw_true rfl rfl rfl (by decide +kernel)) (pi_range1 (by rfl) B.ran (pa_cons (pe_call GT hr1 (by rfl) mT kT bT .nil pass0 (pa_cons (pv 0) (pa_cons pe_int pa_nil))) pa_nil))
          (blkOk_by (N := nThing) (sc := defScope sThing) (by decide +kernel)) (fun _ _ _ _ _ => pg_name (i := 4) scThing.nd rfl (Or.inl rfl)) (fun _ _ _ _ _ => pts_nil)
          (fun _ _ _ _ _ => pe_call G hr (by rfl) mF F.kp bF .nil pass0 (pa_cons (pv 0) (pa_cons (pe_op op_add (pv 1) pe_int) pa_nil))))
      (pss_one (ps_ret (pe_ifExp (pt_cmpR op_lt (pv 2) pe_int (nomark _)) (pv 3) (pe_callTy call_tuple_of (by rfl) B.tup (by decide +kernel) (pa_cons (pv 3) pa_nil)))))))), ?_⟩



    refine ⟨fun σ' H' => Kp p H H' ∧ ∃ t : Int, σ' = [some (.ref p), some (.int dep), some (.int t), none, none] ∧ 0 ≤ t ∧ t < 8 ∧ (n = 0 → t < 5), ?_, fun σ' H' hM => ?_⟩
    · refine ⟨_, rfl, _, rfl, _, _, rfl, rfl, _, rfl, ite2 (fun hlt => ?_) (fun hge => ?_)⟩
      · have hlt : dep < 3 := of_decide_eq_true hlt
        exact ⟨p, 8, rfl, hB, by decide, by decide, fun H1 t k1 t0 t1 => ⟨k1, t, rfl, t0, t1, fun z => by omega⟩⟩
      · exact ⟨p, 5, rfl, hB, by decide, by decide, fun H1 t k1 t0 t1 => ⟨k1, t, rfl, t0, by omega, fun z => t1⟩⟩
    obtain ⟨k1, t, rfl, t0, t8, t5⟩ := hM
    refine ⟨_, rfl, _, _, rfl, rfl, _, rfl, ite2 (fun h2 => ?_) (fun h2 => ?_)⟩
    · refine ⟨_, rfl, _, _, rfl, rfl, ⟨by decide, by decide, by decide⟩, p, _, rfl, k1.2, by decide, by decide, fun H2 r k2 r0 r1 => ?_⟩
      refine ⟨_, _, rfl, rfl, ⟨by decide, by decide, by decide⟩, _, _, rfl, rfl, q H2 _ (.int (r - 10 ^ 6)) (k1.trans k2) (tg_int ?_) (.int _)⟩
      have r1 : r < 10 ^ 12 := r1
      omega
    have h2 : ¬ t < 2 := fun z => h2 (decide_eq_true z)
    refine ⟨_, rfl, _, _, rfl, rfl, _, rfl, ite2 (fun h5 => ?_) (fun h5 => ?_)⟩
    · have h5 : t < 5 := of_decide_eq_true h5
      refine ⟨_, rfl, p, _, rfl, k1.2, by decide, by decide, fun H2 r k2 r0 r1 => ?_⟩
      obtain ⟨m1, m2, m3⟩ := mul_a r0 r1
      have k3 := k1.trans k2
      refine ⟨_, r, rfl, rfl, m1, by show 3 ≤ sizeLine; decide, fun l nl => ⟨_, rfl, _, _, rfl, rfl, ?_⟩⟩
      have s1 := same_upd (o := .lst [V.non, .bl true, .str (Txt.mul "a" r)]) nl
      have k4 := k3.same s1
      have at1 : SqL K (upd H2 l (.lst [V.non, .bl true, .str (Txt.mul "a" r)])) l [V.non, .bl true, .str (Txt.mul "a" r)] := SqL.of upd_same
      have cs : t = 2 ∨ t = 3 ∨ t = 4 := by omega
      rcases cs with rfl | rfl | rfl
      · exact ⟨l, _, _, _, rfl, rfl, at1, atI_nat (j := 0) rfl, q _ _ _ k4 tg_non .non⟩
      · exact ⟨l, _, _, _, rfl, rfl, at1, atI_nat (j := 1) rfl, q _ _ _ k4 tg_true (.bl true)⟩
      · exact ⟨l, _, _, _, rfl, rfl, at1, atI_nat (j := 2) rfl, q _ _ _ k4 (tg_str m2 m3) (.str _)⟩
    have h5 : ¬ t < 5 := fun z => h5 (decide_eq_true z)
    obtain ⟨m, rfl⟩ : ∃ m, n = m + 1 := ⟨n - 1, by
      cases n with
      | zero => exact absurd (t5 rfl) h5
      | succ m => rfl⟩
    obtain rfl := hs m rfl
    refine ⟨_, rfl, p, _, rfl, k1.2, by decide, by decide, fun H2 r k2 r0 r1 => ?_⟩
    have k3 := k1.trans k2
    refine ⟨r, rfl, by omega, by omega, fun D nD => ?_⟩
    have nDp := bag_ne k3.2 nD
    let T' : Addr → Prop := fun b => T b ∨ b = D
    have nTD : ¬ T D := (hD.kp k3).new nD
    have dom' : ∀ {H4 : Hp} {xs : List V}, Kp p H H4 → H4 D = some (.lst xs) → Dom T' H4 := fun {H4 xs} k h b t z => by
      rcases t with t | rfl
      · exact hD.kp k b t z
      · rw [h] at z
        cases z
    have kset : ∀ {H4 : Hp} {o : HO}, Kp p H H4 → Kp p H (upd H4 D o) := fun {H4 o} k => ⟨fun b u n e => by
        rw [upd_ne (fun z => by
          rw [z, k3.none nDp nD] at e
          cases e)]
        exact k.1 b u n e, by
        obtain ⟨x, y, hp, r⟩ := k.2
        exact ⟨x, y, by rw [upd_ne (Ne.symm nDp)]; exact hp, r⟩⟩
    refine lc_it walk_range (fun i H4 => Kp p H H4 ∧ ∃ (vs : List V) (ds : List PyData), H4 D = some (.lst vs) ∧ vs.length = i ∧ DqAll K T' H4 vs ds ∧ ∀ d ∈ ds, Tg m d) ⟨kset k3, [], [], upd_same, rfl, .nil, fun d hd => nomatch hd⟩ (fun _ _ _ _ => True.intro) ?_ ?_
    · rintro i x H4 H4' hi ⟨k4, vs, ds, e4, l4, d4, t4⟩ ⟨rfl, rfl⟩
      refine ⟨rfl, ?_⟩
      unfold tYes
      refine iteT ⟨_, rfl, _, rfl, _, _, rfl, rfl, ?_⟩
      refine ⟨p, dep + 1, T', rfl, k4.2, .inl hT, dom' k4 e4, by omega, by omega, fun H5 v d k5 t5 d5 => ⟨vs, k5.1 _ _ nDp e4, small1000 (by omega), kset (k4.trans k5), vs ++ [v], ds ++ [d], upd_same, by rw [List.length_append, l4]; rfl, ?_, ?_⟩⟩
      · have s5 : StT T' H5 (upd H5 D (.lst (vs ++ [v]))) := StT.set (.inr rfl)
        exact dpAll_app ((d4.stT (StT.kp k5 (.inl hT))).stT s5) (.cons (d5.stT s5) .nil)
      · intro d' hd'
        rcases List.mem_append.mp hd' with z | z
        · exact t4 d' z
        · rw [List.mem_singleton.mp z]
          exact t5
    rintro H4 ⟨k4, vs, ds, e4, l4, d4, t4⟩
    have hlen : ds.length ≤ 3 := by
      rw [← dpAll_len d4, l4]
      omega
    have d4' : DqAll K T H4 vs ds := dpAll_same (hid_less fun b t => .inl t) d4
    refine ⟨_, rfl, _, _, rfl, rfl, _, rfl, ite2 (fun _ => ?_) (fun _ => ?_)⟩
    · exact ⟨_, rfl, q H4 _ (.list ds) k4 (tg_lst t4 hlen) (.lst (SqL.of (hid_at nTD e4)) d4')⟩
    · refine ⟨_, rfl, D, vs, rfl, .inl ⟨SqL.of e4, fun u nu => ?_⟩⟩
      have su := same_upd (o := .tup vs) nu
      exact q _ _ (.tuple ds) (k4.same su) (tg_tup t4 hlen) (.tup (SqT.of (hid_at ((hD.kp k4).new nu) upd_same)) (d4'.stT (StT.same su)))
/-- any drawn object -/
theorem ok_thing {f fT : Addr} {fd fdT : FuncData} (F : Fun K "_law_thing" "_law_thing" sThing f fd) (B : BltT mg) (mF : mg "_law_thing" = some (.ref f))
    (bF : Binds K fd ["_law_bag_here", "_law_depth"] []) (GT : FnOk P w K mg base CX0 1 fT fdT ["_law_bag_here", "_law_many"] spTake) (mT : mg "_law_take" = some (.ref fT)) (kT : PySem.W.keepIn K (.ref fT) = true) (bT : Binds K fdT ["_law_bag_here", "_law_many"] []) :
    ∀ n, FnOk P w K mg base CX0 (n + 2) f fd ["_law_bag_here", "_law_depth"] (spTh K n)
  | 0 => th_step F B mF bF GT mT kT bT (sp' := fun _ _ _ _ => False) (k := 0) ⟨fun _ _ _ _ z => z.elim, fun _ _ _ _ _ _ _ _ _ _ _ _ _ z => z.elim⟩ fun m z => nomatch z
  | n + 1 => th_step F B mF bF GT mT kT bT (k := n + 1) (ok_thing F B mF bF GT mT kT bT n) fun m z => by
    obtain rfl := Nat.succ.inj z
    rfl
end
end Dr
namespace Dr
open PySem PySem.Spec PyProof.Rows L2
/-- a row: an error of the class at C, the object -/
def Rw (H : Hp) (one : V) (C : Addr) (v : V) : Prop := ∃ (t a : Addr) (fs : List (Str × V)), v = .ref t ∧ H t = some (.tup [.ref a, one]) ∧ Ex.ExAt H a C fs
theorem Rw.same {H H' : Hp} {one v : V} {C : Addr} (r : Rw H one C v) (s : Same H H') : Rw H' one C v := by
  obtain ⟨t, a, fs, e, h, x⟩ := r
  exact ⟨t, a, fs, e, s _ _ h, x.same s⟩
inductive Rws (H : Hp) (one : V) : List Addr → List V → Prop
  | nil : Rws H one [] []
  | cons {C : Addr} {v : V} {Cs : List Addr} {vs : List V} : Rw H one C v → Rws H one Cs vs → Rws H one (C :: Cs) (v :: vs)
theorem Rws.same {H H' : Hp} {one : V} (s : Same H H') : ∀ {Cs : List Addr} {vs : List V}, Rws H one Cs vs → Rws H' one Cs vs
  | _, _, .nil => .nil
  | _, _, .cons r h => .cons (r.same s) (Rws.same s h)
theorem Rws.app {H : Hp} {one : V} : ∀ {Cs Ds : List Addr} {vs us : List V}, Rws H one Cs vs → Rws H one Ds us → Rws H one (Cs ++ Ds) (vs ++ us)
  | _, _, _, _, .nil, k => k
  | _, _, _, _, .cons r h, k => .cons r (Rws.app h k)
theorem Rws.len {H : Hp} {one : V} : ∀ {Cs : List Addr} {vs : List V}, Rws H one Cs vs → vs.length = Cs.length
  | _, _, .nil => rfl
  | _, _, .cons _ h => by rw [List.length_cons, List.length_cons, Rws.len h]
theorem row_at {H : Hp} {one : V} {C a t : Addr} {fs : List (Str × V)} (x : Ex.ExAt H a C fs) (nt : H t = none) : Rw (upd H t (.tup [.ref a, one])) one C (.ref t) := ⟨t, a, fs, rfl, upd_same, x.same (same_upd nt)⟩
theorem at_new {H : Hp} {p : Addr} {o : HO} (_ : H p = none) : upd H p o p = some o := upd_same
theorem one_le : [V.non].length ≤ 1000 := by decide
theorem two_ok : 2 ≤ sizeLine := by decide
theorem few_ok {n : Nat} (h : n ≤ 100) : n ≤ sizeLine := Nat.le_trans h (by decide)
abbrev sFirst : Stmt := topS 36
abbrev sSecond : Stmt := topS 37
theorem scFirst : FnScope ["_law_one", "_law_a", "_law_b", "_law_c", "_law_d", "_law_e", "_law_listed", "_law_f", "_law_g", "_law_h", "_law_i", "_law_j", "_law_k", "_law_m", "_law_n", "_law_o", "_law_p", "_law_q", "_law_r"] ["_law_one"] (defScope sFirst) := ⟨rfl, rfl, rfl, by decide +kernel, rfl, by decide +kernel, by decide +kernel⟩
theorem scSecond : FnScope ["_law_one", "_law_a", "_law_b", "_law_c", "_law_d", "_law_e", "_law_listed", "_law_f", "_law_g", "_law_h", "_law_i", "_law_j"] ["_law_one"] (defScope sSecond) := ⟨rfl, rfl, rfl, by decide +kernel, rfl, by decide +kernel, by decide +kernel⟩
section
variable {P : Program} {w : World} {K : PySem.W.Frag} {mg : Str → Option Value} {base : Heap}
/-- the classes stand where C says -/
structure Es (P : Program) (w : World) (K : PySem.W.Frag) (mg : Str → Option Value) (base : Heap) (C : Nat → Addr) : Prop where
  e0 : Mk1 P w K mg base "BadName" "name" (C 0)
  e1 : Mk1 P w K mg base "BadParam" "part" (C 1)
  e2 : Mk1 P w K mg base "BadRow" "at" (C 2)
  e3 : Mk1 P w K mg base "BadValue" "at" (C 3)
  e4 : Mk1 P w K mg base "BadMarks" "marks" (C 4)
  e5 : Mk1 P w K mg base "BadOrder" "name" (C 5)
  e6 : Mk1 P w K mg base "Twice" "name" (C 6)
  e7 : Mk1 P w K mg base "Clash" "name" (C 7)
  e8 : Mk1 P w K mg base "NoBase" "base" (C 8)
  e9 : Mk1 P w K mg base "NoMark" "mark" (C 9)
  e10 : Mk1 P w K mg base "NoDefault" "place" (C 10)
  e11 : Mk1 P w K mg base "BadText" "at" (C 11)
  e12 : Mk1 P w K mg base "BadHistory" "at" (C 12)
  e13 : Mk1 P w K mg base "BadCallers" "part" (C 13)
  e14 : Mk1 P w K mg base "BadWorld" "given" (C 14)
  e15 : Mk1 P w K mg base "NoWorld" "index" (C 15)
  e16 : Mk1 P w K mg base "TooMany" "what" (C 16)
  e19 : Mk1 P w K mg base "BadStep" "given" (C 19)
  e20 : Mk1 P w K mg base "NoKind" "kind" (C 20)
  e21 : Mk1 P w K mg base "NoMethod" "name" (C 21)
  e22 : Mk1 P w K mg base "TooManyArguments" "count" (C 22)
  e23 : Mk1 P w K mg base "NoOption" "name" (C 23)
  e24 : Mk1 P w K mg base "GivenTwice" "name" (C 24)
  e25 : Mk1 P w K mg base "Missing" "name" (C 25)
  e26 : Mk1 P w K mg base "BadArgument" "name" (C 26)
  e27 : Mk1 P w K mg base "NoBox" "k" (C 27)
  e28 : Mk1 P w K mg base "BadMark" "mark" (C 28)
def spRows (K : PySem.W.Frag) (Cs : List Addr) : Sp := fun vs H Q _ => ∃ one : V, vs = [one] ∧ ∀ H' p ts, Same H H' → H p = none → H' p = some (.lst ts) → Rws H' one Cs ts → Q (.ref p) H'
theorem ok_first {f : Addr} {fd : FuncData} {C : Nat → Addr} (F : Fun K "_law_first" "_law_first" sFirst f fd) (T : Es P w K mg base C) : FnOk P w K mg base CX0 3 f fd ["_law_one"] (spRows K [C 0, C 1, C 2, C 3, C 4, C 5, C 6, C 7, C 8, C 9, C 10, C 11, C 12, C 13, C 14, C 15, C 16]) := by
  refine F.ok scFirst (fun vs H Q E h => ?_) (fun cdv A outer s H0 vs Q E hr h => ?_)
  · obtain ⟨one, rfl, _⟩ := h
    rfl
  · obtain ⟨one, rfl, q⟩ := h
    refine ⟨_, pss_cons (ps_par3 (i := 1) (j := 2) (l := 3) (by rfl) scFirst.nd rfl rfl rfl (by decide) (by decide) (by decide) rfl rfl rfl (pa_cons (pe_e1 T.e0 hr pass0 (by rfl) (pv 0)) (pa_cons (pe_e1 T.e1 hr pass0 (by rfl) (pv 0)) (pa_cons (pe_e1 T.e2 hr pass0 (by rfl) (pv 0)) pa_nil))) (by rfl))
      (pss_cons (ps_par (i := 4) (j := 5) (by rfl) scFirst.nd rfl rfl (by decide) rfl rfl (pa_cons (pe_e1 T.e3 hr pass0 (by rfl) (pv 0)) (pa_cons (pe_e1 T.e4 hr pass0 (by rfl) (pv 0)) pa_nil)) (by rfl))
      (C8.pss_cut (ps_set (i := 6) scFirst.nd rfl (.inl rfl) (pe_lst (pa_cons (pe_tup (pa_cons (pv 1) (pa_cons (Ex.pe_fv (pv 1)) pa_nil))) (pa_cons (pe_tup (pa_cons (pv 2) (pa_cons (Ex.pe_fv (pv 2)) pa_nil))) (pa_cons (pe_tup (pa_cons (pv 3) (pa_cons (Ex.pe_fv (pv 3)) pa_nil))) (pa_cons (pe_tup (pa_cons (pv 4) (pa_cons (Ex.pe_fv (pv 4)) pa_nil))) (pa_cons (pe_tup (pa_cons (pv 5) (pa_cons (Ex.pe_fv (pv 5)) pa_nil))) pa_nil)))))))
      (pss_cons (ps_par3 (i := 7) (j := 8) (l := 9) (by rfl) scFirst.nd rfl rfl rfl (by decide) (by decide) (by decide) rfl rfl rfl (pa_cons (pe_e1 T.e5 hr pass0 (by rfl) (pv 0)) (pa_cons (pe_e1 T.e6 hr pass0 (by rfl) (pv 0)) (pa_cons (pe_e1 T.e7 hr pass0 (by rfl) (pv 0)) pa_nil))) (by rfl))
      (pss_cons (ps_par (i := 10) (j := 11) (by rfl) scFirst.nd rfl rfl (by decide) rfl rfl (pa_cons (pe_e1 T.e8 hr pass0 (by rfl) (pv 0)) (pa_cons (pe_e1 T.e9 hr pass0 (by rfl) (pv 0)) pa_nil)) (by rfl))
      (C8.pss_cut (ps_set (i := 6) scFirst.nd rfl (.inl rfl) (pe_op op_cat (pv 6) (pe_lst (pa_cons (pe_tup (pa_cons (pv 7) (pa_cons (Ex.pe_fv (pv 7)) pa_nil))) (pa_cons (pe_tup (pa_cons (pv 8) (pa_cons (Ex.pe_fv (pv 8)) pa_nil))) (pa_cons (pe_tup (pa_cons (pv 9) (pa_cons (Ex.pe_fv (pv 9)) pa_nil))) (pa_cons (pe_tup (pa_cons (pv 10) (pa_cons (Ex.pe_fv (pv 10)) pa_nil))) (pa_cons (pe_tup (pa_cons (pv 11) (pa_cons (Ex.pe_fv (pv 11)) pa_nil))) pa_nil))))))))
      (pss_cons (ps_par (i := 12) (j := 13) (by rfl) scFirst.nd rfl rfl (by decide) rfl rfl (pa_cons (pe_e1 T.e10 hr pass0 (by rfl) (pv 0)) (pa_cons (pe_e1 T.e11 hr pass0 (by rfl) (pv 0)) pa_nil)) (by rfl))
      (pss_cons (ps_par (i := 14) (j := 15) (by rfl) scFirst.nd rfl rfl (by decide) rfl rfl (pa_cons (pe_e1 T.e12 hr pass0 (by rfl) (pv 0)) (pa_cons (pe_e1 T.e13 hr pass0 (by rfl) (pv 0)) pa_nil)) (by rfl))
      (C8.pss_cut (ps_set (i := 6) scFirst.nd rfl (.inl rfl) (pe_op op_cat (pv 6) (pe_lst (pa_cons (pe_tup (pa_cons (pv 12) (pa_cons (Ex.pe_fv (pv 12)) pa_nil))) (pa_cons (pe_tup (pa_cons (pv 13) (pa_cons (Ex.pe_fv (pv 13)) pa_nil))) (pa_cons (pe_tup (pa_cons (pv 14) (pa_cons (Ex.pe_fv (pv 14)) pa_nil))) (pa_cons (pe_tup (pa_cons (pv 15) (pa_cons (Ex.pe_fv (pv 15)) pa_nil))) pa_nil)))))))
      (pss_cons (ps_par3 (i := 16) (j := 17) (l := 18) (by rfl) scFirst.nd rfl rfl rfl (by decide) (by decide) (by decide) rfl rfl rfl (pa_cons (pe_e1 T.e14 hr pass0 (by rfl) (pv 0)) (pa_cons (pe_e1 T.e15 hr pass0 (by rfl) (pv 0)) (pa_cons (pe_e1 T.e16 hr pass0 (by rfl) (pv 0)) pa_nil))) (by rfl))
      (pss_one (ps_ret (pe_op op_cat (pv 6) (pe_lst (pa_cons (pe_tup (pa_cons (pv 16) (pa_cons (Ex.pe_fv (pv 16)) pa_nil))) (pa_cons (pe_tup (pa_cons (pv 17) (pa_cons (Ex.pe_fv (pv 17)) pa_nil))) (pa_cons (pe_tup (pa_cons (pv 18) (pa_cons (Ex.pe_fv (pv 18)) pa_nil))) pa_nil)))))))))))))))), ?_⟩
    refine ⟨_, rfl, one_le, fun a0 n0 => e1_end n0 fun H1 s1 x0 => ?_⟩
    refine ⟨_, rfl, one_le, fun a1 n1 => e1_end n1 fun H2 s2 x1 => ?_⟩
    refine ⟨_, rfl, one_le, fun a2 n2 => e1_end n2 fun H3 s3 x2 => ?_⟩
    refine ⟨_, _, _, rfl, ?_⟩
    refine ⟨_, rfl, one_le, fun a3 n3 => e1_end n3 fun H4 s4 x3 => ?_⟩
    refine ⟨_, rfl, one_le, fun a4 n4 => e1_end n4 fun H5 s5 x4 => ?_⟩
    refine ⟨_, _, rfl, ?_⟩
    refine ⟨fun σ' H' => ∃ (l : Addr) (ts : List V) (y1 y2 y3 y4 y5 : Option V), σ' = [some one, y1, y2, y3, y4, y5, some (.ref l), none, none, none, none, none, none, none, none, none, none, none, none] ∧ Same H0 H' ∧ H' l = some (.lst ts) ∧ Rws H' one [C 0, C 1, C 2, C 3, C 4] ts, ?_, fun σ' H55 hM => ?_⟩
    · refine ⟨_, rfl, _, rfl, a0, C 0, _, _, rfl, x0.same (s2.trans (s3.trans (s4.trans s5))), T.e0.xf, T.e0.no, rfl, two_ok, fun t0 m0 => ?_⟩
      have r0 := row_at (one := one) (x0.same (s2.trans (s3.trans (s4.trans s5)))) m0
      have s6 := same_upd (o := .tup [V.ref a0, one]) m0
      refine ⟨_, rfl, _, rfl, a1, C 1, _, _, rfl, x1.same (s3.trans (s4.trans (s5.trans s6))), T.e1.xf, T.e1.no, rfl, two_ok, fun t1 m1 => ?_⟩
      have r1 := row_at (one := one) (x1.same (s3.trans (s4.trans (s5.trans s6)))) m1
      have s7 := same_upd (o := .tup [V.ref a1, one]) m1
      refine ⟨_, rfl, _, rfl, a2, C 2, _, _, rfl, x2.same (s4.trans (s5.trans (s6.trans s7))), T.e2.xf, T.e2.no, rfl, two_ok, fun t2 m2 => ?_⟩
      have r2 := row_at (one := one) (x2.same (s4.trans (s5.trans (s6.trans s7)))) m2
      have s8 := same_upd (o := .tup [V.ref a2, one]) m2
      refine ⟨_, rfl, _, rfl, a3, C 3, _, _, rfl, x3.same (s5.trans (s6.trans (s7.trans s8))), T.e3.xf, T.e3.no, rfl, two_ok, fun t3 m3 => ?_⟩
      have r3 := row_at (one := one) (x3.same (s5.trans (s6.trans (s7.trans s8)))) m3
      have s9 := same_upd (o := .tup [V.ref a3, one]) m3
      refine ⟨_, rfl, _, rfl, a4, C 4, _, _, rfl, x4.same (s6.trans (s7.trans (s8.trans s9))), T.e4.xf, T.e4.no, rfl, two_ok, fun t4 m4 => ?_⟩
      have r4 := row_at (one := one) (x4.same (s6.trans (s7.trans (s8.trans s9)))) m4
      have s10 := same_upd (o := .tup [V.ref a4, one]) m4
      refine ⟨few_ok (by show 5 ≤ 100; decide), fun l11 nl11 => ?_⟩
      have s11 := same_upd (o := .lst [V.ref t0, V.ref t1, V.ref t2, V.ref t3, V.ref t4]) nl11
      have at11 := at_new (o := .lst [V.ref t0, V.ref t1, V.ref t2, V.ref t3, V.ref t4]) nl11
      have R11 := (Rws.cons (r0.same (s7.trans (s8.trans (s9.trans (s10.trans s11))))) (Rws.cons (r1.same (s8.trans (s9.trans (s10.trans s11)))) (Rws.cons (r2.same (s9.trans (s10.trans s11))) (Rws.cons (r3.same (s10.trans s11)) (Rws.cons (r4.same s11) Rws.nil)))))
      exact ⟨l11, _, _, _, _, _, _, rfl, (s1.trans (s2.trans (s3.trans (s4.trans (s5.trans (s6.trans (s7.trans (s8.trans (s9.trans (s10.trans s11)))))))))), at11, R11⟩
    obtain ⟨lb, tb, y1, y2, y3, y4, y5, rfl, Sb, atb, Rb⟩ := hM
    refine ⟨_, rfl, one_le, fun a5 n5 => e1_end n5 fun H56 s56 x5 => ?_⟩
    refine ⟨_, rfl, one_le, fun a6 n6 => e1_end n6 fun H57 s57 x6 => ?_⟩
    refine ⟨_, rfl, one_le, fun a7 n7 => e1_end n7 fun H58 s58 x7 => ?_⟩
    refine ⟨_, _, _, rfl, ?_⟩
    refine ⟨_, rfl, one_le, fun a8 n8 => e1_end n8 fun H59 s59 x8 => ?_⟩
    refine ⟨_, rfl, one_le, fun a9 n9 => e1_end n9 fun H60 s60 x9 => ?_⟩
    refine ⟨_, _, rfl, ?_⟩
    refine ⟨fun σ' H' => ∃ (l : Addr) (ts : List V) (y1 y2 y3 y4 y5 y7 y8 y9 y10 y11 : Option V), σ' = [some one, y1, y2, y3, y4, y5, some (.ref l), y7, y8, y9, y10, y11, none, none, none, none, none, none, none] ∧ Same H0 H' ∧ H' l = some (.lst ts) ∧ Rws H' one [C 0, C 1, C 2, C 3, C 4, C 5, C 6, C 7, C 8, C 9] ts, ?_, fun σ' H110 hM => ?_⟩
    · refine ⟨_, rfl, ?_⟩
      refine ⟨_, rfl, _, rfl, a5, C 5, _, _, rfl, x5.same (s57.trans (s58.trans (s59.trans s60))), T.e5.xf, T.e5.no, rfl, two_ok, fun t5 m5 => ?_⟩
      have r5 := row_at (one := one) (x5.same (s57.trans (s58.trans (s59.trans s60)))) m5
      have s61 := same_upd (o := .tup [V.ref a5, one]) m5
      refine ⟨_, rfl, _, rfl, a6, C 6, _, _, rfl, x6.same (s58.trans (s59.trans (s60.trans s61))), T.e6.xf, T.e6.no, rfl, two_ok, fun t6 m6 => ?_⟩
      have r6 := row_at (one := one) (x6.same (s58.trans (s59.trans (s60.trans s61)))) m6
      have s62 := same_upd (o := .tup [V.ref a6, one]) m6
      refine ⟨_, rfl, _, rfl, a7, C 7, _, _, rfl, x7.same (s59.trans (s60.trans (s61.trans s62))), T.e7.xf, T.e7.no, rfl, two_ok, fun t7 m7 => ?_⟩
      have r7 := row_at (one := one) (x7.same (s59.trans (s60.trans (s61.trans s62)))) m7
      have s63 := same_upd (o := .tup [V.ref a7, one]) m7
      refine ⟨_, rfl, _, rfl, a8, C 8, _, _, rfl, x8.same (s60.trans (s61.trans (s62.trans s63))), T.e8.xf, T.e8.no, rfl, two_ok, fun t8 m8 => ?_⟩
      have r8 := row_at (one := one) (x8.same (s60.trans (s61.trans (s62.trans s63)))) m8
      have s64 := same_upd (o := .tup [V.ref a8, one]) m8
      refine ⟨_, rfl, _, rfl, a9, C 9, _, _, rfl, x9.same (s61.trans (s62.trans (s63.trans s64))), T.e9.xf, T.e9.no, rfl, two_ok, fun t9 m9 => ?_⟩
      have r9 := row_at (one := one) (x9.same (s61.trans (s62.trans (s63.trans s64)))) m9
      have s65 := same_upd (o := .tup [V.ref a9, one]) m9
      refine ⟨few_ok (by show 5 ≤ 100; decide), fun l66 nl66 => ?_⟩
      have s66 := same_upd (o := .lst [V.ref t5, V.ref t6, V.ref t7, V.ref t8, V.ref t9]) nl66
      have at66 := at_new (o := .lst [V.ref t5, V.ref t6, V.ref t7, V.ref t8, V.ref t9]) nl66
      have R66 := (Rws.cons (r5.same (s62.trans (s63.trans (s64.trans (s65.trans s66))))) (Rws.cons (r6.same (s63.trans (s64.trans (s65.trans s66)))) (Rws.cons (r7.same (s64.trans (s65.trans s66))) (Rws.cons (r8.same (s65.trans s66)) (Rws.cons (r9.same s66) Rws.nil)))))
      have bl := Rws.len Rb
      refine ⟨lb, l66, _, _, rfl, rfl, (s56.trans (s57.trans (s58.trans (s59.trans (s60.trans (s61.trans (s62.trans (s63.trans (s64.trans (s65.trans s66)))))))))) _ _ atb, at66, few_ok (by rw [bl]; show 5 + 5 ≤ 100; decide), fun l67 nl67 => ?_⟩
      have R66b := (Rb.same (s56.trans (s57.trans (s58.trans (s59.trans (s60.trans (s61.trans (s62.trans (s63.trans (s64.trans (s65.trans s66))))))))))).app R66
      have s67 := same_upd (o := .lst (tb ++ [V.ref t5, V.ref t6, V.ref t7, V.ref t8, V.ref t9])) nl67
      have at67 := at_new (o := .lst (tb ++ [V.ref t5, V.ref t6, V.ref t7, V.ref t8, V.ref t9])) nl67
      have R67 := R66b.same s67
      exact ⟨l67, _, _, _, _, _, _, _, _, _, _, _, rfl, (Sb.trans (s56.trans (s57.trans (s58.trans (s59.trans (s60.trans (s61.trans (s62.trans (s63.trans (s64.trans (s65.trans (s66.trans s67)))))))))))), at67, R67⟩
    obtain ⟨lb, tb, y1, y2, y3, y4, y5, y7, y8, y9, y10, y11, rfl, Sb, atb, Rb⟩ := hM
    refine ⟨_, rfl, one_le, fun a10 n10 => e1_end n10 fun H111 s111 x10 => ?_⟩
    refine ⟨_, rfl, one_le, fun a11 n11 => e1_end n11 fun H112 s112 x11 => ?_⟩
    refine ⟨_, _, rfl, ?_⟩
    refine ⟨_, rfl, one_le, fun a12 n12 => e1_end n12 fun H113 s113 x12 => ?_⟩
    refine ⟨_, rfl, one_le, fun a13 n13 => e1_end n13 fun H114 s114 x13 => ?_⟩
    refine ⟨_, _, rfl, ?_⟩
    refine ⟨fun σ' H' => ∃ (l : Addr) (ts : List V) (y1 y2 y3 y4 y5 y7 y8 y9 y10 y11 y12 y13 y14 y15 : Option V), σ' = [some one, y1, y2, y3, y4, y5, some (.ref l), y7, y8, y9, y10, y11, y12, y13, y14, y15, none, none, none] ∧ Same H0 H' ∧ H' l = some (.lst ts) ∧ Rws H' one [C 0, C 1, C 2, C 3, C 4, C 5, C 6, C 7, C 8, C 9, C 10, C 11, C 12, C 13] ts, ?_, fun σ' H164 hM => ?_⟩
    · refine ⟨_, rfl, ?_⟩
      refine ⟨_, rfl, _, rfl, a10, C 10, _, _, rfl, x10.same (s112.trans (s113.trans s114)), T.e10.xf, T.e10.no, rfl, two_ok, fun t10 m10 => ?_⟩
      have r10 := row_at (one := one) (x10.same (s112.trans (s113.trans s114))) m10
      have s115 := same_upd (o := .tup [V.ref a10, one]) m10
      refine ⟨_, rfl, _, rfl, a11, C 11, _, _, rfl, x11.same (s113.trans (s114.trans s115)), T.e11.xf, T.e11.no, rfl, two_ok, fun t11 m11 => ?_⟩
      have r11 := row_at (one := one) (x11.same (s113.trans (s114.trans s115))) m11
      have s116 := same_upd (o := .tup [V.ref a11, one]) m11
      refine ⟨_, rfl, _, rfl, a12, C 12, _, _, rfl, x12.same (s114.trans (s115.trans s116)), T.e12.xf, T.e12.no, rfl, two_ok, fun t12 m12 => ?_⟩
      have r12 := row_at (one := one) (x12.same (s114.trans (s115.trans s116))) m12
      have s117 := same_upd (o := .tup [V.ref a12, one]) m12
      refine ⟨_, rfl, _, rfl, a13, C 13, _, _, rfl, x13.same (s115.trans (s116.trans s117)), T.e13.xf, T.e13.no, rfl, two_ok, fun t13 m13 => ?_⟩
      have r13 := row_at (one := one) (x13.same (s115.trans (s116.trans s117))) m13
      have s118 := same_upd (o := .tup [V.ref a13, one]) m13
      refine ⟨few_ok (by show 4 ≤ 100; decide), fun l119 nl119 => ?_⟩
      have s119 := same_upd (o := .lst [V.ref t10, V.ref t11, V.ref t12, V.ref t13]) nl119
      have at119 := at_new (o := .lst [V.ref t10, V.ref t11, V.ref t12, V.ref t13]) nl119
      have R119 := (Rws.cons (r10.same (s116.trans (s117.trans (s118.trans s119)))) (Rws.cons (r11.same (s117.trans (s118.trans s119))) (Rws.cons (r12.same (s118.trans s119)) (Rws.cons (r13.same s119) Rws.nil))))
      have bl := Rws.len Rb
      refine ⟨lb, l119, _, _, rfl, rfl, (s111.trans (s112.trans (s113.trans (s114.trans (s115.trans (s116.trans (s117.trans (s118.trans s119)))))))) _ _ atb, at119, few_ok (by rw [bl]; show 10 + 4 ≤ 100; decide), fun l120 nl120 => ?_⟩
      have R119b := (Rb.same (s111.trans (s112.trans (s113.trans (s114.trans (s115.trans (s116.trans (s117.trans (s118.trans s119))))))))).app R119
      have s120 := same_upd (o := .lst (tb ++ [V.ref t10, V.ref t11, V.ref t12, V.ref t13])) nl120
      have at120 := at_new (o := .lst (tb ++ [V.ref t10, V.ref t11, V.ref t12, V.ref t13])) nl120
      have R120 := R119b.same s120
      exact ⟨l120, _, _, _, _, _, _, _, _, _, _, _, _, _, _, _, rfl, (Sb.trans (s111.trans (s112.trans (s113.trans (s114.trans (s115.trans (s116.trans (s117.trans (s118.trans (s119.trans s120)))))))))), at120, R120⟩
    obtain ⟨lb, tb, y1, y2, y3, y4, y5, y7, y8, y9, y10, y11, y12, y13, y14, y15, rfl, Sb, atb, Rb⟩ := hM
    refine ⟨_, rfl, one_le, fun a14 n14 => e1_end n14 fun H165 s165 x14 => ?_⟩
    refine ⟨_, rfl, one_le, fun a15 n15 => e1_end n15 fun H166 s166 x15 => ?_⟩
    refine ⟨_, rfl, one_le, fun a16 n16 => e1_end n16 fun H167 s167 x16 => ?_⟩
    refine ⟨_, _, _, rfl, ?_⟩
    refine ⟨_, rfl, ?_⟩
    refine ⟨_, rfl, _, rfl, a14, C 14, _, _, rfl, x14.same (s166.trans s167), T.e14.xf, T.e14.no, rfl, two_ok, fun t14 m14 => ?_⟩
    have r14 := row_at (one := one) (x14.same (s166.trans s167)) m14
    have s168 := same_upd (o := .tup [V.ref a14, one]) m14
    refine ⟨_, rfl, _, rfl, a15, C 15, _, _, rfl, x15.same (s167.trans s168), T.e15.xf, T.e15.no, rfl, two_ok, fun t15 m15 => ?_⟩
    have r15 := row_at (one := one) (x15.same (s167.trans s168)) m15
    have s169 := same_upd (o := .tup [V.ref a15, one]) m15
    refine ⟨_, rfl, _, rfl, a16, C 16, _, _, rfl, x16.same (s168.trans s169), T.e16.xf, T.e16.no, rfl, two_ok, fun t16 m16 => ?_⟩
    have r16 := row_at (one := one) (x16.same (s168.trans s169)) m16
    have s170 := same_upd (o := .tup [V.ref a16, one]) m16
    refine ⟨few_ok (by show 3 ≤ 100; decide), fun l171 nl171 => ?_⟩
    have s171 := same_upd (o := .lst [V.ref t14, V.ref t15, V.ref t16]) nl171
    have at171 := at_new (o := .lst [V.ref t14, V.ref t15, V.ref t16]) nl171
    have R171 := (Rws.cons (r14.same (s169.trans (s170.trans s171))) (Rws.cons (r15.same (s170.trans s171)) (Rws.cons (r16.same s171) Rws.nil)))
    have bl := Rws.len Rb
    refine ⟨lb, l171, _, _, rfl, rfl, (s165.trans (s166.trans (s167.trans (s168.trans (s169.trans (s170.trans s171)))))) _ _ atb, at171, few_ok (by rw [bl]; show 14 + 3 ≤ 100; decide), fun l172 nl172 => ?_⟩
    have R171b := (Rb.same (s165.trans (s166.trans (s167.trans (s168.trans (s169.trans (s170.trans s171))))))).app R171
    have s172 := same_upd (o := .lst (tb ++ [V.ref t14, V.ref t15, V.ref t16])) nl172
    have at172 := at_new (o := .lst (tb ++ [V.ref t14, V.ref t15, V.ref t16])) nl172
    have R172 := R171b.same s172
    exact q _ l172 _ (Sb.trans (s165.trans (s166.trans (s167.trans (s168.trans (s169.trans (s170.trans (s171.trans s172)))))))) ((Sb.trans (s165.trans (s166.trans (s167.trans (s168.trans (s169.trans (s170.trans s171))))))).free nl172) at172 R172
theorem ok_second {f : Addr} {fd : FuncData} {C : Nat → Addr} (F : Fun K "_law_second" "_law_second" sSecond f fd) (T : Es P w K mg base C) : FnOk P w K mg base CX0 3 f fd ["_law_one"] (spRows K [C 19, C 20, C 21, C 22, C 23, C 24, C 25, C 26, C 27, C 28]) := by
  refine F.ok scSecond (fun vs H Q E h => ?_) (fun cdv A outer s H0 vs Q E hr h => ?_)
  · obtain ⟨one, rfl, _⟩ := h
    rfl
  · obtain ⟨one, rfl, q⟩ := h
    refine ⟨_, pss_cons (ps_par3 (i := 1) (j := 2) (l := 3) (by rfl) scSecond.nd rfl rfl rfl (by decide) (by decide) (by decide) rfl rfl rfl (pa_cons (pe_e1 T.e19 hr pass0 (by rfl) (pv 0)) (pa_cons (pe_e1 T.e20 hr pass0 (by rfl) (pv 0)) (pa_cons (pe_e1 T.e21 hr pass0 (by rfl) (pv 0)) pa_nil))) (by rfl))
      (pss_cons (ps_par (i := 4) (j := 5) (by rfl) scSecond.nd rfl rfl (by decide) rfl rfl (pa_cons (pe_e1 T.e22 hr pass0 (by rfl) (pv 0)) (pa_cons (pe_e1 T.e23 hr pass0 (by rfl) (pv 0)) pa_nil)) (by rfl))
      (C8.pss_cut (ps_set (i := 6) scSecond.nd rfl (.inl rfl) (pe_lst (pa_cons (pe_tup (pa_cons (pv 1) (pa_cons (Ex.pe_fv (pv 1)) pa_nil))) (pa_cons (pe_tup (pa_cons (pv 2) (pa_cons (Ex.pe_fv (pv 2)) pa_nil))) (pa_cons (pe_tup (pa_cons (pv 3) (pa_cons (Ex.pe_fv (pv 3)) pa_nil))) (pa_cons (pe_tup (pa_cons (pv 4) (pa_cons (Ex.pe_fv (pv 4)) pa_nil))) (pa_cons (pe_tup (pa_cons (pv 5) (pa_cons (Ex.pe_fv (pv 5)) pa_nil))) pa_nil)))))))
      (pss_cons (ps_par3 (i := 7) (j := 8) (l := 9) (by rfl) scSecond.nd rfl rfl rfl (by decide) (by decide) (by decide) rfl rfl rfl (pa_cons (pe_e1 T.e24 hr pass0 (by rfl) (pv 0)) (pa_cons (pe_e1 T.e25 hr pass0 (by rfl) (pv 0)) (pa_cons (pe_e1 T.e26 hr pass0 (by rfl) (pv 0)) pa_nil))) (by rfl))
      (pss_cons (ps_par (i := 10) (j := 11) (by rfl) scSecond.nd rfl rfl (by decide) rfl rfl (pa_cons (pe_e1 T.e27 hr pass0 (by rfl) (pv 0)) (pa_cons (pe_e1 T.e28 hr pass0 (by rfl) (pv 0)) pa_nil)) (by rfl))
      (pss_one (ps_ret (pe_op op_cat (pv 6) (pe_lst (pa_cons (pe_tup (pa_cons (pv 7) (pa_cons (Ex.pe_fv (pv 7)) pa_nil))) (pa_cons (pe_tup (pa_cons (pv 8) (pa_cons (Ex.pe_fv (pv 8)) pa_nil))) (pa_cons (pe_tup (pa_cons (pv 9) (pa_cons (Ex.pe_fv (pv 9)) pa_nil))) (pa_cons (pe_tup (pa_cons (pv 10) (pa_cons (Ex.pe_fv (pv 10)) pa_nil))) (pa_cons (pe_tup (pa_cons (pv 11) (pa_cons (Ex.pe_fv (pv 11)) pa_nil))) pa_nil))))))))))))), ?_⟩
    refine ⟨_, rfl, one_le, fun a19 n19 => e1_end n19 fun H1 s1 x19 => ?_⟩
    refine ⟨_, rfl, one_le, fun a20 n20 => e1_end n20 fun H2 s2 x20 => ?_⟩
    refine ⟨_, rfl, one_le, fun a21 n21 => e1_end n21 fun H3 s3 x21 => ?_⟩
    refine ⟨_, _, _, rfl, ?_⟩
    refine ⟨_, rfl, one_le, fun a22 n22 => e1_end n22 fun H4 s4 x22 => ?_⟩
    refine ⟨_, rfl, one_le, fun a23 n23 => e1_end n23 fun H5 s5 x23 => ?_⟩
    refine ⟨_, _, rfl, ?_⟩
    refine ⟨fun σ' H' => ∃ (l : Addr) (ts : List V) (y1 y2 y3 y4 y5 : Option V), σ' = [some one, y1, y2, y3, y4, y5, some (.ref l), none, none, none, none, none] ∧ Same H0 H' ∧ H' l = some (.lst ts) ∧ Rws H' one [C 19, C 20, C 21, C 22, C 23] ts, ?_, fun σ' H55 hM => ?_⟩
    · refine ⟨_, rfl, _, rfl, a19, C 19, _, _, rfl, x19.same (s2.trans (s3.trans (s4.trans s5))), T.e19.xf, T.e19.no, rfl, two_ok, fun t19 m19 => ?_⟩
      have r19 := row_at (one := one) (x19.same (s2.trans (s3.trans (s4.trans s5)))) m19
      have s6 := same_upd (o := .tup [V.ref a19, one]) m19
      refine ⟨_, rfl, _, rfl, a20, C 20, _, _, rfl, x20.same (s3.trans (s4.trans (s5.trans s6))), T.e20.xf, T.e20.no, rfl, two_ok, fun t20 m20 => ?_⟩
      have r20 := row_at (one := one) (x20.same (s3.trans (s4.trans (s5.trans s6)))) m20
      have s7 := same_upd (o := .tup [V.ref a20, one]) m20
      refine ⟨_, rfl, _, rfl, a21, C 21, _, _, rfl, x21.same (s4.trans (s5.trans (s6.trans s7))), T.e21.xf, T.e21.no, rfl, two_ok, fun t21 m21 => ?_⟩
      have r21 := row_at (one := one) (x21.same (s4.trans (s5.trans (s6.trans s7)))) m21
      have s8 := same_upd (o := .tup [V.ref a21, one]) m21
      refine ⟨_, rfl, _, rfl, a22, C 22, _, _, rfl, x22.same (s5.trans (s6.trans (s7.trans s8))), T.e22.xf, T.e22.no, rfl, two_ok, fun t22 m22 => ?_⟩
      have r22 := row_at (one := one) (x22.same (s5.trans (s6.trans (s7.trans s8)))) m22
      have s9 := same_upd (o := .tup [V.ref a22, one]) m22
      refine ⟨_, rfl, _, rfl, a23, C 23, _, _, rfl, x23.same (s6.trans (s7.trans (s8.trans s9))), T.e23.xf, T.e23.no, rfl, two_ok, fun t23 m23 => ?_⟩
      have r23 := row_at (one := one) (x23.same (s6.trans (s7.trans (s8.trans s9)))) m23
      have s10 := same_upd (o := .tup [V.ref a23, one]) m23
      refine ⟨few_ok (by show 5 ≤ 100; decide), fun l11 nl11 => ?_⟩
      have s11 := same_upd (o := .lst [V.ref t19, V.ref t20, V.ref t21, V.ref t22, V.ref t23]) nl11
      have at11 := at_new (o := .lst [V.ref t19, V.ref t20, V.ref t21, V.ref t22, V.ref t23]) nl11
      have R11 := (Rws.cons (r19.same (s7.trans (s8.trans (s9.trans (s10.trans s11))))) (Rws.cons (r20.same (s8.trans (s9.trans (s10.trans s11)))) (Rws.cons (r21.same (s9.trans (s10.trans s11))) (Rws.cons (r22.same (s10.trans s11)) (Rws.cons (r23.same s11) Rws.nil)))))
      exact ⟨l11, _, _, _, _, _, _, rfl, (s1.trans (s2.trans (s3.trans (s4.trans (s5.trans (s6.trans (s7.trans (s8.trans (s9.trans (s10.trans s11)))))))))), at11, R11⟩
    obtain ⟨lb, tb, y1, y2, y3, y4, y5, rfl, Sb, atb, Rb⟩ := hM
    refine ⟨_, rfl, one_le, fun a24 n24 => e1_end n24 fun H56 s56 x24 => ?_⟩
    refine ⟨_, rfl, one_le, fun a25 n25 => e1_end n25 fun H57 s57 x25 => ?_⟩
    refine ⟨_, rfl, one_le, fun a26 n26 => e1_end n26 fun H58 s58 x26 => ?_⟩
    refine ⟨_, _, _, rfl, ?_⟩
    refine ⟨_, rfl, one_le, fun a27 n27 => e1_end n27 fun H59 s59 x27 => ?_⟩
    refine ⟨_, rfl, one_le, fun a28 n28 => e1_end n28 fun H60 s60 x28 => ?_⟩
    refine ⟨_, _, rfl, ?_⟩
    refine ⟨_, rfl, ?_⟩
    refine ⟨_, rfl, _, rfl, a24, C 24, _, _, rfl, x24.same (s57.trans (s58.trans (s59.trans s60))), T.e24.xf, T.e24.no, rfl, two_ok, fun t24 m24 => ?_⟩
    have r24 := row_at (one := one) (x24.same (s57.trans (s58.trans (s59.trans s60)))) m24
    have s61 := same_upd (o := .tup [V.ref a24, one]) m24
    refine ⟨_, rfl, _, rfl, a25, C 25, _, _, rfl, x25.same (s58.trans (s59.trans (s60.trans s61))), T.e25.xf, T.e25.no, rfl, two_ok, fun t25 m25 => ?_⟩
    have r25 := row_at (one := one) (x25.same (s58.trans (s59.trans (s60.trans s61)))) m25
    have s62 := same_upd (o := .tup [V.ref a25, one]) m25
    refine ⟨_, rfl, _, rfl, a26, C 26, _, _, rfl, x26.same (s59.trans (s60.trans (s61.trans s62))), T.e26.xf, T.e26.no, rfl, two_ok, fun t26 m26 => ?_⟩
    have r26 := row_at (one := one) (x26.same (s59.trans (s60.trans (s61.trans s62)))) m26
    have s63 := same_upd (o := .tup [V.ref a26, one]) m26
    refine ⟨_, rfl, _, rfl, a27, C 27, _, _, rfl, x27.same (s60.trans (s61.trans (s62.trans s63))), T.e27.xf, T.e27.no, rfl, two_ok, fun t27 m27 => ?_⟩
    have r27 := row_at (one := one) (x27.same (s60.trans (s61.trans (s62.trans s63)))) m27
    have s64 := same_upd (o := .tup [V.ref a27, one]) m27
    refine ⟨_, rfl, _, rfl, a28, C 28, _, _, rfl, x28.same (s61.trans (s62.trans (s63.trans s64))), T.e28.xf, T.e28.no, rfl, two_ok, fun t28 m28 => ?_⟩
    have r28 := row_at (one := one) (x28.same (s61.trans (s62.trans (s63.trans s64)))) m28
    have s65 := same_upd (o := .tup [V.ref a28, one]) m28
    refine ⟨few_ok (by show 5 ≤ 100; decide), fun l66 nl66 => ?_⟩
    have s66 := same_upd (o := .lst [V.ref t24, V.ref t25, V.ref t26, V.ref t27, V.ref t28]) nl66
    have at66 := at_new (o := .lst [V.ref t24, V.ref t25, V.ref t26, V.ref t27, V.ref t28]) nl66
    have R66 := (Rws.cons (r24.same (s62.trans (s63.trans (s64.trans (s65.trans s66))))) (Rws.cons (r25.same (s63.trans (s64.trans (s65.trans s66)))) (Rws.cons (r26.same (s64.trans (s65.trans s66))) (Rws.cons (r27.same (s65.trans s66)) (Rws.cons (r28.same s66) Rws.nil)))))
    have bl := Rws.len Rb
    refine ⟨lb, l66, _, _, rfl, rfl, (s56.trans (s57.trans (s58.trans (s59.trans (s60.trans (s61.trans (s62.trans (s63.trans (s64.trans (s65.trans s66)))))))))) _ _ atb, at66, few_ok (by rw [bl]; show 5 + 5 ≤ 100; decide), fun l67 nl67 => ?_⟩
    have R66b := (Rb.same (s56.trans (s57.trans (s58.trans (s59.trans (s60.trans (s61.trans (s62.trans (s63.trans (s64.trans (s65.trans s66))))))))))).app R66
    have s67 := same_upd (o := .lst (tb ++ [V.ref t24, V.ref t25, V.ref t26, V.ref t27, V.ref t28])) nl67
    have at67 := at_new (o := .lst (tb ++ [V.ref t24, V.ref t25, V.ref t26, V.ref t27, V.ref t28])) nl67
    have R67 := R66b.same s67
    exact q _ l67 _ (Sb.trans (s56.trans (s57.trans (s58.trans (s59.trans (s60.trans (s61.trans (s62.trans (s63.trans (s64.trans (s65.trans (s66.trans s67)))))))))))) ((Sb.trans (s56.trans (s57.trans (s58.trans (s59.trans (s60.trans (s61.trans (s62.trans (s63.trans (s64.trans (s65.trans s66))))))))))).free nl67) at67 R67
end
end Dr
namespace Dr
open PySem PySem.Spec PyProof.Rows L2
abbrev sClasses : Stmt := topS 38
abbrev nClasses : List Str := ["_law_e", "_law_found", "_law_k", "_law_is_one"]
theorem scClasses : FnScope nClasses ["_law_e"] (defScope sClasses) := ⟨rfl, rfl, rfl, by decide +kernel, rfl, by decide +kernel, by decide +kernel⟩
/-- the 29 classes, by their places -/
structure Cls29 (K : PySem.W.Frag) (mg : Str → Option Value) (C : Nat → Addr) : Prop where
  x : ∀ i, i < 29 → ExcC K (C i)
  kit : ∀ i j, i < 29 → j < 29 → PySem.W.kitOne K (.ref (C i)) (.ref (C j)) = some (decide (i = j))
  g0 : mg "BadName" = some (.ref (C 0))
  g1 : mg "BadParam" = some (.ref (C 1))
  g2 : mg "BadRow" = some (.ref (C 2))
  g3 : mg "BadValue" = some (.ref (C 3))
  g4 : mg "BadMarks" = some (.ref (C 4))
  g5 : mg "BadOrder" = some (.ref (C 5))
  g6 : mg "Twice" = some (.ref (C 6))
  g7 : mg "Clash" = some (.ref (C 7))
  g8 : mg "NoBase" = some (.ref (C 8))
  g9 : mg "NoMark" = some (.ref (C 9))
  g10 : mg "NoDefault" = some (.ref (C 10))
  g11 : mg "BadText" = some (.ref (C 11))
  g12 : mg "BadHistory" = some (.ref (C 12))
  g13 : mg "BadCallers" = some (.ref (C 13))
  g14 : mg "BadWorld" = some (.ref (C 14))
  g15 : mg "NoWorld" = some (.ref (C 15))
  g16 : mg "TooMany" = some (.ref (C 16))
  g17 : mg "NoValue" = some (.ref (C 17))
  g18 : mg "UnlikeFaces" = some (.ref (C 18))
  g19 : mg "BadStep" = some (.ref (C 19))
  g20 : mg "NoKind" = some (.ref (C 20))
  g21 : mg "NoMethod" = some (.ref (C 21))
  g22 : mg "TooManyArguments" = some (.ref (C 22))
  g23 : mg "NoOption" = some (.ref (C 23))
  g24 : mg "GivenTwice" = some (.ref (C 24))
  g25 : mg "Missing" = some (.ref (C 25))
  g26 : mg "BadArgument" = some (.ref (C 26))
  g27 : mg "NoBox" = some (.ref (C 27))
  g28 : mg "BadMark" = some (.ref (C 28))
/-- the built-in names of that look -/
structure BltC (mg : Str → Option Value) : Prop where
  isi : mg "isinstance" = none
  enu : mg "enumerate" = none
def bls (i n : Nat) : List V := (List.range n).map fun j => .bl (decide (i = j))
theorem bls_len (i n : Nat) : (bls i n).length = n := by
  unfold bls
  rw [List.length_map, List.length_range]
theorem bls_at {i n j : Nat} {v : V} (h : (bls i n)[j]? = some v) : j < n ∧ v = .bl (decide (i = j)) := by
  have hj : j < n := by
    have := (List.getElem?_eq_some_iff.mp h).1
    rw [bls_len] at this
    exact this
  unfold bls at h
  rw [List.getElem?_map, List.getElem?_range hj] at h
  exact ⟨hj, (Option.some.inj h).symm⟩
section
variable {P : Program} {w : World} {K : PySem.W.Frag} {mg : Str → Option Value} {base : Heap}
def spCl (C : Nat → Addr) : Sp := fun vs H Q _ => ∃ (a : Addr) (i : Nat) (fs : List (Str × V)), vs = [.ref a] ∧ i < 29 ∧ Ex.ExAt H a (C i) fs ∧ ∀ H' p, Same H H' → H p = none → H' p = some (.lst [.int (i : Int)]) → Q (.ref p) H'
theorem ok_classes {f : Addr} {fd : FuncData} {C : Nat → Addr} (F : Fun K "_law_classes" "_law_classes" sClasses f fd) (B : BltC mg) (X : Cls29 K mg C) : FnOk P w K mg base CX0 3 f fd ["_law_e"] (spCl C) := by
  refine F.ok scClasses (fun vs H Q E h => ?_) (fun cdv A outer s H0 vs Q E hr h => ?_)
  · obtain ⟨a, i, fs, rfl, _⟩ := h
    rfl
  · obtain ⟨a, i, fs, rfl, hi, xa, q⟩ := h
    refine ⟨_, C8.pss_cut (ps_set (i := 1) scClasses.nd rfl (.inl rfl) (pe_lst (pa_cons (pe_callB Ex.call_isV (by rfl) B.isi (by decide +kernel) (pa_cons (pv 0) (pa_cons (pe_glob (v := .ref (C 0)) (by rfl) X.g0 rfl) pa_nil))) (pa_cons (pe_callB Ex.call_isV (by rfl) B.isi (by decide +kernel) (pa_cons (pv 0) (pa_cons (pe_glob (v := .ref (C 1)) (by rfl) X.g1 rfl) pa_nil))) (pa_cons (pe_callB Ex.call_isV (by rfl) B.isi (by decide +kernel) (pa_cons (pv 0) (pa_cons (pe_glob (v := .ref (C 2)) (by rfl) X.g2 rfl) pa_nil))) (pa_cons (pe_callB Ex.call_isV (by rfl) B.isi (by decide +kernel) (pa_cons (pv 0) (pa_cons (pe_glob (v := .ref (C 3)) (by rfl) X.g3 rfl) pa_nil))) pa_nil))))))
      (C8.pss_cut (ps_set (i := 1) scClasses.nd rfl (.inl rfl) (pe_op op_cat (pv 1) (pe_lst (pa_cons (pe_callB Ex.call_isV (by rfl) B.isi (by decide +kernel) (pa_cons (pv 0) (pa_cons (pe_glob (v := .ref (C 4)) (by rfl) X.g4 rfl) pa_nil))) (pa_cons (pe_callB Ex.call_isV (by rfl) B.isi (by decide +kernel) (pa_cons (pv 0) (pa_cons (pe_glob (v := .ref (C 5)) (by rfl) X.g5 rfl) pa_nil))) (pa_cons (pe_callB Ex.call_isV (by rfl) B.isi (by decide +kernel) (pa_cons (pv 0) (pa_cons (pe_glob (v := .ref (C 6)) (by rfl) X.g6 rfl) pa_nil))) (pa_cons (pe_callB Ex.call_isV (by rfl) B.isi (by decide +kernel) (pa_cons (pv 0) (pa_cons (pe_glob (v := .ref (C 7)) (by rfl) X.g7 rfl) pa_nil))) pa_nil)))))))
      (C8.pss_cut (ps_set (i := 1) scClasses.nd rfl (.inl rfl) (pe_op op_cat (pv 1) (pe_lst (pa_cons (pe_callB Ex.call_isV (by rfl) B.isi (by decide +kernel) (pa_cons (pv 0) (pa_cons (pe_glob (v := .ref (C 8)) (by rfl) X.g8 rfl) pa_nil))) (pa_cons (pe_callB Ex.call_isV (by rfl) B.isi (by decide +kernel) (pa_cons (pv 0) (pa_cons (pe_glob (v := .ref (C 9)) (by rfl) X.g9 rfl) pa_nil))) (pa_cons (pe_callB Ex.call_isV (by rfl) B.isi (by decide +kernel) (pa_cons (pv 0) (pa_cons (pe_glob (v := .ref (C 10)) (by rfl) X.g10 rfl) pa_nil))) (pa_cons (pe_callB Ex.call_isV (by rfl) B.isi (by decide +kernel) (pa_cons (pv 0) (pa_cons (pe_glob (v := .ref (C 11)) (by rfl) X.g11 rfl) pa_nil))) pa_nil)))))))
      (C8.pss_cut (ps_set (i := 1) scClasses.nd rfl (.inl rfl) (pe_op op_cat (pv 1) (pe_lst (pa_cons (pe_callB Ex.call_isV (by rfl) B.isi (by decide +kernel) (pa_cons (pv 0) (pa_cons (pe_glob (v := .ref (C 12)) (by rfl) X.g12 rfl) pa_nil))) (pa_cons (pe_callB Ex.call_isV (by rfl) B.isi (by decide +kernel) (pa_cons (pv 0) (pa_cons (pe_glob (v := .ref (C 13)) (by rfl) X.g13 rfl) pa_nil))) (pa_cons (pe_callB Ex.call_isV (by rfl) B.isi (by decide +kernel) (pa_cons (pv 0) (pa_cons (pe_glob (v := .ref (C 14)) (by rfl) X.g14 rfl) pa_nil))) (pa_cons (pe_callB Ex.call_isV (by rfl) B.isi (by decide +kernel) (pa_cons (pv 0) (pa_cons (pe_glob (v := .ref (C 15)) (by rfl) X.g15 rfl) pa_nil))) pa_nil)))))))
      (C8.pss_cut (ps_set (i := 1) scClasses.nd rfl (.inl rfl) (pe_op op_cat (pv 1) (pe_lst (pa_cons (pe_callB Ex.call_isV (by rfl) B.isi (by decide +kernel) (pa_cons (pv 0) (pa_cons (pe_glob (v := .ref (C 16)) (by rfl) X.g16 rfl) pa_nil))) (pa_cons (pe_callB Ex.call_isV (by rfl) B.isi (by decide +kernel) (pa_cons (pv 0) (pa_cons (pe_glob (v := .ref (C 17)) (by rfl) X.g17 rfl) pa_nil))) (pa_cons (pe_callB Ex.call_isV (by rfl) B.isi (by decide +kernel) (pa_cons (pv 0) (pa_cons (pe_glob (v := .ref (C 18)) (by rfl) X.g18 rfl) pa_nil))) (pa_cons (pe_callB Ex.call_isV (by rfl) B.isi (by decide +kernel) (pa_cons (pv 0) (pa_cons (pe_glob (v := .ref (C 19)) (by rfl) X.g19 rfl) pa_nil))) pa_nil)))))))
      (C8.pss_cut (ps_set (i := 1) scClasses.nd rfl (.inl rfl) (pe_op op_cat (pv 1) (pe_lst (pa_cons (pe_callB Ex.call_isV (by rfl) B.isi (by decide +kernel) (pa_cons (pv 0) (pa_cons (pe_glob (v := .ref (C 20)) (by rfl) X.g20 rfl) pa_nil))) (pa_cons (pe_callB Ex.call_isV (by rfl) B.isi (by decide +kernel) (pa_cons (pv 0) (pa_cons (pe_glob (v := .ref (C 21)) (by rfl) X.g21 rfl) pa_nil))) (pa_cons (pe_callB Ex.call_isV (by rfl) B.isi (by decide +kernel) (pa_cons (pv 0) (pa_cons (pe_glob (v := .ref (C 22)) (by rfl) X.g22 rfl) pa_nil))) pa_nil))))))
      (C8.pss_cut (ps_set (i := 1) scClasses.nd rfl (.inl rfl) (pe_op op_cat (pv 1) (pe_lst (pa_cons (pe_callB Ex.call_isV (by rfl) B.isi (by decide +kernel) (pa_cons (pv 0) (pa_cons (pe_glob (v := .ref (C 23)) (by rfl) X.g23 rfl) pa_nil))) (pa_cons (pe_callB Ex.call_isV (by rfl) B.isi (by decide +kernel) (pa_cons (pv 0) (pa_cons (pe_glob (v := .ref (C 24)) (by rfl) X.g24 rfl) pa_nil))) (pa_cons (pe_callB Ex.call_isV (by rfl) B.isi (by decide +kernel) (pa_cons (pv 0) (pa_cons (pe_glob (v := .ref (C 25)) (by rfl) X.g25 rfl) pa_nil))) (pa_cons (pe_callB Ex.call_isV (by rfl) B.isi (by decide +kernel) (pa_cons (pv 0) (pa_cons (pe_glob (v := .ref (C 26)) (by rfl) X.g26 rfl) pa_nil))) pa_nil)))))))
      (C8.pss_cut (ps_set (i := 1) scClasses.nd rfl (.inl rfl) (pe_op op_cat (pv 1) (pe_lst (pa_cons (pe_callB Ex.call_isV (by rfl) B.isi (by decide +kernel) (pa_cons (pv 0) (pa_cons (pe_glob (v := .ref (C 27)) (by rfl) X.g27 rfl) pa_nil))) (pa_cons (pe_callB Ex.call_isV (by rfl) B.isi (by decide +kernel) (pa_cons (pv 0) (pa_cons (pe_glob (v := .ref (C 28)) (by rfl) X.g28 rfl) pa_nil))) pa_nil)))))
      (pss_one (ps_ret (pe_lc (own := [("_law_k", 2), ("_law_is_one", 3)]) (g := gTup K 2 (gCons (gName 2) (gCons (gName 3) gNil))) (tt := _) rfl scClasses.nd (pi_enum (by rfl) B.enu (pa_cons (pv 1) pa_nil)) (blkOk_by (N := nClasses) (sc := defScope sClasses) (by decide +kernel))
      (fun _ _ _ _ _ => pg_tup rfl (pgs_cons (pg_name (i := 2) scClasses.nd rfl (Or.inl rfl)) (pgs_cons (pg_name (i := 3) scClasses.nd rfl (Or.inl rfl)) pgs_nil))) (fun _ _ _ _ _ => pts_one (pt_val (pv 3))) (fun _ _ _ _ _ => pv 2))))))))))), ?_⟩
    refine ⟨fun σ' H' => ∃ l : Addr, σ' = [some (.ref a), some (.ref l), none, none] ∧ Same H0 H' ∧ H' l = some (.lst (bls i 4)), ?_, fun σ' H1 hM => ?_⟩
    · refine ⟨_, rfl, a, C i, fs, .ref (C 0), .ref (C 0), _, rfl, xa, (fun _ h => h), X.x i hi, X.kit i 0 hi (by decide), _, rfl, a, C i, fs, .ref (C 1), .ref (C 1), _, rfl, xa, (fun _ h => h), X.x i hi, X.kit i 1 hi (by decide), _, rfl, a, C i, fs, .ref (C 2), .ref (C 2), _, rfl, xa, (fun _ h => h), X.x i hi, X.kit i 2 hi (by decide), _, rfl, a, C i, fs, .ref (C 3), .ref (C 3), _, rfl, xa, (fun _ h => h), X.x i hi, X.kit i 3 hi (by decide), few_ok (by show 4 ≤ 100; decide), fun l nl => ?_⟩
      exact ⟨l, rfl, same_upd nl, upd_same⟩
    obtain ⟨l, rfl, S, at0⟩ := hM
    refine ⟨fun σ' H' => ∃ l : Addr, σ' = [some (.ref a), some (.ref l), none, none] ∧ Same H0 H' ∧ H' l = some (.lst (bls i 8)), ?_, fun σ' H2 hM => ?_⟩
    · refine ⟨_, rfl, _, rfl, a, C i, fs, .ref (C 4), .ref (C 4), _, rfl, xa.same S, (fun _ h => h), X.x i hi, X.kit i 4 hi (by decide), _, rfl, a, C i, fs, .ref (C 5), .ref (C 5), _, rfl, xa.same S, (fun _ h => h), X.x i hi, X.kit i 5 hi (by decide), _, rfl, a, C i, fs, .ref (C 6), .ref (C 6), _, rfl, xa.same S, (fun _ h => h), X.x i hi, X.kit i 6 hi (by decide), _, rfl, a, C i, fs, .ref (C 7), .ref (C 7), _, rfl, xa.same S, (fun _ h => h), X.x i hi, X.kit i 7 hi (by decide), few_ok (by show 4 ≤ 100; decide), fun m nm => ?_⟩
      have sm := same_upd (o := .lst [V.bl (decide (i = 4)), V.bl (decide (i = 5)), V.bl (decide (i = 6)), V.bl (decide (i = 7))]) nm
      exact ⟨l, m, _, _, rfl, rfl, sm _ _ at0, at_new (o := .lst [V.bl (decide (i = 4)), V.bl (decide (i = 5)), V.bl (decide (i = 6)), V.bl (decide (i = 7))]) nm, few_ok (by rw [bls_len]; show 4 + 4 ≤ 100; decide), fun u nu => ⟨u, rfl, (S.trans sm).trans (same_upd nu), at_new (o := .lst (bls i 8)) nu⟩⟩
    obtain ⟨l, rfl, S, at0⟩ := hM
    refine ⟨fun σ' H' => ∃ l : Addr, σ' = [some (.ref a), some (.ref l), none, none] ∧ Same H0 H' ∧ H' l = some (.lst (bls i 12)), ?_, fun σ' H3 hM => ?_⟩
    · refine ⟨_, rfl, _, rfl, a, C i, fs, .ref (C 8), .ref (C 8), _, rfl, xa.same S, (fun _ h => h), X.x i hi, X.kit i 8 hi (by decide), _, rfl, a, C i, fs, .ref (C 9), .ref (C 9), _, rfl, xa.same S, (fun _ h => h), X.x i hi, X.kit i 9 hi (by decide), _, rfl, a, C i, fs, .ref (C 10), .ref (C 10), _, rfl, xa.same S, (fun _ h => h), X.x i hi, X.kit i 10 hi (by decide), _, rfl, a, C i, fs, .ref (C 11), .ref (C 11), _, rfl, xa.same S, (fun _ h => h), X.x i hi, X.kit i 11 hi (by decide), few_ok (by show 4 ≤ 100; decide), fun m nm => ?_⟩
      have sm := same_upd (o := .lst [V.bl (decide (i = 8)), V.bl (decide (i = 9)), V.bl (decide (i = 10)), V.bl (decide (i = 11))]) nm
      exact ⟨l, m, _, _, rfl, rfl, sm _ _ at0, at_new (o := .lst [V.bl (decide (i = 8)), V.bl (decide (i = 9)), V.bl (decide (i = 10)), V.bl (decide (i = 11))]) nm, few_ok (by rw [bls_len]; show 8 + 4 ≤ 100; decide), fun u nu => ⟨u, rfl, (S.trans sm).trans (same_upd nu), at_new (o := .lst (bls i 12)) nu⟩⟩
    obtain ⟨l, rfl, S, at0⟩ := hM
    refine ⟨fun σ' H' => ∃ l : Addr, σ' = [some (.ref a), some (.ref l), none, none] ∧ Same H0 H' ∧ H' l = some (.lst (bls i 16)), ?_, fun σ' H4 hM => ?_⟩
    · refine ⟨_, rfl, _, rfl, a, C i, fs, .ref (C 12), .ref (C 12), _, rfl, xa.same S, (fun _ h => h), X.x i hi, X.kit i 12 hi (by decide), _, rfl, a, C i, fs, .ref (C 13), .ref (C 13), _, rfl, xa.same S, (fun _ h => h), X.x i hi, X.kit i 13 hi (by decide), _, rfl, a, C i, fs, .ref (C 14), .ref (C 14), _, rfl, xa.same S, (fun _ h => h), X.x i hi, X.kit i 14 hi (by decide), _, rfl, a, C i, fs, .ref (C 15), .ref (C 15), _, rfl, xa.same S, (fun _ h => h), X.x i hi, X.kit i 15 hi (by decide), few_ok (by show 4 ≤ 100; decide), fun m nm => ?_⟩
      have sm := same_upd (o := .lst [V.bl (decide (i = 12)), V.bl (decide (i = 13)), V.bl (decide (i = 14)), V.bl (decide (i = 15))]) nm
      exact ⟨l, m, _, _, rfl, rfl, sm _ _ at0, at_new (o := .lst [V.bl (decide (i = 12)), V.bl (decide (i = 13)), V.bl (decide (i = 14)), V.bl (decide (i = 15))]) nm, few_ok (by rw [bls_len]; show 12 + 4 ≤ 100; decide), fun u nu => ⟨u, rfl, (S.trans sm).trans (same_upd nu), at_new (o := .lst (bls i 16)) nu⟩⟩
    obtain ⟨l, rfl, S, at0⟩ := hM
    refine ⟨fun σ' H' => ∃ l : Addr, σ' = [some (.ref a), some (.ref l), none, none] ∧ Same H0 H' ∧ H' l = some (.lst (bls i 20)), ?_, fun σ' H5 hM => ?_⟩
    · refine ⟨_, rfl, _, rfl, a, C i, fs, .ref (C 16), .ref (C 16), _, rfl, xa.same S, (fun _ h => h), X.x i hi, X.kit i 16 hi (by decide), _, rfl, a, C i, fs, .ref (C 17), .ref (C 17), _, rfl, xa.same S, (fun _ h => h), X.x i hi, X.kit i 17 hi (by decide), _, rfl, a, C i, fs, .ref (C 18), .ref (C 18), _, rfl, xa.same S, (fun _ h => h), X.x i hi, X.kit i 18 hi (by decide), _, rfl, a, C i, fs, .ref (C 19), .ref (C 19), _, rfl, xa.same S, (fun _ h => h), X.x i hi, X.kit i 19 hi (by decide), few_ok (by show 4 ≤ 100; decide), fun m nm => ?_⟩
      have sm := same_upd (o := .lst [V.bl (decide (i = 16)), V.bl (decide (i = 17)), V.bl (decide (i = 18)), V.bl (decide (i = 19))]) nm
      exact ⟨l, m, _, _, rfl, rfl, sm _ _ at0, at_new (o := .lst [V.bl (decide (i = 16)), V.bl (decide (i = 17)), V.bl (decide (i = 18)), V.bl (decide (i = 19))]) nm, few_ok (by rw [bls_len]; show 16 + 4 ≤ 100; decide), fun u nu => ⟨u, rfl, (S.trans sm).trans (same_upd nu), at_new (o := .lst (bls i 20)) nu⟩⟩
    obtain ⟨l, rfl, S, at0⟩ := hM
    refine ⟨fun σ' H' => ∃ l : Addr, σ' = [some (.ref a), some (.ref l), none, none] ∧ Same H0 H' ∧ H' l = some (.lst (bls i 23)), ?_, fun σ' H6 hM => ?_⟩
    · refine ⟨_, rfl, _, rfl, a, C i, fs, .ref (C 20), .ref (C 20), _, rfl, xa.same S, (fun _ h => h), X.x i hi, X.kit i 20 hi (by decide), _, rfl, a, C i, fs, .ref (C 21), .ref (C 21), _, rfl, xa.same S, (fun _ h => h), X.x i hi, X.kit i 21 hi (by decide), _, rfl, a, C i, fs, .ref (C 22), .ref (C 22), _, rfl, xa.same S, (fun _ h => h), X.x i hi, X.kit i 22 hi (by decide), few_ok (by show 3 ≤ 100; decide), fun m nm => ?_⟩
      have sm := same_upd (o := .lst [V.bl (decide (i = 20)), V.bl (decide (i = 21)), V.bl (decide (i = 22))]) nm
      exact ⟨l, m, _, _, rfl, rfl, sm _ _ at0, at_new (o := .lst [V.bl (decide (i = 20)), V.bl (decide (i = 21)), V.bl (decide (i = 22))]) nm, few_ok (by rw [bls_len]; show 20 + 3 ≤ 100; decide), fun u nu => ⟨u, rfl, (S.trans sm).trans (same_upd nu), at_new (o := .lst (bls i 23)) nu⟩⟩
    obtain ⟨l, rfl, S, at0⟩ := hM
    refine ⟨fun σ' H' => ∃ l : Addr, σ' = [some (.ref a), some (.ref l), none, none] ∧ Same H0 H' ∧ H' l = some (.lst (bls i 27)), ?_, fun σ' H7 hM => ?_⟩
    · refine ⟨_, rfl, _, rfl, a, C i, fs, .ref (C 23), .ref (C 23), _, rfl, xa.same S, (fun _ h => h), X.x i hi, X.kit i 23 hi (by decide), _, rfl, a, C i, fs, .ref (C 24), .ref (C 24), _, rfl, xa.same S, (fun _ h => h), X.x i hi, X.kit i 24 hi (by decide), _, rfl, a, C i, fs, .ref (C 25), .ref (C 25), _, rfl, xa.same S, (fun _ h => h), X.x i hi, X.kit i 25 hi (by decide), _, rfl, a, C i, fs, .ref (C 26), .ref (C 26), _, rfl, xa.same S, (fun _ h => h), X.x i hi, X.kit i 26 hi (by decide), few_ok (by show 4 ≤ 100; decide), fun m nm => ?_⟩
      have sm := same_upd (o := .lst [V.bl (decide (i = 23)), V.bl (decide (i = 24)), V.bl (decide (i = 25)), V.bl (decide (i = 26))]) nm
      exact ⟨l, m, _, _, rfl, rfl, sm _ _ at0, at_new (o := .lst [V.bl (decide (i = 23)), V.bl (decide (i = 24)), V.bl (decide (i = 25)), V.bl (decide (i = 26))]) nm, few_ok (by rw [bls_len]; show 23 + 4 ≤ 100; decide), fun u nu => ⟨u, rfl, (S.trans sm).trans (same_upd nu), at_new (o := .lst (bls i 27)) nu⟩⟩
    obtain ⟨l, rfl, S, at0⟩ := hM
    refine ⟨fun σ' H' => ∃ l : Addr, σ' = [some (.ref a), some (.ref l), none, none] ∧ Same H0 H' ∧ H' l = some (.lst (bls i 29)), ?_, fun σ' H8 hM => ?_⟩
    · refine ⟨_, rfl, _, rfl, a, C i, fs, .ref (C 27), .ref (C 27), _, rfl, xa.same S, (fun _ h => h), X.x i hi, X.kit i 27 hi (by decide), _, rfl, a, C i, fs, .ref (C 28), .ref (C 28), _, rfl, xa.same S, (fun _ h => h), X.x i hi, X.kit i 28 hi (by decide), few_ok (by show 2 ≤ 100; decide), fun m nm => ?_⟩
      have sm := same_upd (o := .lst [V.bl (decide (i = 27)), V.bl (decide (i = 28))]) nm
      exact ⟨l, m, _, _, rfl, rfl, sm _ _ at0, at_new (o := .lst [V.bl (decide (i = 27)), V.bl (decide (i = 28))]) nm, few_ok (by rw [bls_len]; show 27 + 2 ≤ 100; decide), fun u nu => ⟨u, rfl, (S.trans sm).trans (same_upd nu), at_new (o := .lst (bls i 29)) nu⟩⟩
    obtain ⟨l, rfl, S, at0⟩ := hM
    refine ⟨_, rfl, l, bls i 29, rfl, SqL.of at0, fun D nD => ?_⟩
    have H8n : ∀ H4 : Hp, Same H8 H4 → SqL K H4 l (bls i 29) := fun H4 s4 => SqL.of (s4 _ _ at0)
    refine lc_it walk_enum (fun n H4 => Same H8 H4 ∧ H4 D = some (.lst (if i < n then [V.int (i : Int)] else []))) ⟨same_upd nD, by rw [if_neg (Nat.not_lt_zero i)]; exact upd_same⟩ (fun n H4 _ h => H8n H4 h.1) ?_ ?_
    · rintro n v H4 H5 hn ⟨s4, e4⟩ ⟨T, x, y, rfl, nT, rfl, e1, e2⟩
      obtain rfl := Option.some.inj e1
      obtain ⟨hn29, rfl⟩ := bls_at e2
      have sT := same_upd (o := .tup [V.int (n : Int), .bl (decide (i = n))]) nT
      have e5 := sT _ _ e4
      refine ⟨T, _, rfl, .inl (.inl upd_same), rfl, ?_⟩
      refine ⟨_, _, rfl, _, _, rfl, rfl, rfl, _, rfl, decide (i = n), rfl, ite2 (fun he => ?_) (fun he => ?_)⟩
      · have he : i = n := of_decide_eq_true he
        subst he
        rw [if_neg (Nat.lt_irrefl i)] at e5
        refine ⟨_, rfl, [], e5, by show 0 < sizeLine; decide, ?_, ?_⟩
        · exact fun b o e => (upd_ne (ne_of_none e nD)).trans ((s4.trans sT) b o e)
        · rw [if_pos (Nat.lt_succ_self i)]
          exact upd_same
      · have he : i ≠ n := fun z => he (decide_eq_true z)
        refine ⟨s4.trans sT, ?_⟩
        by_cases h2 : i < n
        · rw [if_pos h2] at e5
          rw [if_pos (Nat.lt_succ_of_lt h2)]
          exact e5
        · rw [if_neg h2] at e5
          rw [if_neg (by omega)]
          exact e5
    · rintro H4 ⟨s4, e4⟩
      rw [bls_len, if_pos hi] at e4
      exact q H4 D (S.trans s4) (S.free nD) e4
end
end Dr
namespace Dr
open PySem PySem.Spec PyProof.Rows L2
section
variable {X : Cx}
/-- isinstance(e, (c, ..)), the tuple just laid -/
def rIsVT (K : PySem.W.Frag) : List V → Hp → VK → Prop := fun xs H Q => ∃ (a C tp : Addr) (fs : List (Str × V)) (cs : List V) (us : List Value) (b : Bool), xs = [.ref a, .ref tp] ∧ Ex.ExAt H a C fs ∧ H tp = some (.tup cs) ∧ Paired ClsV cs us ∧ ExcC K C ∧ PySem.W.kitAny K (.ref C) us = some b ∧ Q (.bl b) H
theorem call_isVT : CallR X (.builtin "isinstance") (rIsVT X.K) := by
  intro pins s σ H xs us Q I r h
  obtain ⟨a, C, tp, fs, cs, ws, b, rfl, hx, hT, k, T, e, q⟩ := h
  obtain ⟨u1, u2, rfl, r1, r2⟩ := vals2 r
  cases r1
  obtain rfl : u2 = Value.ref tp := r2
  obtain ⟨ox, od, J⟩ := hx.inst I
  have hcl : (PySem.W.clsIn X.K C).isSome = true := by
    obtain ⟨cd, hc, _⟩ := PySem.W.any_some T.hd
    rw [hc]
    rfl
  obtain ⟨_, its, rv, o, h1, h2, n, h3⟩ := (show ObjOk X.prog X.w H s.heap tp (.tup cs) from I.hok tp _ hT)
  obtain rfl := ClsV.all k rv
  obtain ⟨oc, od2, dt, sl⟩ := o
  simp only at h2 h3
  subst h2 h3
  exact PySem.W.kia_tup (PySem.W.kitx_exc hcl T.hg T.hk T.hs T.ha T.hn T.ht T.hm) I.kIn J h1 e (fun z => nomatch z) fun tk => ⟨.bl b, H, I.tok tk, rfl, q⟩
end
theorem rws_get {H : Hp} {one : V} {Cs : List Addr} {vs : List V} (h : Rws H one Cs vs) : ∀ {n : Nat} {v : V}, vs[n]? = some v → ∃ C, Cs[n]? = some C ∧ Rw H one C v := by
  induction h with
  | nil => intro n v e; exact nomatch e
  | cons r _ ih =>
    intro n v e
    cases n with
    | zero =>
      obtain rfl := Option.some.inj e
      exact ⟨_, rfl, r⟩
    | succ n => exact ih (show _ from e)
theorem twice_eqv {i : Int} : PyData.eqv (.list [.int i]) (.list [.int i]) = true := SeqAt.eqv_refl_plain _ rfl
/-- what else the law needs of the classes -/
structure ClsL (K : PySem.W.Frag) (mg : Str → Option Value) (C : Nat → Addr) (CP CC : Addr) : Prop where
  gP : mg "PartError" = some (.ref CP)
  gC : mg "CallError" = some (.ref CC)
  kP : ∀ i, i < 29 → PySem.W.kitOne K (.ref (C i)) (.ref CP) = some (decide (i < 19))
  kC : ∀ i, i < 29 → PySem.W.kitOne K (.ref (C i)) (.ref CC) = some (!decide (i < 19))
  kV : ∀ i, i < 29 → PySem.W.kitOne K (.ref (C i)) (.type "ValueError") = some (decide (i < 19))
  kT : ∀ i, i < 29 → PySem.W.kitOne K (.ref (C i)) (.type "TypeError") = some (!decide (i < 19))
  kO : ∀ i, i < 29 → PySem.W.kitAny K (.ref (C i)) [.type "KeyError", .type "IndexError", .type "LookupError", .type "OverflowError"] = some false
structure BltL (mg : Str → Option Value) : Prop where
  rep : mg "repr" = none
  max : mg "max" = none
  min : mg "min" = none
  ve : mg "ValueError" = none
  te : mg "TypeError" = none
  ke : mg "KeyError" = none
  ie : mg "IndexError" = none
  le : mg "LookupError" = none
  oe : mg "OverflowError" = none
theorem ne_list {i : Int} : V.bl (!PyData.eqv (.list [.int i]) (.list [.int i])) = V.bl false := by rw [twice_eqv] <;> rfl
theorem eq_not (b : Bool) : V.bl (decide (V.bl (!b) = V.bl b)) = V.bl false := by cases b <;> rfl
theorem ne_self (z : V) : V.bl (!decide (z = z)) = V.bl false := by rw [decide_eq_true rfl] <;> rfl
theorem Kp.sameN {p : Addr} {H H1 H2 : Hp} (n : H p = Option.none) (s : Same H H1) (k : Kp p H1 H2) : Same H H2 := fun b o e => k.1 b o (ne_of_none e n) (s b o e)
theorem same_three {H : Hp} {a d : Addr} {u v w z : HO} (na : H a = none) (nd : upd H a u d = none) (ne : d ≠ a) : Same H (upd (upd (upd (upd H a u) d v) a w) d z) := fun b o e => by
  have q := same_two (v := v) (w := w) na nd ne b o e
  rw [upd_ne ne] at nd
  rw [upd_ne (ne_of_none e nd)]
  exact q
theorem cls29 {H : Hp} {one v : V} {C : Nat → Addr} {ts : List V} {n : Nat} (R : Rws H one ((List.range 29).map C) ts) (e : ts[n]? = some v) : n < 29 ∧ Rw H one (C n) v := by
  obtain ⟨c, hc, r⟩ := rws_get R e
  have hn : n < 29 := by
    have := (List.getElem?_eq_some_iff.mp hc).1
    rw [List.length_map, List.length_range] at this
    exact this
  rw [List.getElem?_map, List.getElem?_range hn] at hc
  obtain rfl := Option.some.inj hc
  exact ⟨hn, r⟩
abbrev sLaw : Stmt := topS 39
abbrev nLaw : List Str := ["_law_script", "_law_at", "_law_bag_here", "_law_one", "_law_two", "_law_lost", "_law_listed", "_law_k", "_law_row", "_law_is_part"]
theorem scLaw : FnScope nLaw ["_law_script"] (defScope sLaw) := ⟨rfl, rfl, rfl, by decide +kernel, rfl, by decide +kernel, by decide +kernel⟩
section
variable {P : Program} {w : World} {K : PySem.W.Frag} {mg : Str → Option Value} {base : Heap}
def spLaw (K : PySem.W.Frag) : Sp := fun vs H Q _ => ∃ (a : Addr) (ns : List Int), vs = [.ref a] ∧ SqL K H a (ns.map V.int) ∧ ns.length ≤ 63 ∧ ∀ H', Q (.bl true) H'
theorem ok_law {C : Nat → Addr} {CP CC gI17 f fB fH fF fS fK : Addr} {fd fdB fdH fdF fdS fdK fd17 : FuncData} (F : Fun K "law" "law" sLaw f fd) (B : Blt mg) (BT : BltT mg) (BC : BltC mg) (BL : BltL mg) (X : Cls29 K mg C) (XL : ClsL K mg C CP CC)
    (E17 : Er K mg "NoValue" "owner" (C 17) gI17) (nv17 : PySem.W.findIn K (.ref (C 17)) "value" = some none) (F17 : Fun K "__init__" "NoValue.__init__" sINoValue gI17 fd17)
    {B18 N18 I18 : String} {bm18 : List Value} (FB18 : ExcBaseFacts B18 N18 I18 bm18) (q18 : PySem.W.excIn K (C 18) bm18 N18 = true) (k18 : PySem.W.keepIn K (.ref (C 18)) = true)
    (GB : FnOk P w K mg base CX0 1 fB fdB ["_law_script", "_law_at"] (spBag K)) (mB : mg "_law_bag" = some (.ref fB)) (kB : PySem.W.keepIn K (.ref fB) = true) (bB : Binds K fdB ["_law_script", "_law_at"] [])
    (GH : FnOk P w K mg base CX0 5 fH fdH ["_law_bag_here", "_law_depth"] (spTh K 3)) (mH : mg "_law_thing" = some (.ref fH)) (kH : PySem.W.keepIn K (.ref fH) = true) (bH : Binds K fdH ["_law_bag_here", "_law_depth"] [])
    (GF : FnOk P w K mg base CX0 3 fF fdF ["_law_one"] (spRows K [C 0, C 1, C 2, C 3, C 4, C 5, C 6, C 7, C 8, C 9, C 10, C 11, C 12, C 13, C 14, C 15, C 16])) (mF : mg "_law_first" = some (.ref fF)) (kF : PySem.W.keepIn K (.ref fF) = true) (bF : Binds K fdF ["_law_one"] [])
    (GS : FnOk P w K mg base CX0 3 fS fdS ["_law_one"] (spRows K [C 19, C 20, C 21, C 22, C 23, C 24, C 25, C 26, C 27, C 28])) (mS : mg "_law_second" = some (.ref fS)) (kS : PySem.W.keepIn K (.ref fS) = true) (bS : Binds K fdS ["_law_one"] [])
    (GK : FnOk P w K mg base CX0 3 fK fdK ["_law_e"] (spCl C)) (mK : mg "_law_classes" = some (.ref fK)) (kK : PySem.W.keepIn K (.ref fK) = true) (bK : Binds K fdK ["_law_e"] []) : Gd.FnG P w K mg base CX0 6 f fd ["_law_script"] (spLaw K) := by
  have G17 := mkNoValue (P := P) (w := w) (base := base) E17 nv17 F17
  refine Gd.fnG F scLaw (fun vs H Q E h => ?_) (fun cdv A outer s H vs Q E hg hr h => ?_)
  · obtain ⟨a, ns, rfl, _⟩ := h
    rfl
  · obtain ⟨a, ns, rfl, hS, hlen, q⟩ := h
    have hu : (A.deeper (envOfC "law" (defScope sLaw) s.heap.objs.size f cdv)).units + 64 < cLine := hr.units
    have hr1 : Room 1 _ := hr.mono (show 1 ≤ 5 by omega)
    have hr2 : Room 2 _ := hr.mono (show 2 ≤ 5 by omega)
    have hr3 : Room 3 _ := hr.mono (show 3 ≤ 5 by omega)
    have b17 : KBn K fd17 ["self", "owner", "value"] 2 ["value"] (fun us ws => us ++ ws) (fun vs zs => vs ++ zs) := by
      obtain ⟨oc, od, kV, doc, pm, an, cdv', ct, osl, rfl, _⟩ := F17.ex
      refine ⟨fun s us ws _ l1 l2 => ?_, fun r1 r2 => r1.append r2⟩
      match us, ws, l1, l2 with
      | [_, _], [_], _, _ => exact .of_eq rfl
    refine ⟨_, pss_cons (ps_for PassesOwn.never rfl (pi_range1 rfl BT.ran (pa_cons (pe_callB (call_max2 rfl) (by rfl) BL.max (by decide +kernel) (pa_cons pe_int (pa_cons (pe_callB (call_min2 rfl) (by rfl) BL.min (by decide +kernel) (pa_cons pe_int (pa_cons (pe_callB call_len_seq (by rfl) B.len PySem.boot_len (pa_cons (pv 0) pa_nil)) pa_nil))) pa_nil))) pa_nil)) (pg_name (i := 1) scLaw.nd rfl (.inl rfl))
      (pss_cons (ps_set (i := 2) scLaw.nd rfl (.inl rfl) (pe_call GB hr1 (by rfl) mB kB bB .nil pass0 (pa_cons (pv 0) (pa_cons (pv 1) pa_nil))))
      (pss_cons (ps_par (i := 3) (j := 4) (by rfl) scLaw.nd rfl rfl (by decide) rfl rfl (pa_cons (pe_call GH hr (by rfl) mH kH bH .nil pass0 (pa_cons (pv 2) (pa_cons pe_int pa_nil))) (pa_cons (pe_call GH hr (by rfl) mH kH bH .nil pass0 (pa_cons (pv 2) (pa_cons pe_int pa_nil))) pa_nil)) (by rfl))
      (C8.pss_cut (ps_set (i := 5) scLaw.nd rfl (.inl rfl) (Ex.pe_mkKV (n := 1) E17.c.o E17.i E17.t G17 hr2 b17 pass0 (by rfl) E17.g (pa_cons (pv 3) pa_nil) (pk_cons (pv 4) pk_nil)))
      (C8.pss_cut (ps_set (i := 6) scLaw.nd rfl (.inl rfl) (pe_op op_cat (pe_op op_cat (pe_call GF hr3 (by rfl) mF kF bF .nil pass0 (pa_cons (pv 3) pa_nil)) (pe_lst (pa_cons (pe_tup (pa_cons (pv 5) (pa_cons (Ex.pe_fv (pv 5)) pa_nil))) (pa_cons (pe_tup (pa_cons (Ex.pe_mk0V FB18 q18 k18 (by rfl) X.g18) (pa_cons (pv 3) pa_nil))) pa_nil))))
          (pe_call GS hr3 (by rfl) mS kS bS .nil pass0 (pa_cons (pv 3) pa_nil))))
      (C8.pss_cut (ps_if (PW.pt (pw_or (pt_cmpR op_ne (pe_callB (Gd.call_repr_dp hg hu) (by rfl) BL.rep (by decide +kernel) (pa_cons (Ex.pe_fv (pv 5)) pa_nil)) (pe_callB (Gd.call_repr_dp hg hu) (by rfl) BL.rep (by decide +kernel) (pa_cons (pv 4) pa_nil)) (nomark _))
          (pw_or1 (pt_cmpR op_ne (pe_callB call_len_seq (by rfl) B.len PySem.boot_len (pa_cons (pv 6) pa_nil)) pe_int (nomark _))))) (pss_one (ps_ret pe_bl)) pss_nil)
      (pss_one (ps_for PassesOwn.never rfl (pi_enum (by rfl) BC.enu (pa_cons (pv 6) pa_nil)) (pg_tup rfl (pgs_cons (pg_name (i := 7) scLaw.nd rfl (.inl rfl)) (pgs_cons (pg_name (i := 8) scLaw.nd rfl (.inl rfl)) pgs_nil)))
        (C8.pss_cut (ps_if (PW.pt (pw_or (pt_cmpR op_ne (pe_callB (Gd.call_repr_dp hg hu) (by rfl) BL.rep (by decide +kernel) (pa_cons (pe_ix ix_tup (pv 8) pe_int (fun _ _ => rfl)) pa_nil)) (pe_callB (Gd.call_repr_dp hg hu) (by rfl) BL.rep (by decide +kernel) (pa_cons (pv 3) pa_nil)) (nomark _))
            (pw_or1 (pt_cmpR (op_neD hu) (pe_call GK hr3 (by rfl) mK kK bK .nil pass0 (pa_cons (pe_ix ix_tup (pv 8) pe_int (fun _ _ => rfl)) pa_nil)) (pe_lst (pa_cons (pv 7) pa_nil)) (nomark _))))) (pss_one (ps_ret pe_bl)) pss_nil)
        (C8.pss_cut (ps_set (i := 9) scLaw.nd rfl (.inl rfl) (pe_cmpR op_lt (pv 7) pe_int (nomark _)))
        (C8.pss_cut (ps_if (PW.pt (pw_or (pt_cmpR op_ne (pe_callB Ex.call_isV (by rfl) BC.isi (by decide +kernel) (pa_cons (pe_ix ix_tup (pv 8) pe_int (fun _ _ => rfl)) (pa_cons (pe_glob (v := .ref CP) (by rfl) XL.gP rfl) pa_nil))) (pv 9) (nomark _))
            (pw_or1 (pt_cmpR op_ne (pe_callB Ex.call_isV (by rfl) BC.isi (by decide +kernel) (pa_cons (pe_ix ix_tup (pv 8) pe_int (fun _ _ => rfl)) (pa_cons (pe_bltn (v := .ty "ValueError") (by rfl) BL.ve (by decide +kernel) rfl) pa_nil))) (pv 9) (nomark _))))) (pss_one (ps_ret pe_bl)) pss_nil)
        (C8.pss_cut (ps_if (PW.pt (pw_or (pt_cmpR op_eq (pe_callB Ex.call_isV (by rfl) BC.isi (by decide +kernel) (pa_cons (pe_ix ix_tup (pv 8) pe_int (fun _ _ => rfl)) (pa_cons (pe_glob (v := .ref CC) (by rfl) XL.gC rfl) pa_nil))) (pv 9) (nomark _))
            (pw_or1 (pt_cmpR op_eq (pe_callB Ex.call_isV (by rfl) BC.isi (by decide +kernel) (pa_cons (pe_ix ix_tup (pv 8) pe_int (fun _ _ => rfl)) (pa_cons (pe_bltn (v := .ty "TypeError") (by rfl) BL.te (by decide +kernel) rfl) pa_nil))) (pv 9) (nomark _))))) (pss_one (ps_ret pe_bl)) pss_nil)
        (pss_one (ps_if (pt_val (pe_callB call_isVT (by rfl) BC.isi (by decide +kernel) (pa_cons (pe_ix ix_tup (pv 8) pe_int (fun _ _ => rfl)) (pa_cons (pe_tup (pa_cons (pe_bltn (v := .ty "KeyError") (by rfl) BL.ke (by decide +kernel) rfl) (pa_cons (pe_bltn (v := .ty "IndexError") (by rfl) BL.ie (by decide +kernel) rfl) (pa_cons (pe_bltn (v := .ty "LookupError") (by rfl) BL.le (by decide +kernel) rfl) (pa_cons (pe_bltn (v := .ty "OverflowError") (by rfl) BL.oe (by decide +kernel) rfl) pa_nil))))) pa_nil)))) (pss_one (ps_ret pe_bl)) pss_nil))))))))))))))
      (pss_one (ps_ret pe_bl)), ?_⟩
    have hJ : ∀ n : Nat, 1 ≤ (if (if ((n : Nat) : Int) < 6 then ((n : Nat) : Int) else 6) > 1 then (if ((n : Nat) : Int) < 6 then ((n : Nat) : Int) else 6) else 1) ∧ (if (if ((n : Nat) : Int) < 6 then ((n : Nat) : Int) else 6) > 1 then (if ((n : Nat) : Int) < 6 then ((n : Nat) : Int) else 6) else 1) ≤ 6 := fun n => by
      split <;> split <;> omega
    refine ⟨_, rfl, a, _, rfl, .inl hS, _, _, rfl, _, _, rfl, _, rfl, ?_, ?_, ?_⟩
    · have := (hJ (ns.map V.int).length).1
      show -(2 ^ 62) ≤ _
      omega
    · have := (hJ (ns.map V.int).length).2
      show _ < 2 ^ 62
      omega
    have hJ2 := (hJ (ns.map V.int).length).2
    refine for_it walk_range (fun i σ H' => Same H H' ∧ ∃ y1 y2 y3 y4 y5 y6 y7 y8 y9 : Option V, σ = [some (.ref a), y1, y2, y3, y4, y5, y6, y7, y8, y9]) ⟨Same.refl _, none, none, none, none, none, none, none, none, none, rfl⟩ (fun _ _ _ _ _ => trivial) ?_ (fun σ H1 ⟨_, y1, y2, y3, y4, y5, y6, y7, y8, y9, e⟩ => q _)
    rintro i x σ Hs Ht hi ⟨sm0, y1, y2, y3, y4, y5, y6, y7, y8, y9, rfl⟩ ⟨rfl, rfl⟩
    have hi6 : i < 6 := by
      have : i < Int.toNat _ := hi
      omega
    refine ⟨_, rfl, _, rfl, a, ns, _, rfl, sm0.seq hS, hlen, by omega, by omega, fun Hb p sb np hB => ?_⟩
    have domB : Dom (· = p) Hb := fun b e z => by
      subst e
      obtain ⟨u, v, hp, _⟩ := hB
      rw [hp] at z
      cases z
    refine ⟨_, rfl, p, 0, (· = p), rfl, hB, rfl, domB, by decide, by decide, fun Hc v1 d1 k1 t1 e1 => ?_⟩
    refine ⟨_, rfl, p, 0, (· = p), rfl, k1.2, rfl, domB.kp k1, by decide, by decide, fun Hd v2 d2 k2 t2 e2 => ⟨_, _, rfl, ?_⟩⟩
    have D1 : Dp K Hd v1 d1 := Dq.dp (e1.stT (StT.kp k2 rfl))
    have D2 : Dp K Hd v2 d2 := e2.dp
    have sd : Same H Hd := sm0.trans (Kp.sameN np sb (k1.trans k2))
    clear e1 e2 domB hB
    -- the error with two attributes
    refine ⟨fun σ' H' => ∃ a5 : Addr, σ' = [some (.ref a), some (.int (0 + (i : Int))), some (.ref p), some v1, some v2, some (.ref a5), y6, y7, y8, y9] ∧ Same Hd H' ∧ Ex.ExAt H' a5 (C 17) [("value", v2), ("owner", v1)], ?_, fun σ' He hM => ?_⟩
    · refine ⟨_, rfl, _, rfl, one_le, rfl, rfl, fun a5 n5 => ⟨a5, v1, v2, rfl, upd_same, fun d nd ne => ⟨rfl, ?_⟩⟩⟩
      exact ⟨a5, rfl, same_three n5 nd ne, .inr ⟨d, (upd_ne (Ne.symm ne)).trans upd_same, upd_same⟩⟩
    obtain ⟨a5, rfl, se, x5⟩ := hM
    -- the rows
    refine ⟨fun σ' H' => ∃ (l : Addr) (ts : List V), σ' = [some (.ref a), some (.int (0 + (i : Int))), some (.ref p), some v1, some v2, some (.ref a5), some (.ref l), y7, y8, y9] ∧ Same He H' ∧ H' l = some (.lst ts) ∧ Rws H' v1 ((List.range 29).map C) ts, ?_, fun σ' Hf hM => ?_⟩
    · refine ⟨_, rfl, v1, rfl, fun H1 l1 ts1 s1 n1 at1 R1 => ?_⟩
      refine ⟨_, rfl, _, rfl, a5, C 17, _, v1, rfl, x5.same s1, E17.c.f, E17.n, rfl, two_ok, fun t17 m17 => fun a18 n18 => ⟨_, rfl, two_ok, fun t18 m18 => ⟨few_ok (by show 2 ≤ 100; decide), fun l2 nl2 => ?_⟩⟩⟩
      have q1 := same_upd (o := .tup [V.ref a5, v1]) m17
      have q2 := same_upd (o := exo a18 (C 18) none) n18
      have q3 := same_upd (o := .tup [V.ref a18, v1]) m18
      have q4 := same_upd (o := .lst [V.ref t17, .ref t18]) nl2
      have r17 := row_at (one := v1) (x5.same s1) m17
      have r18 := row_at (one := v1) (fs := []) (C := C 18) (.inl ⟨rfl, at_new (o := exo a18 (C 18) none) n18⟩) m18
      have R2 : Rws _ v1 [C 17, C 18] [V.ref t17, .ref t18] := .cons (r17.same (q2.trans (q3.trans q4))) (.cons (r18.same q4) .nil)
      have qq := q1.trans (q2.trans (q3.trans q4))
      have R12 := (R1.same qq).app R2
      have ln := Rws.len R12
      refine ⟨l1, l2, _, _, rfl, rfl, qq _ _ at1, upd_same, few_ok (by rw [Rws.len R1]; show 17 + 2 ≤ 100; decide), fun l3 nl3 => ?_⟩
      have q5 := same_upd (o := .lst (ts1 ++ [V.ref t17, .ref t18])) nl3
      refine ⟨_, rfl, v1, rfl, fun H2 l4 ts4 s4 n4 at4 R4 => ?_⟩
      refine ⟨l3, l4, _, _, rfl, rfl, s4 _ _ upd_same, at4, few_ok (by rw [ln, Rws.len R4]; show 19 + 10 ≤ 100; decide), fun l5 nl5 => ?_⟩
      have q6 := same_upd (o := .lst ((ts1 ++ [V.ref t17, .ref t18]) ++ ts4)) nl5
      exact ⟨l5, _, rfl, (s1.trans qq).trans (q5.trans (s4.trans q6)), upd_same, ((R12.same (q5.trans s4)).app R4).same q6⟩
    obtain ⟨l, ts, rfl, sf, atl, R⟩ := hM
    have lts : ts.length = 29 := by rw [Rws.len R, List.length_map, List.length_range]
    have x5f := x5.same sf
    have D1f := dp_same (se.trans sf) D1
    have D2f := dp_same (se.trans sf) D2
    have sz1 : d1.shown.length ≤ sizeLine := Nat.le_trans t1.sz (by decide)
    have sz2 : d2.shown.length ≤ sizeLine := Nat.le_trans t2.sz (by decide)
    have dp1 := Nat.le_trans t1.dp (show 3 ≤ 20 by decide)
    have dp2 := Nat.le_trans t2.dp (show 3 ≤ 20 by decide)
    refine ⟨fun σ' H' => σ' = [some (.ref a), some (.int (0 + (i : Int))), some (.ref p), some v1, some v2, some (.ref a5), some (.ref l), y7, y8, y9] ∧ H' = Hf, ?_, fun σ' Hg hM => ?_⟩
    · refine ⟨_, rfl, a5, C 17, _, v2, rfl, x5f, E17.c.f, nv17, rfl, v2, d2, rfl, D2f, t2.sh, t2.nd, dp2, sz2, _, rfl, v2, d2, rfl, D2f, t2.sh, t2.nd, dp2, sz2, ?_⟩
      refine ⟨rfl, false, ne_self _, iteF ?_⟩
      refine ⟨_, rfl, l, ts, rfl, .inl (SqL.of atl), rfl, false, ?_, iteF ⟨rfl, rfl⟩⟩
      rw [lts]
      exact ne_self _
    obtain ⟨rfl, rfl⟩ := hM
    refine ⟨_, rfl, l, ts, rfl, SqL.of atl, for_it walk_enum (fun n σ H' => Same Hg H' ∧ ∃ z1 z2 z3 : Option V, σ = [some (.ref a), some (.int (0 + (i : Int))), some (.ref p), some v1, some v2, some (.ref a5), some (.ref l), z1, z2, z3]) ⟨Same.refl _, _, _, _, rfl⟩ (fun n σ H' _ h => SqL.of (h.1 _ _ atl)) ?_ ?_⟩
    · rintro n v σ Hh Hi hn ⟨sg, z1, z2, z3, rfl⟩ ⟨T', x, y, rfl, nT, rfl, ex, ey⟩
      obtain rfl := Option.some.inj ex
      obtain ⟨hn29, t, ax, fs, rfl, ht, xa⟩ := cls29 R ey
      have sT := same_upd (o := .tup [V.int (n : Int), .ref t]) nT
      have sgT := sg.trans sT
      have htT := sgT _ _ ht
      have xaT := xa.same sgT
      have D1g := dp_same sgT D1f
      refine ⟨T', _, rfl, .inl (.inl upd_same), rfl, _, _, rfl, _, _, rfl, rfl, ?_⟩
      have row0 : ∀ {H1 : Hp} (_ : Same (upd Hh T' (.tup [.int (n : Int), .ref t])) H1), SqT K H1 t [.ref ax, v1] := fun {H1} s1 => SqT.of (s1 _ _ htT)
      have at0 : atI [V.ref ax, v1] 0 = some (.ref ax) := atI_nat (j := 0) rfl
      have at1 : atI [V.ref ax, v1] 1 = some v1 := atI_nat (j := 1) rfl
      have s0 := Same.refl (upd Hh T' (.tup [.int (n : Int), .ref t]))
      refine ⟨fun σ' H' => σ' = [some (.ref a), some (.int (0 + (i : Int))), some (.ref p), some v1, some v2, some (.ref a5), some (.ref l), some (.int (n : Int)), some (.ref t), z3] ∧ Same (upd Hh T' (.tup [.int (n : Int), .ref t])) H', ?_, fun σ' Hj hM => ?_⟩
      · refine ⟨_, rfl, t, _, 1, v1, rfl, rfl, row0 s0, at1, v1, d1, rfl, D1g, t1.sh, t1.nd, dp1, sz1, _, rfl, v1, d1, rfl, D1g, t1.sh, t1.nd, dp1, sz1, rfl, false, ne_self _, iteF ?_⟩
        refine ⟨_, rfl, t, _, 0, _, rfl, rfl, row0 s0, at0, ax, n, fs, rfl, hn29, xaT, fun H1 q1 s1 m1 at2 => ⟨_, rfl, few_ok (by show 1 ≤ 100; decide), fun l2 nl2 => ?_⟩⟩
        have s2 := same_upd (o := .lst [V.int (n : Int)]) nl2
        refine ⟨.list [.int n], .list [.int n], .lst (SqL.of (s2 _ _ at2)) (.cons (.int _) .nil), .lst (SqL.of upd_same) (.cons (.int _) .nil), rfl, rfl, false, ne_list, iteF ⟨rfl, s1.trans s2⟩⟩
      obtain ⟨rfl, sj⟩ := hM
      have xaj := xaT.same sj
      have ek : decide (V.int (n : Int) = V.int (n : Int)) = true := decide_eq_true rfl
      have ed : decide ((n : Int) < 19) = decide (n < 19) := by
        by_cases h : n < 19
        · rw [decide_eq_true h, decide_eq_true (by omega : (n : Int) < 19)]
        · rw [decide_eq_false h, decide_eq_false (by omega : ¬ (n : Int) < 19)]
      have kP := XL.kP n hn29
      have kV := XL.kV n hn29
      have kC := XL.kC n hn29
      have kT := XL.kT n hn29
      have kO := XL.kO n hn29
      refine ⟨fun σ' H' => σ' = [some (.ref a), some (.int (0 + (i : Int))), some (.ref p), some v1, some v2, some (.ref a5), some (.ref l), some (.int (n : Int)), some (.ref t), some (.bl (decide ((n : Int) < 19)))] ∧ H' = Hj, ⟨_, rfl, _, _, rfl, rfl, rfl, rfl⟩, fun σ' H' hM => ?_⟩
      obtain ⟨rfl, eH⟩ := hM
      rw [eH, ed]
      generalize decide (n < 19) = bb at kP kV kC kT
      have XE := X.x n hn29
      refine ⟨fun σ' H' => σ' = [some (.ref a), some (.int (0 + (i : Int))), some (.ref p), some v1, some v2, some (.ref a5), some (.ref l), some (.int (n : Int)), some (.ref t), some (.bl bb)] ∧ H' = Hj, ?_, fun σ' H' hM => ?_⟩
      · refine ⟨_, rfl, t, _, 0, _, rfl, rfl, row0 sj, at0, ax, C n, fs, .ref CP, .ref CP, bb, rfl, xaj, fun _ h => h, XE, kP, _, rfl, rfl, false, ne_self _, iteF ?_⟩
        refine ⟨_, rfl, t, _, 0, _, rfl, rfl, row0 sj, at0, ax, C n, fs, .ty "ValueError", .type "ValueError", bb, rfl, xaj, fun _ h => h, XE, kV, _, rfl, rfl, false, ne_self _, iteF ⟨rfl, rfl⟩⟩
      obtain ⟨rfl, eH⟩ := hM
      rw [eH]
      refine ⟨fun σ' H' => σ' = [some (.ref a), some (.int (0 + (i : Int))), some (.ref p), some v1, some v2, some (.ref a5), some (.ref l), some (.int (n : Int)), some (.ref t), some (.bl bb)] ∧ H' = Hj, ?_, fun σ' H' hM => ?_⟩
      · refine ⟨_, rfl, t, _, 0, _, rfl, rfl, row0 sj, at0, ax, C n, fs, .ref CC, .ref CC, !bb, rfl, xaj, fun _ h => h, XE, kC, _, rfl, rfl, false, eq_not _, iteF ?_⟩
        refine ⟨_, rfl, t, _, 0, _, rfl, rfl, row0 sj, at0, ax, C n, fs, .ty "TypeError", .type "TypeError", !bb, rfl, xaj, fun _ h => h, XE, kT, _, rfl, rfl, false, eq_not _, iteF ⟨rfl, rfl⟩⟩
      obtain ⟨rfl, eH⟩ := hM
      rw [eH]
      refine ⟨_, rfl, t, _, 0, _, rfl, rfl, row0 sj, at0, few_ok (by show 4 ≤ 100; decide), fun tt ntt => ?_⟩
      have st := same_upd (o := .tup [V.ty "KeyError", .ty "IndexError", .ty "LookupError", .ty "OverflowError"]) ntt
      refine ⟨ax, C n, tt, fs, _, _, false, rfl, xaj.same st, upd_same, .cons (.ty _) (.cons (.ty _) (.cons (.ty _) (.cons (.ty _) .nil))), XE, kO, false, rfl, iteF ?_⟩
      exact ⟨sgT.trans (sj.trans st), _, _, _, rfl⟩
    · rintro σ H' ⟨sg, z1, z2, z3, rfl⟩
      exact ⟨sd.trans ((se.trans sf).trans sg), _, _, _, _, _, _, _, _, _, rfl⟩
end
end Dr
namespace Dr
open PySem PySem.Spec PyProof.Rows L2
/-- the k-th of some classes -/
def cfn (l : List Addr) (i : Nat) : Addr := l.getD i 0
def erB (K : PySem.W.Frag) (C g : Addr) (f : Str) (te : Bool) : Bool := Ex.exB K C te && (decide (PySem.W.typeIn K (.ref g) = some (.type "function")) && (decide (PySem.W.findIn K (.ref C) f = some none) && PySem.W.keepIn K (.ref g)))
theorem er_of {K : PySem.W.Frag} {mg : Str → Option Value} {C g : Addr} {x f : Str} {te : Bool} (h : erB K C g f te = true) (i : PySem.W.findIn K (.ref C) "__init__" = some (some (.ref g))) (m : mg x = some (.ref C)) : Er K mg x f C g ∧ PySem.W.keepIn K (.ref g) = true := by
  unfold erB at h
  simp only [Bool.and_eq_true, decide_eq_true_eq] at h
  exact ⟨⟨Ex.exB_ok h.1, i, h.2.1, h.2.2.1, m⟩, h.2.2.2⟩
def kitB (K : PySem.W.Frag) (l : List Addr) : Bool := (List.range 29).all fun i => (List.range 29).all fun j => PySem.W.kitOne K (.ref (cfn l i)) (.ref (cfn l j)) == some (decide (i = j))
theorem kitB_at {K : PySem.W.Frag} {l : List Addr} (h : kitB K l = true) (i j : Nat) (hi : i < 29) (hj : j < 29) : PySem.W.kitOne K (.ref (cfn l i)) (.ref (cfn l j)) = some (decide (i = j)) :=
  eq_of_beq (List.all_eq_true.mp (List.all_eq_true.mp h i (List.mem_range.mpr hi)) j (List.mem_range.mpr hj))
def kitR (K : PySem.W.Frag) (c CP CC : Addr) (i : Nat) : Bool := (PySem.W.kitOne K (.ref c) (.ref CP) == some (decide (i < 19))) && ((PySem.W.kitOne K (.ref c) (.ref CC) == some (!decide (i < 19))) && ((PySem.W.kitOne K (.ref c) (.type "ValueError") == some (decide (i < 19))) &&
  ((PySem.W.kitOne K (.ref c) (.type "TypeError") == some (!decide (i < 19))) && (PySem.W.kitAny K (.ref c) [.type "KeyError", .type "IndexError", .type "LookupError", .type "OverflowError"] == some false))))
def kitL (K : PySem.W.Frag) (l : List Addr) (CP CC : Addr) : Bool := (List.range 29).all fun i => kitR K (cfn l i) CP CC i
theorem kitL_at {K : PySem.W.Frag} {l : List Addr} {CP CC : Addr} (h : kitL K l CP CC = true) (i : Nat) (hi : i < 29) : PySem.W.kitOne K (.ref (cfn l i)) (.ref CP) = some (decide (i < 19)) ∧ PySem.W.kitOne K (.ref (cfn l i)) (.ref CC) = some (!decide (i < 19)) ∧
    PySem.W.kitOne K (.ref (cfn l i)) (.type "ValueError") = some (decide (i < 19)) ∧ PySem.W.kitOne K (.ref (cfn l i)) (.type "TypeError") = some (!decide (i < 19)) ∧ PySem.W.kitAny K (.ref (cfn l i)) [.type "KeyError", .type "IndexError", .type "LookupError", .type "OverflowError"] = some false := by
  have q := List.all_eq_true.mp h i (List.mem_range.mpr hi)
  unfold kitR at q
  simp only [Bool.and_eq_true, beq_iff_eq] at q
  exact q
theorem exc_all {K : PySem.W.Frag} {l : List Addr} (hl : l.length = 29) (h : ∀ c ∈ l, ExcC K c) (i : Nat) (hi : i < 29) : ExcC K (cfn l i) := by
  unfold cfn
  rw [List.getD_eq_getElem?_getD, List.getElem?_eq_getElem (by omega)]
  exact h _ (List.getElem_mem _)
theorem all_mk {l : PySem.W.OpenLaw} {w : World} {K : PySem.W.Frag} {h : Heap} {mg : Str → Option Value} {fa CP CC fbg ftk fth ffi fse fcl flw C0 I0 C1 I1 C2 I2 C3 I3 C4 I4 C5 I5 C6 I6 C7 I7 C8 I8 C9 I9 C10 I10 C11 I11 C12 I12 C13 I13 C14 I14 C15 I15 C16 I16 C17 I17 C18 C19 I19 C20 I20 C21 I21 C22 I22 C23 I23 C24 I24 C25 I25 C26 I26 C27 I27 C28 I28 : Addr} (X : K.In h) (G : h.Ns mainGlobals mg) (hfa : mg "law" = some (.ref fa))
    {odbg anbg odtk antk odth anth odfi anfi odse anse odcl ancl odlw anlw odx0 anx0 odx1 anx1 odx2 anx2 odx3 anx3 odx4 anx4 odx5 anx5 odx6 anx6 odx7 anx7 odx8 anx8 odx9 anx9 odx10 anx10 odx11 anx11 odx12 anx12 odx13 anx13 odx14 anx14 odx15 anx15 odx16 anx16 odx17 anx17 odx19 anx19 odx20 anx20 odx21 anx21 odx22 anx22 odx23 anx23 odx24 anx24 odx25 anx25 odx26 anx26 odx27 anx27 odx28 anx28 : Option Addr} {slbg sltk slth slfi slse slcl sllw slx0 slx1 slx2 slx3 slx4 slx5 slx6 slx7 slx8 slx9 slx10 slx11 slx12 slx13 slx14 slx15 slx16 slx17 slx19 slx20 slx21 slx22 slx23 slx24 slx25 slx26 slx27 slx28 : Array (Option Value)} {ocbg dcbg pmbg cdbg ctbg kVbg octk dctk pmtk cdtk cttk kVtk octh dcth pmth cdth ctth kVth ocfi dcfi pmfi cdfi ctfi kVfi ocse dcse pmse cdse ctse kVse occl dccl pmcl cdcl ctcl kVcl oclw dclw pmlw cdlw ctlw kVlw ocx0 dcx0 pmx0 cdx0 ctx0 kVx0 ocx1 dcx1 pmx1 cdx1 ctx1 kVx1 ocx2 dcx2 pmx2 cdx2 ctx2 kVx2 ocx3 dcx3 pmx3 cdx3 ctx3 kVx3 ocx4 dcx4 pmx4 cdx4 ctx4 kVx4 ocx5 dcx5 pmx5 cdx5 ctx5 kVx5 ocx6 dcx6 pmx6 cdx6 ctx6 kVx6 ocx7 dcx7 pmx7 cdx7 ctx7 kVx7 ocx8 dcx8 pmx8 cdx8 ctx8 kVx8 ocx9 dcx9 pmx9 cdx9 ctx9 kVx9 ocx10 dcx10 pmx10 cdx10 ctx10 kVx10 ocx11 dcx11 pmx11 cdx11 ctx11 kVx11 ocx12 dcx12 pmx12 cdx12 ctx12 kVx12 ocx13 dcx13 pmx13 cdx13 ctx13 kVx13 ocx14 dcx14 pmx14 cdx14 ctx14 kVx14 ocx15 dcx15 pmx15 cdx15 ctx15 kVx15 ocx16 dcx16 pmx16 cdx16 ctx16 kVx16 ocx17 dcx17 pmx17 cdx17 ctx17 kVx17 ocx19 dcx19 pmx19 cdx19 ctx19 kVx19 ocx20 dcx20 pmx20 cdx20 ctx20 kVx20 ocx21 dcx21 pmx21 cdx21 ctx21 kVx21 ocx22 dcx22 pmx22 cdx22 ctx22 kVx22 ocx23 dcx23 pmx23 cdx23 ctx23 kVx23 ocx24 dcx24 pmx24 cdx24 ctx24 kVx24 ocx25 dcx25 pmx25 cdx25 ctx25 kVx25 ocx26 dcx26 pmx26 cdx26 ctx26 kVx26 ocx27 dcx27 pmx27 cdx27 ctx27 kVx27 ocx28 dcx28 pmx28 cdx28 ctx28 kVx28 : Value}
    (abg : PySem.W.nsIn K mainGlobals "_law_bag" = some (some (.ref fbg)))
    (lbg : K.lookup fbg = some ⟨ocbg, odbg, .func (PySem.W.fnOf "_law_bag" "_law_bag" (defArgs sBag) (defBody sBag) (defScope sBag) .none kVbg dcbg pmbg anbg cdbg ctbg), slbg⟩)
    (cbg : PySem.W.codeIn K cdbg "_law_bag" = true)
    (kbg : PySem.W.keepIn K (.ref fbg) = true)
    (atk : PySem.W.nsIn K mainGlobals "_law_take" = some (some (.ref ftk)))
    (ltk : K.lookup ftk = some ⟨octk, odtk, .func (PySem.W.fnOf "_law_take" "_law_take" (defArgs sTake) (defBody sTake) (defScope sTake) .none kVtk dctk pmtk antk cdtk cttk), sltk⟩)
    (ctk : PySem.W.codeIn K cdtk "_law_take" = true)
    (ktk : PySem.W.keepIn K (.ref ftk) = true)
    (ath : PySem.W.nsIn K mainGlobals "_law_thing" = some (some (.ref fth)))
    (lth : K.lookup fth = some ⟨octh, odth, .func (PySem.W.fnOf "_law_thing" "_law_thing" (defArgs sThing) (defBody sThing) (defScope sThing) .none kVth dcth pmth anth cdth ctth), slth⟩)
    (cth : PySem.W.codeIn K cdth "_law_thing" = true)
    (kth : PySem.W.keepIn K (.ref fth) = true)
    (afi : PySem.W.nsIn K mainGlobals "_law_first" = some (some (.ref ffi)))
    (lfi : K.lookup ffi = some ⟨ocfi, odfi, .func (PySem.W.fnOf "_law_first" "_law_first" (defArgs sFirst) (defBody sFirst) (defScope sFirst) .none kVfi dcfi pmfi anfi cdfi ctfi), slfi⟩)
    (cfi : PySem.W.codeIn K cdfi "_law_first" = true)
    (kfi : PySem.W.keepIn K (.ref ffi) = true)
    (ase : PySem.W.nsIn K mainGlobals "_law_second" = some (some (.ref fse)))
    (lse : K.lookup fse = some ⟨ocse, odse, .func (PySem.W.fnOf "_law_second" "_law_second" (defArgs sSecond) (defBody sSecond) (defScope sSecond) .none kVse dcse pmse anse cdse ctse), slse⟩)
    (cse : PySem.W.codeIn K cdse "_law_second" = true)
    (kse : PySem.W.keepIn K (.ref fse) = true)
    (acl : PySem.W.nsIn K mainGlobals "_law_classes" = some (some (.ref fcl)))
    (lcl : K.lookup fcl = some ⟨occl, odcl, .func (PySem.W.fnOf "_law_classes" "_law_classes" (defArgs sClasses) (defBody sClasses) (defScope sClasses) .none kVcl dccl pmcl ancl cdcl ctcl), slcl⟩)
    (ccl : PySem.W.codeIn K cdcl "_law_classes" = true)
    (kcl : PySem.W.keepIn K (.ref fcl) = true)
    (alw : PySem.W.nsIn K mainGlobals "law" = some (some (.ref flw)))
    (llw : K.lookup flw = some ⟨oclw, odlw, .func (PySem.W.fnOf "law" "law" (defArgs sLaw) (defBody sLaw) (defScope sLaw) .none kVlw dclw pmlw anlw cdlw ctlw), sllw⟩)
    (clw : PySem.W.codeIn K cdlw "law" = true)
    (klw : PySem.W.keepIn K (.ref flw) = true)
    (yg0 : PySem.W.nsIn K mainGlobals "BadName" = some (some (.ref C0)))
    (yi0 : PySem.W.findIn K (.ref C0) "__init__" = some (some (.ref I0)))
    (yl0 : K.lookup I0 = some ⟨ocx0, odx0, .func (PySem.W.fnOf "__init__" "BadName.__init__" (defArgs sIBadName) (defBody sIBadName) (defScope sIBadName) .none kVx0 dcx0 pmx0 anx0 cdx0 ctx0), slx0⟩)
    (yc0 : PySem.W.codeIn K cdx0 "BadName.__init__" = true)
    (yb0 : erB K C0 I0 "name" false = true)
    (yg1 : PySem.W.nsIn K mainGlobals "BadParam" = some (some (.ref C1)))
    (yi1 : PySem.W.findIn K (.ref C1) "__init__" = some (some (.ref I1)))
    (yl1 : K.lookup I1 = some ⟨ocx1, odx1, .func (PySem.W.fnOf "__init__" "BadParam.__init__" (defArgs sIBadParam) (defBody sIBadParam) (defScope sIBadParam) .none kVx1 dcx1 pmx1 anx1 cdx1 ctx1), slx1⟩)
    (yc1 : PySem.W.codeIn K cdx1 "BadParam.__init__" = true)
    (yb1 : erB K C1 I1 "part" false = true)
    (yg2 : PySem.W.nsIn K mainGlobals "BadRow" = some (some (.ref C2)))
    (yi2 : PySem.W.findIn K (.ref C2) "__init__" = some (some (.ref I2)))
    (yl2 : K.lookup I2 = some ⟨ocx2, odx2, .func (PySem.W.fnOf "__init__" "BadRow.__init__" (defArgs sIBadRow) (defBody sIBadRow) (defScope sIBadRow) .none kVx2 dcx2 pmx2 anx2 cdx2 ctx2), slx2⟩)
    (yc2 : PySem.W.codeIn K cdx2 "BadRow.__init__" = true)
    (yb2 : erB K C2 I2 "at" false = true)
    (yg3 : PySem.W.nsIn K mainGlobals "BadValue" = some (some (.ref C3)))
    (yi3 : PySem.W.findIn K (.ref C3) "__init__" = some (some (.ref I3)))
    (yl3 : K.lookup I3 = some ⟨ocx3, odx3, .func (PySem.W.fnOf "__init__" "BadValue.__init__" (defArgs sIBadValue) (defBody sIBadValue) (defScope sIBadValue) .none kVx3 dcx3 pmx3 anx3 cdx3 ctx3), slx3⟩)
    (yc3 : PySem.W.codeIn K cdx3 "BadValue.__init__" = true)
    (yb3 : erB K C3 I3 "at" false = true)
    (yg4 : PySem.W.nsIn K mainGlobals "BadMarks" = some (some (.ref C4)))
    (yi4 : PySem.W.findIn K (.ref C4) "__init__" = some (some (.ref I4)))
    (yl4 : K.lookup I4 = some ⟨ocx4, odx4, .func (PySem.W.fnOf "__init__" "BadMarks.__init__" (defArgs sIBadMarks) (defBody sIBadMarks) (defScope sIBadMarks) .none kVx4 dcx4 pmx4 anx4 cdx4 ctx4), slx4⟩)
    (yc4 : PySem.W.codeIn K cdx4 "BadMarks.__init__" = true)
    (yb4 : erB K C4 I4 "marks" false = true)
    (yg5 : PySem.W.nsIn K mainGlobals "BadOrder" = some (some (.ref C5)))
    (yi5 : PySem.W.findIn K (.ref C5) "__init__" = some (some (.ref I5)))
    (yl5 : K.lookup I5 = some ⟨ocx5, odx5, .func (PySem.W.fnOf "__init__" "BadOrder.__init__" (defArgs sIBadOrder) (defBody sIBadOrder) (defScope sIBadOrder) .none kVx5 dcx5 pmx5 anx5 cdx5 ctx5), slx5⟩)
    (yc5 : PySem.W.codeIn K cdx5 "BadOrder.__init__" = true)
    (yb5 : erB K C5 I5 "name" false = true)
    (yg6 : PySem.W.nsIn K mainGlobals "Twice" = some (some (.ref C6)))
    (yi6 : PySem.W.findIn K (.ref C6) "__init__" = some (some (.ref I6)))
    (yl6 : K.lookup I6 = some ⟨ocx6, odx6, .func (PySem.W.fnOf "__init__" "Twice.__init__" (defArgs sITwice) (defBody sITwice) (defScope sITwice) .none kVx6 dcx6 pmx6 anx6 cdx6 ctx6), slx6⟩)
    (yc6 : PySem.W.codeIn K cdx6 "Twice.__init__" = true)
    (yb6 : erB K C6 I6 "name" false = true)
    (yg7 : PySem.W.nsIn K mainGlobals "Clash" = some (some (.ref C7)))
    (yi7 : PySem.W.findIn K (.ref C7) "__init__" = some (some (.ref I7)))
    (yl7 : K.lookup I7 = some ⟨ocx7, odx7, .func (PySem.W.fnOf "__init__" "Clash.__init__" (defArgs sIClash) (defBody sIClash) (defScope sIClash) .none kVx7 dcx7 pmx7 anx7 cdx7 ctx7), slx7⟩)
    (yc7 : PySem.W.codeIn K cdx7 "Clash.__init__" = true)
    (yb7 : erB K C7 I7 "name" false = true)
    (yg8 : PySem.W.nsIn K mainGlobals "NoBase" = some (some (.ref C8)))
    (yi8 : PySem.W.findIn K (.ref C8) "__init__" = some (some (.ref I8)))
    (yl8 : K.lookup I8 = some ⟨ocx8, odx8, .func (PySem.W.fnOf "__init__" "NoBase.__init__" (defArgs sINoBase) (defBody sINoBase) (defScope sINoBase) .none kVx8 dcx8 pmx8 anx8 cdx8 ctx8), slx8⟩)
    (yc8 : PySem.W.codeIn K cdx8 "NoBase.__init__" = true)
    (yb8 : erB K C8 I8 "base" false = true)
    (yg9 : PySem.W.nsIn K mainGlobals "NoMark" = some (some (.ref C9)))
    (yi9 : PySem.W.findIn K (.ref C9) "__init__" = some (some (.ref I9)))
    (yl9 : K.lookup I9 = some ⟨ocx9, odx9, .func (PySem.W.fnOf "__init__" "NoMark.__init__" (defArgs sINoMark) (defBody sINoMark) (defScope sINoMark) .none kVx9 dcx9 pmx9 anx9 cdx9 ctx9), slx9⟩)
    (yc9 : PySem.W.codeIn K cdx9 "NoMark.__init__" = true)
    (yb9 : erB K C9 I9 "mark" false = true)
    (yg10 : PySem.W.nsIn K mainGlobals "NoDefault" = some (some (.ref C10)))
    (yi10 : PySem.W.findIn K (.ref C10) "__init__" = some (some (.ref I10)))
    (yl10 : K.lookup I10 = some ⟨ocx10, odx10, .func (PySem.W.fnOf "__init__" "NoDefault.__init__" (defArgs sINoDefault) (defBody sINoDefault) (defScope sINoDefault) .none kVx10 dcx10 pmx10 anx10 cdx10 ctx10), slx10⟩)
    (yc10 : PySem.W.codeIn K cdx10 "NoDefault.__init__" = true)
    (yb10 : erB K C10 I10 "place" false = true)
    (yg11 : PySem.W.nsIn K mainGlobals "BadText" = some (some (.ref C11)))
    (yi11 : PySem.W.findIn K (.ref C11) "__init__" = some (some (.ref I11)))
    (yl11 : K.lookup I11 = some ⟨ocx11, odx11, .func (PySem.W.fnOf "__init__" "BadText.__init__" (defArgs sIBadText) (defBody sIBadText) (defScope sIBadText) .none kVx11 dcx11 pmx11 anx11 cdx11 ctx11), slx11⟩)
    (yc11 : PySem.W.codeIn K cdx11 "BadText.__init__" = true)
    (yb11 : erB K C11 I11 "at" false = true)
    (yg12 : PySem.W.nsIn K mainGlobals "BadHistory" = some (some (.ref C12)))
    (yi12 : PySem.W.findIn K (.ref C12) "__init__" = some (some (.ref I12)))
    (yl12 : K.lookup I12 = some ⟨ocx12, odx12, .func (PySem.W.fnOf "__init__" "BadHistory.__init__" (defArgs sIBadHistory) (defBody sIBadHistory) (defScope sIBadHistory) .none kVx12 dcx12 pmx12 anx12 cdx12 ctx12), slx12⟩)
    (yc12 : PySem.W.codeIn K cdx12 "BadHistory.__init__" = true)
    (yb12 : erB K C12 I12 "at" false = true)
    (yg13 : PySem.W.nsIn K mainGlobals "BadCallers" = some (some (.ref C13)))
    (yi13 : PySem.W.findIn K (.ref C13) "__init__" = some (some (.ref I13)))
    (yl13 : K.lookup I13 = some ⟨ocx13, odx13, .func (PySem.W.fnOf "__init__" "BadCallers.__init__" (defArgs sIBadCallers) (defBody sIBadCallers) (defScope sIBadCallers) .none kVx13 dcx13 pmx13 anx13 cdx13 ctx13), slx13⟩)
    (yc13 : PySem.W.codeIn K cdx13 "BadCallers.__init__" = true)
    (yb13 : erB K C13 I13 "part" false = true)
    (yg14 : PySem.W.nsIn K mainGlobals "BadWorld" = some (some (.ref C14)))
    (yi14 : PySem.W.findIn K (.ref C14) "__init__" = some (some (.ref I14)))
    (yl14 : K.lookup I14 = some ⟨ocx14, odx14, .func (PySem.W.fnOf "__init__" "BadWorld.__init__" (defArgs sIBadWorld) (defBody sIBadWorld) (defScope sIBadWorld) .none kVx14 dcx14 pmx14 anx14 cdx14 ctx14), slx14⟩)
    (yc14 : PySem.W.codeIn K cdx14 "BadWorld.__init__" = true)
    (yb14 : erB K C14 I14 "given" false = true)
    (yg15 : PySem.W.nsIn K mainGlobals "NoWorld" = some (some (.ref C15)))
    (yi15 : PySem.W.findIn K (.ref C15) "__init__" = some (some (.ref I15)))
    (yl15 : K.lookup I15 = some ⟨ocx15, odx15, .func (PySem.W.fnOf "__init__" "NoWorld.__init__" (defArgs sINoWorld) (defBody sINoWorld) (defScope sINoWorld) .none kVx15 dcx15 pmx15 anx15 cdx15 ctx15), slx15⟩)
    (yc15 : PySem.W.codeIn K cdx15 "NoWorld.__init__" = true)
    (yb15 : erB K C15 I15 "index" false = true)
    (yg16 : PySem.W.nsIn K mainGlobals "TooMany" = some (some (.ref C16)))
    (yi16 : PySem.W.findIn K (.ref C16) "__init__" = some (some (.ref I16)))
    (yl16 : K.lookup I16 = some ⟨ocx16, odx16, .func (PySem.W.fnOf "__init__" "TooMany.__init__" (defArgs sITooMany) (defBody sITooMany) (defScope sITooMany) .none kVx16 dcx16 pmx16 anx16 cdx16 ctx16), slx16⟩)
    (yc16 : PySem.W.codeIn K cdx16 "TooMany.__init__" = true)
    (yb16 : erB K C16 I16 "what" false = true)
    (yg17 : PySem.W.nsIn K mainGlobals "NoValue" = some (some (.ref C17)))
    (yi17 : PySem.W.findIn K (.ref C17) "__init__" = some (some (.ref I17)))
    (yl17 : K.lookup I17 = some ⟨ocx17, odx17, .func (PySem.W.fnOf "__init__" "NoValue.__init__" (defArgs sINoValue) (defBody sINoValue) (defScope sINoValue) .none kVx17 dcx17 pmx17 anx17 cdx17 ctx17), slx17⟩)
    (yc17 : PySem.W.codeIn K cdx17 "NoValue.__init__" = true)
    (yb17 : erB K C17 I17 "owner" false = true)
    (yg18 : PySem.W.nsIn K mainGlobals "UnlikeFaces" = some (some (.ref C18)))
    (yb18 : Ex.exB K C18 false = true)
    (yg19 : PySem.W.nsIn K mainGlobals "BadStep" = some (some (.ref C19)))
    (yi19 : PySem.W.findIn K (.ref C19) "__init__" = some (some (.ref I19)))
    (yl19 : K.lookup I19 = some ⟨ocx19, odx19, .func (PySem.W.fnOf "__init__" "BadStep.__init__" (defArgs sIBadStep) (defBody sIBadStep) (defScope sIBadStep) .none kVx19 dcx19 pmx19 anx19 cdx19 ctx19), slx19⟩)
    (yc19 : PySem.W.codeIn K cdx19 "BadStep.__init__" = true)
    (yb19 : erB K C19 I19 "given" true = true)
    (yg20 : PySem.W.nsIn K mainGlobals "NoKind" = some (some (.ref C20)))
    (yi20 : PySem.W.findIn K (.ref C20) "__init__" = some (some (.ref I20)))
    (yl20 : K.lookup I20 = some ⟨ocx20, odx20, .func (PySem.W.fnOf "__init__" "NoKind.__init__" (defArgs sINoKind) (defBody sINoKind) (defScope sINoKind) .none kVx20 dcx20 pmx20 anx20 cdx20 ctx20), slx20⟩)
    (yc20 : PySem.W.codeIn K cdx20 "NoKind.__init__" = true)
    (yb20 : erB K C20 I20 "kind" true = true)
    (yg21 : PySem.W.nsIn K mainGlobals "NoMethod" = some (some (.ref C21)))
    (yi21 : PySem.W.findIn K (.ref C21) "__init__" = some (some (.ref I21)))
    (yl21 : K.lookup I21 = some ⟨ocx21, odx21, .func (PySem.W.fnOf "__init__" "NoMethod.__init__" (defArgs sINoMethod) (defBody sINoMethod) (defScope sINoMethod) .none kVx21 dcx21 pmx21 anx21 cdx21 ctx21), slx21⟩)
    (yc21 : PySem.W.codeIn K cdx21 "NoMethod.__init__" = true)
    (yb21 : erB K C21 I21 "name" true = true)
    (yg22 : PySem.W.nsIn K mainGlobals "TooManyArguments" = some (some (.ref C22)))
    (yi22 : PySem.W.findIn K (.ref C22) "__init__" = some (some (.ref I22)))
    (yl22 : K.lookup I22 = some ⟨ocx22, odx22, .func (PySem.W.fnOf "__init__" "TooManyArguments.__init__" (defArgs sITooManyArguments) (defBody sITooManyArguments) (defScope sITooManyArguments) .none kVx22 dcx22 pmx22 anx22 cdx22 ctx22), slx22⟩)
    (yc22 : PySem.W.codeIn K cdx22 "TooManyArguments.__init__" = true)
    (yb22 : erB K C22 I22 "count" true = true)
    (yg23 : PySem.W.nsIn K mainGlobals "NoOption" = some (some (.ref C23)))
    (yi23 : PySem.W.findIn K (.ref C23) "__init__" = some (some (.ref I23)))
    (yl23 : K.lookup I23 = some ⟨ocx23, odx23, .func (PySem.W.fnOf "__init__" "NoOption.__init__" (defArgs sINoOption) (defBody sINoOption) (defScope sINoOption) .none kVx23 dcx23 pmx23 anx23 cdx23 ctx23), slx23⟩)
    (yc23 : PySem.W.codeIn K cdx23 "NoOption.__init__" = true)
    (yb23 : erB K C23 I23 "name" true = true)
    (yg24 : PySem.W.nsIn K mainGlobals "GivenTwice" = some (some (.ref C24)))
    (yi24 : PySem.W.findIn K (.ref C24) "__init__" = some (some (.ref I24)))
    (yl24 : K.lookup I24 = some ⟨ocx24, odx24, .func (PySem.W.fnOf "__init__" "GivenTwice.__init__" (defArgs sIGivenTwice) (defBody sIGivenTwice) (defScope sIGivenTwice) .none kVx24 dcx24 pmx24 anx24 cdx24 ctx24), slx24⟩)
    (yc24 : PySem.W.codeIn K cdx24 "GivenTwice.__init__" = true)
    (yb24 : erB K C24 I24 "name" true = true)
    (yg25 : PySem.W.nsIn K mainGlobals "Missing" = some (some (.ref C25)))
    (yi25 : PySem.W.findIn K (.ref C25) "__init__" = some (some (.ref I25)))
    (yl25 : K.lookup I25 = some ⟨ocx25, odx25, .func (PySem.W.fnOf "__init__" "Missing.__init__" (defArgs sIMissing) (defBody sIMissing) (defScope sIMissing) .none kVx25 dcx25 pmx25 anx25 cdx25 ctx25), slx25⟩)
    (yc25 : PySem.W.codeIn K cdx25 "Missing.__init__" = true)
    (yb25 : erB K C25 I25 "name" true = true)
    (yg26 : PySem.W.nsIn K mainGlobals "BadArgument" = some (some (.ref C26)))
    (yi26 : PySem.W.findIn K (.ref C26) "__init__" = some (some (.ref I26)))
    (yl26 : K.lookup I26 = some ⟨ocx26, odx26, .func (PySem.W.fnOf "__init__" "BadArgument.__init__" (defArgs sIBadArgument) (defBody sIBadArgument) (defScope sIBadArgument) .none kVx26 dcx26 pmx26 anx26 cdx26 ctx26), slx26⟩)
    (yc26 : PySem.W.codeIn K cdx26 "BadArgument.__init__" = true)
    (yb26 : erB K C26 I26 "name" true = true)
    (yg27 : PySem.W.nsIn K mainGlobals "NoBox" = some (some (.ref C27)))
    (yi27 : PySem.W.findIn K (.ref C27) "__init__" = some (some (.ref I27)))
    (yl27 : K.lookup I27 = some ⟨ocx27, odx27, .func (PySem.W.fnOf "__init__" "NoBox.__init__" (defArgs sINoBox) (defBody sINoBox) (defScope sINoBox) .none kVx27 dcx27 pmx27 anx27 cdx27 ctx27), slx27⟩)
    (yc27 : PySem.W.codeIn K cdx27 "NoBox.__init__" = true)
    (yb27 : erB K C27 I27 "k" true = true)
    (yg28 : PySem.W.nsIn K mainGlobals "BadMark" = some (some (.ref C28)))
    (yi28 : PySem.W.findIn K (.ref C28) "__init__" = some (some (.ref I28)))
    (yl28 : K.lookup I28 = some ⟨ocx28, odx28, .func (PySem.W.fnOf "__init__" "BadMark.__init__" (defArgs sIBadMark) (defBody sIBadMark) (defScope sIBadMark) .none kVx28 dcx28 pmx28 anx28 cdx28 ctx28), slx28⟩)
    (yc28 : PySem.W.codeIn K cdx28 "BadMark.__init__" = true)
    (yb28 : erB K C28 I28 "mark" true = true)
    (ynv : PySem.W.findIn K (.ref C17) "value" = some none)
    (yq18 : PySem.W.excIn K C18 Ex.mroVE "ValueError.__new__" = true)
    (yk18 : PySem.W.keepIn K (.ref C18) = true)
    (ygP : PySem.W.nsIn K mainGlobals "PartError" = some (some (.ref CP)))
    (ygC : PySem.W.nsIn K mainGlobals "CallError" = some (some (.ref CC)))
    (ykit : kitB K [C0, C1, C2, C3, C4, C5, C6, C7, C8, C9, C10, C11, C12, C13, C14, C15, C16, C17, C18, C19, C20, C21, C22, C23, C24, C25, C26, C27, C28] = true)
    (ykil : kitL K [C0, C1, C2, C3, C4, C5, C6, C7, C8, C9, C10, C11, C12, C13, C14, C15, C16, C17, C18, C19, C20, C21, C22, C23, C24, C25, C26, C27, C28] CP CC = true)
    (z_len : PySem.W.nsIn K mainGlobals "len" = some none)
    (z_int : PySem.W.nsIn K mainGlobals "int" = some none)
    (z_abs : PySem.W.nsIn K mainGlobals "abs" = some none)
    (z_enumerate : PySem.W.nsIn K mainGlobals "enumerate" = some none)
    (z_range : PySem.W.nsIn K mainGlobals "range" = some none)
    (z_tuple : PySem.W.nsIn K mainGlobals "tuple" = some none)
    (z_isinstance : PySem.W.nsIn K mainGlobals "isinstance" = some none)
    (z_repr : PySem.W.nsIn K mainGlobals "repr" = some none)
    (z_max : PySem.W.nsIn K mainGlobals "max" = some none)
    (z_min : PySem.W.nsIn K mainGlobals "min" = some none)
    (z_ValueError : PySem.W.nsIn K mainGlobals "ValueError" = some none)
    (z_TypeError : PySem.W.nsIn K mainGlobals "TypeError" = some none)
    (z_KeyError : PySem.W.nsIn K mainGlobals "KeyError" = some none)
    (z_IndexError : PySem.W.nsIn K mainGlobals "IndexError" = some none)
    (z_LookupError : PySem.W.nsIn K mainGlobals "LookupError" = some none)
    (z_OverflowError : PySem.W.nsIn K mainGlobals "OverflowError" = some none) :
    ∃ fd : FuncData, (∀ (s : Shared) (v : Value), BindsTo s fd ⟨[v], []⟩ [("_law_script", v)]) ∧ ∀ base : Heap, K.In base → base.Ns mainGlobals mg → Gd.FnG l.prog w K mg base CX0 6 fa fd ["_law_script"] (spLaw K) := by
  have e := hfa.symm.trans (PySem.W.mg_of X G alw)
  cases e
  have g : ∀ {n : Str} {v : Value}, PySem.W.nsIn K mainGlobals n = some (some v) → mg n = some v := fun h => PySem.W.mg_of X G h
  have z : ∀ {n : Str}, PySem.W.nsIn K mainGlobals n = some none → mg n = none := fun h => PySem.W.mg_none_of X G h
  have Fbg := fun_mk (st := sBag) lbg cbg kbg
  have bbg := Fbg.binds (ps := ["_law_script", "_law_at"]) fun _ _ _ _ _ _ us hl => match us, hl with | [_, _], _ => rfl
  have Ftk := fun_mk (st := sTake) ltk ctk ktk
  have btk := Ftk.binds (ps := ["_law_bag_here", "_law_many"]) fun _ _ _ _ _ _ us hl => match us, hl with | [_, _], _ => rfl
  have Fth := fun_mk (st := sThing) lth cth kth
  have bth := Fth.binds (ps := ["_law_bag_here", "_law_depth"]) fun _ _ _ _ _ _ us hl => match us, hl with | [_, _], _ => rfl
  have Ffi := fun_mk (st := sFirst) lfi cfi kfi
  have bfi := Ffi.binds (ps := ["_law_one"]) fun _ _ _ _ _ _ us hl => match us, hl with | [_], _ => rfl
  have Fse := fun_mk (st := sSecond) lse cse kse
  have bse := Fse.binds (ps := ["_law_one"]) fun _ _ _ _ _ _ us hl => match us, hl with | [_], _ => rfl
  have Fcl := fun_mk (st := sClasses) lcl ccl kcl
  have bcl := Fcl.binds (ps := ["_law_e"]) fun _ _ _ _ _ _ us hl => match us, hl with | [_], _ => rfl
  have Flw := fun_mk (st := sLaw) llw clw klw
  have E0 := er_of yb0 yi0 (g yg0)
  have FX0 := fun_mk (st := sIBadName) yl0 yc0 E0.2
  have E1 := er_of yb1 yi1 (g yg1)
  have FX1 := fun_mk (st := sIBadParam) yl1 yc1 E1.2
  have E2 := er_of yb2 yi2 (g yg2)
  have FX2 := fun_mk (st := sIBadRow) yl2 yc2 E2.2
  have E3 := er_of yb3 yi3 (g yg3)
  have FX3 := fun_mk (st := sIBadValue) yl3 yc3 E3.2
  have E4 := er_of yb4 yi4 (g yg4)
  have FX4 := fun_mk (st := sIBadMarks) yl4 yc4 E4.2
  have E5 := er_of yb5 yi5 (g yg5)
  have FX5 := fun_mk (st := sIBadOrder) yl5 yc5 E5.2
  have E6 := er_of yb6 yi6 (g yg6)
  have FX6 := fun_mk (st := sITwice) yl6 yc6 E6.2
  have E7 := er_of yb7 yi7 (g yg7)
  have FX7 := fun_mk (st := sIClash) yl7 yc7 E7.2
  have E8 := er_of yb8 yi8 (g yg8)
  have FX8 := fun_mk (st := sINoBase) yl8 yc8 E8.2
  have E9 := er_of yb9 yi9 (g yg9)
  have FX9 := fun_mk (st := sINoMark) yl9 yc9 E9.2
  have E10 := er_of yb10 yi10 (g yg10)
  have FX10 := fun_mk (st := sINoDefault) yl10 yc10 E10.2
  have E11 := er_of yb11 yi11 (g yg11)
  have FX11 := fun_mk (st := sIBadText) yl11 yc11 E11.2
  have E12 := er_of yb12 yi12 (g yg12)
  have FX12 := fun_mk (st := sIBadHistory) yl12 yc12 E12.2
  have E13 := er_of yb13 yi13 (g yg13)
  have FX13 := fun_mk (st := sIBadCallers) yl13 yc13 E13.2
  have E14 := er_of yb14 yi14 (g yg14)
  have FX14 := fun_mk (st := sIBadWorld) yl14 yc14 E14.2
  have E15 := er_of yb15 yi15 (g yg15)
  have FX15 := fun_mk (st := sINoWorld) yl15 yc15 E15.2
  have E16 := er_of yb16 yi16 (g yg16)
  have FX16 := fun_mk (st := sITooMany) yl16 yc16 E16.2
  have E17 := er_of yb17 yi17 (g yg17)
  have FX17 := fun_mk (st := sINoValue) yl17 yc17 E17.2
  have X18 := Ex.exB_ok yb18
  have E19 := er_of yb19 yi19 (g yg19)
  have FX19 := fun_mk (st := sIBadStep) yl19 yc19 E19.2
  have E20 := er_of yb20 yi20 (g yg20)
  have FX20 := fun_mk (st := sINoKind) yl20 yc20 E20.2
  have E21 := er_of yb21 yi21 (g yg21)
  have FX21 := fun_mk (st := sINoMethod) yl21 yc21 E21.2
  have E22 := er_of yb22 yi22 (g yg22)
  have FX22 := fun_mk (st := sITooManyArguments) yl22 yc22 E22.2
  have E23 := er_of yb23 yi23 (g yg23)
  have FX23 := fun_mk (st := sINoOption) yl23 yc23 E23.2
  have E24 := er_of yb24 yi24 (g yg24)
  have FX24 := fun_mk (st := sIGivenTwice) yl24 yc24 E24.2
  have E25 := er_of yb25 yi25 (g yg25)
  have FX25 := fun_mk (st := sIMissing) yl25 yc25 E25.2
  have E26 := er_of yb26 yi26 (g yg26)
  have FX26 := fun_mk (st := sIBadArgument) yl26 yc26 E26.2
  have E27 := er_of yb27 yi27 (g yg27)
  have FX27 := fun_mk (st := sINoBox) yl27 yc27 E27.2
  have E28 := er_of yb28 yi28 (g yg28)
  have FX28 := fun_mk (st := sIBadMark) yl28 yc28 E28.2
  let C : Nat → Addr := cfn [C0, C1, C2, C3, C4, C5, C6, C7, C8, C9, C10, C11, C12, C13, C14, C15, C16, C17, C18, C19, C20, C21, C22, C23, C24, C25, C26, C27, C28]
  have XX : Cls29 K mg C := ⟨exc_all (l := [C0, C1, C2, C3, C4, C5, C6, C7, C8, C9, C10, C11, C12, C13, C14, C15, C16, C17, C18, C19, C20, C21, C22, C23, C24, C25, C26, C27, C28]) rfl (List.forall_mem_cons.mpr ⟨E0.1.c.x, List.forall_mem_cons.mpr ⟨E1.1.c.x, List.forall_mem_cons.mpr ⟨E2.1.c.x, List.forall_mem_cons.mpr ⟨E3.1.c.x, List.forall_mem_cons.mpr ⟨E4.1.c.x, List.forall_mem_cons.mpr ⟨E5.1.c.x, List.forall_mem_cons.mpr ⟨E6.1.c.x, List.forall_mem_cons.mpr ⟨E7.1.c.x, List.forall_mem_cons.mpr ⟨E8.1.c.x, List.forall_mem_cons.mpr ⟨E9.1.c.x, List.forall_mem_cons.mpr ⟨E10.1.c.x, List.forall_mem_cons.mpr ⟨E11.1.c.x, List.forall_mem_cons.mpr ⟨E12.1.c.x, List.forall_mem_cons.mpr ⟨E13.1.c.x, List.forall_mem_cons.mpr ⟨E14.1.c.x, List.forall_mem_cons.mpr ⟨E15.1.c.x, List.forall_mem_cons.mpr ⟨E16.1.c.x, List.forall_mem_cons.mpr ⟨E17.1.c.x, List.forall_mem_cons.mpr ⟨X18.x, List.forall_mem_cons.mpr ⟨E19.1.c.x, List.forall_mem_cons.mpr ⟨E20.1.c.x, List.forall_mem_cons.mpr ⟨E21.1.c.x, List.forall_mem_cons.mpr ⟨E22.1.c.x, List.forall_mem_cons.mpr ⟨E23.1.c.x, List.forall_mem_cons.mpr ⟨E24.1.c.x, List.forall_mem_cons.mpr ⟨E25.1.c.x, List.forall_mem_cons.mpr ⟨E26.1.c.x, List.forall_mem_cons.mpr ⟨E27.1.c.x, List.forall_mem_cons.mpr ⟨E28.1.c.x, List.forall_mem_nil _⟩⟩⟩⟩⟩⟩⟩⟩⟩⟩⟩⟩⟩⟩⟩⟩⟩⟩⟩⟩⟩⟩⟩⟩⟩⟩⟩⟩⟩), kitB_at ykit, g yg0, g yg1, g yg2, g yg3, g yg4, g yg5, g yg6, g yg7, g yg8, g yg9, g yg10, g yg11, g yg12, g yg13, g yg14, g yg15, g yg16, g yg17, g yg18, g yg19, g yg20, g yg21, g yg22, g yg23, g yg24, g yg25, g yg26, g yg27, g yg28⟩
  have XL : ClsL K mg C CP CC := ⟨g ygP, g ygC, fun i hi => (kitL_at ykil i hi).1, fun i hi => (kitL_at ykil i hi).2.1, fun i hi => (kitL_at ykil i hi).2.2.1, fun i hi => (kitL_at ykil i hi).2.2.2.1, fun i hi => (kitL_at ykil i hi).2.2.2.2⟩
  have B : Blt mg := ⟨z z_len, z z_int, z z_abs, z z_enumerate⟩
  have BT : BltT mg := ⟨z z_range, z z_tuple⟩
  have BC : BltC mg := ⟨z z_isinstance, z z_enumerate⟩
  have BL : BltL mg := ⟨z z_repr, z z_max, z z_min, z z_ValueError, z z_TypeError, z z_KeyError, z z_IndexError, z z_LookupError, z z_OverflowError⟩
  refine ⟨PySem.W.fnOf "law" "law" (defArgs sLaw) (defBody sLaw) (defScope sLaw) .none kVlw dclw pmlw anlw cdlw ctlw, fun s v => .of_eq rfl, fun base _ _ => ?_⟩
  have T : Es l.prog w K mg base C := ⟨mkBadName E0.1 FX0, mkBadParam E1.1 FX1, mkBadRow E2.1 FX2, mkBadValue E3.1 FX3, mkBadMarks E4.1 FX4, mkBadOrder E5.1 FX5, mkTwice E6.1 FX6, mkClash E7.1 FX7, mkNoBase E8.1 FX8, mkNoMark E9.1 FX9, mkNoDefault E10.1 FX10, mkBadText E11.1 FX11, mkBadHistory E12.1 FX12, mkBadCallers E13.1 FX13, mkBadWorld E14.1 FX14, mkNoWorld E15.1 FX15, mkTooMany E16.1 FX16, mkBadStep E19.1 FX19, mkNoKind E20.1 FX20, mkNoMethod E21.1 FX21, mkTooManyArguments E22.1 FX22, mkNoOption E23.1 FX23, mkGivenTwice E24.1 FX24, mkMissing E25.1 FX25, mkBadArgument E26.1 FX26, mkNoBox E27.1 FX27, mkBadMark E28.1 FX28⟩
  have Gbg := ok_bag (P := l.prog) (w := w) (base := base) Fbg B
  have Gtk := ok_take (P := l.prog) (w := w) (base := base) Ftk B
  have Gth := ok_thing Fth BT (g ath) bth Gtk (g atk) ktk btk 3
  have Gfi := ok_first Ffi T
  have Gse := ok_second Fse T
  have Gcl := ok_classes (P := l.prog) (w := w) (base := base) Fcl BC XX
  exact ok_law Flw B BT BC BL XX XL E17.1 ynv FX17 F.excBase_ValueError yq18 yk18 Gbg (g abg) kbg bbg Gth (g ath) kth bth Gfi (g afi) kfi bfi Gse (g ase) kse bse Gcl (g acl) kcl bcl
theorem walk {l : PySem.W.OpenLaw} {q : Program} {loose : List Str} {XP : (Str → Option Value) → Heap → Prop} {YP : World → Heap → Prop} {d : DefRec} {K : Params → PySem.W.Frag} (hn : l.most = some 63) (hdf : d.params.defaults = [])
    (hY : ∀ (w : World) (h : Heap), YP w h → (K w.params).In h)
    (F : ∀ (w : World) (mg : Str → Option Value) (fa : Addr) (h : Heap), (K w.params).In h → h.Ns mainGlobals mg → mg d.name = some (.ref fa) →
      ∃ fd : FuncData, (∀ (s : Shared) (u : Value), BindsTo s fd ⟨[u], []⟩ [("_law_script", u)]) ∧ ∀ base : Heap, (K w.params).In base → base.Ns mainGlobals mg → Gd.FnG l.prog w (K w.params) mg base CX0 6 fa fd ["_law_script"] (spLaw (K w.params))) :
    PySem.W.WalkO q loose XP YP l.row.toRowW d [] (fun f vs => PySem.call f vs) :=
  Gd.walkG (n := 63) (k := 6) (x := "_law_script") (sp := spLaw) hn (by decide) hdf ⟨rfl, by decide, by decide⟩ hY F fun _ H a ns hl _ hS => ⟨a, ns, rfl, hS, hl, fun _ => rfl⟩
end Dr
open PySem PySem.W PyProof.Rows in
set_option maxRecDepth 100000 in
set_option maxHeartbeats 0 in
theorem PySem.Challenge.cw_oncedefaults_k13_errors_made_holds : PySem.Challenge.rw_oncedefaults_k13_errors_made.Holds := by
  w_on; o_law; k_head; (case hw => w_witness2)
  k_fill
  refine Dr.walk (l := PySem.Challenge.rw_oncedefaults_k13_errors_made) rfl rfl (fun w h Y => PySem.W.kIn_of Y) ?F
  case F =>
    intro w mg fa h KX G hmg
    refine' Dr.all_mk KX G hmg ?abg ?lbg ?cbg ?kbg ?atk ?ltk ?ctk ?ktk ?ath ?lth ?cth ?kth ?afi ?lfi ?cfi ?kfi ?ase ?lse ?cse ?kse ?acl ?lcl ?ccl ?kcl ?alw ?llw ?clw ?klw ?yg0 ?yi0 ?yl0 ?yc0 ?yb0 ?yg1 ?yi1 ?yl1 ?yc1 ?yb1 ?yg2 ?yi2 ?yl2 ?yc2 ?yb2 ?yg3 ?yi3 ?yl3 ?yc3 ?yb3 ?yg4 ?yi4 ?yl4 ?yc4 ?yb4 ?yg5 ?yi5 ?yl5 ?yc5 ?yb5 ?yg6 ?yi6 ?yl6 ?yc6 ?yb6 ?yg7 ?yi7 ?yl7 ?yc7 ?yb7 ?yg8 ?yi8 ?yl8 ?yc8 ?yb8 ?yg9 ?yi9 ?yl9 ?yc9 ?yb9 ?yg10 ?yi10 ?yl10 ?yc10 ?yb10 ?yg11 ?yi11 ?yl11 ?yc11 ?yb11 ?yg12 ?yi12 ?yl12 ?yc12 ?yb12 ?yg13 ?yi13 ?yl13 ?yc13 ?yb13 ?yg14 ?yi14 ?yl14 ?yc14 ?yb14 ?yg15 ?yi15 ?yl15 ?yc15 ?yb15 ?yg16 ?yi16 ?yl16 ?yc16 ?yb16 ?yg17 ?yi17 ?yl17 ?yc17 ?yb17 ?yg18 ?yb18 ?yg19 ?yi19 ?yl19 ?yc19 ?yb19 ?yg20 ?yi20 ?yl20 ?yc20 ?yb20 ?yg21 ?yi21 ?yl21 ?yc21 ?yb21 ?yg22 ?yi22 ?yl22 ?yc22 ?yb22 ?yg23 ?yi23 ?yl23 ?yc23 ?yb23 ?yg24 ?yi24 ?yl24 ?yc24 ?yb24 ?yg25 ?yi25 ?yl25 ?yc25 ?yb25 ?yg26 ?yi26 ?yl26 ?yc26 ?yb26 ?yg27 ?yi27 ?yl27 ?yc27 ?yb27 ?yg28 ?yi28 ?yl28 ?yc28 ?yb28 ?ynv ?yq18 ?yk18 ?ygP ?ygC ?ykit ?ykil ?z_len ?z_int ?z_abs ?z_enumerate ?z_range ?z_tuple ?z_isinstance ?z_repr ?z_max ?z_min ?z_ValueError ?z_TypeError ?z_KeyError ?z_IndexError ?z_LookupError ?z_OverflowError
    (case abg => k_is)
    (case lbg => k_is)
    (case cbg => k_is)
    (case kbg => k_is)
    (case atk => k_is)
    (case ltk => k_is)
    (case ctk => k_is)
    (case ktk => k_is)
    (case ath => k_is)
    (case lth => k_is)
    (case cth => k_is)
    (case kth => k_is)
    (case afi => k_is)
    (case lfi => k_is)
    (case cfi => k_is)
    (case kfi => k_is)
    (case ase => k_is)
    (case lse => k_is)
    (case cse => k_is)
    (case kse => k_is)
    (case acl => k_is)
    (case lcl => k_is)
    (case ccl => k_is)
    (case kcl => k_is)
    (case alw => k_is)
    (case llw => k_is)
    (case clw => k_is)
    (case klw => k_is)
    (case yg0 => k_is)
    (case yi0 => k_is)
    (case yl0 => k_is)
    (case yc0 => k_is)
    (case yg1 => k_is)
    (case yi1 => k_is)
    (case yl1 => k_is)
    (case yc1 => k_is)
    (case yg2 => k_is)
    (case yi2 => k_is)
    (case yl2 => k_is)
    (case yc2 => k_is)
    (case yg3 => k_is)
    (case yi3 => k_is)
    (case yl3 => k_is)
    (case yc3 => k_is)
    (case yg4 => k_is)
    (case yi4 => k_is)
    (case yl4 => k_is)
    (case yc4 => k_is)
    (case yg5 => k_is)
    (case yi5 => k_is)
    (case yl5 => k_is)
    (case yc5 => k_is)
    (case yg6 => k_is)
    (case yi6 => k_is)
    (case yl6 => k_is)
    (case yc6 => k_is)
    (case yg7 => k_is)
    (case yi7 => k_is)
    (case yl7 => k_is)
    (case yc7 => k_is)
    (case yg8 => k_is)
    (case yi8 => k_is)
    (case yl8 => k_is)
    (case yc8 => k_is)
    (case yg9 => k_is)
    (case yi9 => k_is)
    (case yl9 => k_is)
    (case yc9 => k_is)
    (case yg10 => k_is)
    (case yi10 => k_is)
    (case yl10 => k_is)
    (case yc10 => k_is)
    (case yg11 => k_is)
    (case yi11 => k_is)
    (case yl11 => k_is)
    (case yc11 => k_is)
    (case yg12 => k_is)
    (case yi12 => k_is)
    (case yl12 => k_is)
    (case yc12 => k_is)
    (case yg13 => k_is)
    (case yi13 => k_is)
    (case yl13 => k_is)
    (case yc13 => k_is)
    (case yg14 => k_is)
    (case yi14 => k_is)
    (case yl14 => k_is)
    (case yc14 => k_is)
    (case yg15 => k_is)
    (case yi15 => k_is)
    (case yl15 => k_is)
    (case yc15 => k_is)
    (case yg16 => k_is)
    (case yi16 => k_is)
    (case yl16 => k_is)
    (case yc16 => k_is)
    (case yg17 => k_is)
    (case yi17 => k_is)
    (case yl17 => k_is)
    (case yc17 => k_is)
    (case yg18 => k_is)
    (case yg19 => k_is)
    (case yi19 => k_is)
    (case yl19 => k_is)
    (case yc19 => k_is)
    (case yg20 => k_is)
    (case yi20 => k_is)
    (case yl20 => k_is)
    (case yc20 => k_is)
    (case yg21 => k_is)
    (case yi21 => k_is)
    (case yl21 => k_is)
    (case yc21 => k_is)
    (case yg22 => k_is)
    (case yi22 => k_is)
    (case yl22 => k_is)
    (case yc22 => k_is)
    (case yg23 => k_is)
    (case yi23 => k_is)
    (case yl23 => k_is)
    (case yc23 => k_is)
    (case yg24 => k_is)
    (case yi24 => k_is)
    (case yl24 => k_is)
    (case yc24 => k_is)
    (case yg25 => k_is)
    (case yi25 => k_is)
    (case yl25 => k_is)
    (case yc25 => k_is)
    (case yg26 => k_is)
    (case yi26 => k_is)
    (case yl26 => k_is)
    (case yc26 => k_is)
    (case yg27 => k_is)
    (case yi27 => k_is)
    (case yl27 => k_is)
    (case yc27 => k_is)
    (case yg28 => k_is)
    (case yi28 => k_is)
    (case yl28 => k_is)
    (case yc28 => k_is)
    (case ynv => k_is)
    (case yk18 => k_is)
    (case ygP => k_is)
    (case ygC => k_is)
    (case z_len => k_is)
    (case z_int => k_is)
    (case z_abs => k_is)
    (case z_enumerate => k_is)
    (case z_range => k_is)
    (case z_tuple => k_is)
    (case z_isinstance => k_is)
    (case z_repr => k_is)
    (case z_max => k_is)
    (case z_min => k_is)
    (case z_ValueError => k_is)
    (case z_TypeError => k_is)
    (case z_KeyError => k_is)
    (case z_IndexError => k_is)
    (case z_LookupError => k_is)
    (case z_OverflowError => k_is)
    (case yb0 => (first | kernel_rfl | k_is | decide +kernel))
    (case yb1 => (first | kernel_rfl | k_is | decide +kernel))
    (case yb2 => (first | kernel_rfl | k_is | decide +kernel))
    (case yb3 => (first | kernel_rfl | k_is | decide +kernel))
    (case yb4 => (first | kernel_rfl | k_is | decide +kernel))
    (case yb5 => (first | kernel_rfl | k_is | decide +kernel))
    (case yb6 => (first | kernel_rfl | k_is | decide +kernel))
    (case yb7 => (first | kernel_rfl | k_is | decide +kernel))
    (case yb8 => (first | kernel_rfl | k_is | decide +kernel))
    (case yb9 => (first | kernel_rfl | k_is | decide +kernel))
    (case yb10 => (first | kernel_rfl | k_is | decide +kernel))
    (case yb11 => (first | kernel_rfl | k_is | decide +kernel))
    (case yb12 => (first | kernel_rfl | k_is | decide +kernel))
    (case yb13 => (first | kernel_rfl | k_is | decide +kernel))
    (case yb14 => (first | kernel_rfl | k_is | decide +kernel))
    (case yb15 => (first | kernel_rfl | k_is | decide +kernel))
    (case yb16 => (first | kernel_rfl | k_is | decide +kernel))
    (case yb17 => (first | kernel_rfl | k_is | decide +kernel))
    (case yb18 => (first | kernel_rfl | k_is | decide +kernel))
    (case yb19 => (first | kernel_rfl | k_is | decide +kernel))
    (case yb20 => (first | kernel_rfl | k_is | decide +kernel))
    (case yb21 => (first | kernel_rfl | k_is | decide +kernel))
    (case yb22 => (first | kernel_rfl | k_is | decide +kernel))
    (case yb23 => (first | kernel_rfl | k_is | decide +kernel))
    (case yb24 => (first | kernel_rfl | k_is | decide +kernel))
    (case yb25 => (first | kernel_rfl | k_is | decide +kernel))
    (case yb26 => (first | kernel_rfl | k_is | decide +kernel))
    (case yb27 => (first | kernel_rfl | k_is | decide +kernel))
    (case yb28 => (first | kernel_rfl | k_is | decide +kernel))
    (case yq18 => (first | kernel_rfl | k_is | decide +kernel))
    (case ykit => (first | kernel_rfl | k_is | decide +kernel))
    (case ykil => (first | kernel_rfl | k_is | decide +kernel))
